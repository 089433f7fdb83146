import PyProof.Rows.All
import Wide.All
import OpenK.AllK
import Wide.FinOn
import Lean
import PyProof.EqAt
import PyProof.EqKinds
import PyProof.TupleCall
import PyProof.SetScanFacts
import PyProof.TupleKey
import PyProof.SetKind
import PyProof.IsRules
import PyProof.Rules
import PyProof.Rows.SetFrom
import PyProof.SetRoads
import KE.KDictOf
import KE.KEqDict
import PyProof.NeKinds
import PyProof.Rows.MinMaxN
import PyProof.ListRange
import PyProof.TupleOfGen
import PyProof.EnumMake
import PySem.Challenge.RW_mapwright_k01_patterns_told
set_option Elab.async false
set_option linter.all false
set_option maxRecDepth 100000
abbrev Fg := PySem.W.Frag
namespace L2
open PySem PySem.Spec PyProof.Rows
abbrev Key := Sum Int Str
def aaq : Key -> Value -> Bool
 | .inl k, v => Value.isInt k v
 | .inr x, v => Value.isStrOf x v
def azp (w : World) : Key -> Int
 | .inl k => hashInt k
 | .inr x => hashStr w x
theorem gr : ∀ {k : Key} {v : Value}, aaq k v = true -> (∃ i t, k = Sum.inl i /\ v = Value.int i t) \/ (∃ x t, k = Sum.inr x /\ v = Value.str x t)
 | .inl i, v, h => by
  obtain ⟨t, e⟩ := Value.isInt_shape (k := i) (v := v) h
  exact .inl ⟨i, t, rfl, e⟩
 | .inr x, v, h => by
  obtain ⟨t, e⟩ := Value.isStrOf_shape (x := x) (v := v) h
  exact .inr ⟨x, t, rfl, e⟩
theorem al3 (i : Int) (t : Tok) : aaq (.inl i) (.int i t) = true := by simp [aaq, Value.isInt]
theorem am0 (x : Str) (t : Tok) : aaq (.inr x) (.str x t) = true := by simp [aaq, Value.isStrOf]
theorem at9 (a b : Int) : decide ((Sum.inl a : Key) = Sum.inl b) = (a == b) := by
 by_cases e : a = b
 . subst e; simp
 . have h : ¬ (Sum.inl a : Key) = Sum.inl b := fun q => e (Sum.inl.inj q)
   rw [decide_eq_false h]
   exact (beq_eq_false_iff_ne.mpr e).symm
theorem aub (a b : Str) : decide ((Sum.inr a : Key) = Sum.inr b) = decide (a = b) := by
 by_cases e : a = b
 . subst e; simp
 . have h : ¬ (Sum.inr a : Key) = Sum.inr b := fun q => e (Sum.inr.inj q)
   rw [decide_eq_false h, decide_eq_false e]
theorem awq (a : Int) (b : Str) : decide ((Sum.inl a : Key) = Sum.inr b) = false := decide_eq_false (fun q => nomatch q)
theorem aui (a : Str) (b : Int) : decide ((Sum.inr a : Key) = Sum.inl b) = false := decide_eq_false (fun q => nomatch q)
def ak (prog : Program) (w : World) : PySem.KeyKind prog w Key where
 is := aaq
 hash := azp w
 inj := fun v a b ha hb => by
  rcases gr ha with ⟨i, t, rfl, rfl⟩ | ⟨x, t, rfl, rfl⟩
  . rcases gr hb with ⟨j, u, rfl, e⟩ | ⟨y, u, rfl, e⟩
    . injection e with e1 _; rw [e1]
    . exact nomatch e
  . rcases gr hb with ⟨j, u, rfl, e⟩ | ⟨y, u, rfl, e⟩
    . exact nomatch e
    . injection e with e1 _; rw [e1]
 byValue := fun k v h => by
  rcases gr h with ⟨i, t, rfl, rfl⟩ | ⟨x, t, rfl, rfl⟩ <;> rfl
 pyHash := fun hv h => by
  rcases gr hv with ⟨i, t, rfl, rfl⟩ | ⟨x, t, rfl, rfl⟩
  . exact wpAny_pyHash_int h
  . exact wpAny_pyHash_str h
 eqBool := fun hu hv h => by
  rcases gr hu with ⟨i, t, rfl, rfl⟩ | ⟨x, t, rfl, rfl⟩
  . rcases gr hv with ⟨j, u, rfl, rfl⟩ | ⟨y, u, rfl, rfl⟩
    . rw [at9] at h; exact wpAny_eqBool_int h
    . rw [awq] at h; exact SeqAt.EqAt.int_str i t y u _ _ _ _ h
  . rcases gr hv with ⟨j, u, rfl, rfl⟩ | ⟨y, u, rfl, rfl⟩
    . rw [aui] at h; exact SeqAt.EqAt.str_int x t j u _ _ _ _ h
    . rw [aub] at h; exact wpAny_eqBool_str h
 «strs» := fun k x t v h => by
  rcases gr h with ⟨i, u, rfl, e⟩ | ⟨y, u, rfl, e⟩
  . exact nomatch e
  . injection e with e1 _
    subst e1
    cases v <;> rfl
theorem ah7 (prog : Program) (w : World) (i : Int) (t : Tok) : (ak prog w).is (.inl i) (.int i t) = true := al3 i t
theorem aig (prog : Program) (w : World) (x : Str) (t : Tok) : (ak prog w).is (.inr x) (.str x t) = true := am0 x t
end L2
namespace L2
open PySem PySem.Spec PyProof.Rows
inductive V where
 | non | bl (b : Bool) | int (i : Int) | str (x : Str) | byt (b : Array UInt8) | flt (b : UInt64) | ref (a : Addr) | ty (n : String)
 deriving DecidableEq
def RelV : V -> Value -> Prop
 | .non, u => u = Value.none
 | .bl b, u => u = Value.bool b
 | .int i, u => ∃ t, u = Value.int i t
 | .str x, u => ∃ t, u = Value.str x t
 | .byt b, u => ∃ t, u = Value.bytes b t
 | .flt b, u => ∃ t, u = Value.float b t
 | .ref a, u => u = Value.ref a
 | .ty n, u => u = Value.type n
abbrev Vals : List V -> List Value -> Prop := Paired RelV
theorem Vals.length {xs : List V} {us : List Value} (r : Vals xs us) : xs.length = us.length := Paired.length r
theorem Vals.get : ∀ {xs : List V} {us : List Value} {i : Nat} {x : V}, Vals xs us -> xs[i]? = some x -> ∃ u, us[i]? = some u /\ RelV x u
 | _, _, _, _, .nil, e => by simp at e
 | _, _, 0, _, .cons r _, e => by simp at e; subst e; exact ⟨_, rfl, r⟩
 | _, _, i + 1, x, .cons _ t, e => by
  obtain ⟨u, h1, h2⟩ := Vals.get (i := i) (x := x) t (by simpa using e)
  exact ⟨u, by simpa using h1, h2⟩
theorem Vals.set {x : V} {u : Value} (r : RelV x u) : ∀ {xs : List V} {us : List Value} (i : Nat), Vals xs us -> Vals (xs.set i x) (us.set i u)
 | _, _, _, .nil => .nil
 | _, _, 0, .cons _ t => .cons r t
 | _, _, i + 1, .cons q t => .cons q (Vals.set r i t)
theorem Vals.append : ∀ {xs ys : List V} {us ws : List Value}, Vals xs us -> Vals ys ws -> Vals (xs ++ ys) (us ++ ws)
 | _, _, _, _, .nil, s => s
 | _, _, _, _, .cons r t, s => .cons r (Vals.append t s)
theorem Vals.take : ∀ {xs : List V} {us : List Value} (n : Nat), Vals xs us -> Vals (xs.take n) (us.take n)
 | _, _, 0, _ => .nil
 | _, _, _ + 1, .nil => .nil
 | _, _, n + 1, .cons r t => .cons r (Vals.take n t)
theorem Vals.drop : ∀ {xs : List V} {us : List Value} (n : Nat), Vals xs us -> Vals (xs.drop n) (us.drop n)
 | _, _, 0, r => r
 | _, _, _ + 1, .nil => .nil
 | _, _, n + 1, .cons _ t => Vals.drop n t
def RelO : Option V -> Option Value -> Prop
 | some v, some u => RelV v u
 | none, none => True
 | _, _ => False
def KV {κ : Type} : List (κ × V) -> List (κ × Value) -> Prop := Paired fun (p : κ × V) (q : κ × Value) => p.1 = q.1 /\ RelV p.2 q.2
def kV : Key -> V
 | .inl i => .int i
 | .inr x => .str x
inductive HO where
 | lst (xs : List V)
 | tup (xs : List V)
 | dK (kvs : List (Key × V)) | dT (kvs : List (List Key × V))
 | set (S : Int -> Bool) (n : Nat)
 | ins (C dx : Addr) (fs : List (Str × V))
 | own (x : Addr)
 | xd (fs : List (Str × V))
 | met (f x : Addr)
 | rng (lo hi : Int)
 | frz (o : Obj) (u : HO)
 | tbl (ps : Array Value)
 | ext (φ : Heap -> Prop)
abbrev Hp := Addr -> Option HO
def upd (H : Hp) (a : Addr) (o : HO) : Hp := fun b => if b = a then some o else H b
theorem cg {H : Hp} {a : Addr} {o : HO} : upd H a o a = some o := by unfold upd; rw [if_pos rfl]
theorem au {H : Hp} {a b : Addr} {o : HO} (h : b ≠ a) : upd H a o b = H b := by unfold upd; rw [if_neg h]
theorem aj9 {H : Hp} {a b : Addr} {o u : HO} (h : H a = some o) (h' : H b = some u) (d : o ≠ u) : a ≠ b := by
 intro e; subst e; rw [h] at h'; exact d (Option.some.inj h')
theorem bc {H : Hp} {a b : Addr} {o : HO} (h : H a = some o) (h' : H b = none) : a ≠ b := by
 intro e; subst e; rw [h] at h'; cases h'
section
variable (P : Program) (w : World)
def ObjOk (H : Hp) (h : Heap) (a : Addr) : HO -> Prop
 | .lst xs => xs.length <= sizeLine /\ ∃ (its : List Value) (n : Nat), Vals xs its /\ h.get? a = some { cls := .type "list", data := .seq its.toArray n }
 | .tup xs => xs.length <= sizeLine /\ ∃ its : List Value, Vals xs its /\ IsTup h a its.toArray
 | .dK kvs => kvs.length <= sizeLine /\ (a == sysModules) = false /\ ∃ vs, KV kvs vs /\ h.DictOf (ak P w) a vs
 | .dT kvs => kvs.length <= sizeLine /\ (a == sysModules) = false /\ ∃ xs : List (List Key × Addr × Value),
  Paired (fun (p : List Key × V) (q : List Key × Addr × Value) => p.1 = q.1 /\ H q.2.1 = some (.tup (p.1.map kV)) /\ RelV p.2 q.2.2) kvs xs /\
  ∃ o es ep, h.get? a = some o /\ o.ExactDict /\ o.data = .dict es ep /\ es.toList = xs.map (entryOfKey (tupleKind (ak P w))) /\ (xs.map (·.1)).Nodup
 | .set S n => h.SetOf (intKind P w) a S n
 | .ins C dx fs => H dx = some (.own a) /\ fs.length <= 1000 /\ dx ≠ a /\ h.get? a = some (PySem.W.instObj C dx) /\
  ∃ mA, h.Ns1 dx mA /\ (∀ f, RelO (fs.lookup f) (mA f)) /\ PySem.Within mA (fs.map (·.1))
 | .own _ => ∃ o, h.get? a = some o
 | .xd fs => ∃ mA, h.Ns1 a mA /\ ∀ f, RelO (fs.lookup f) (mA f)
 | .rng lo hi => ∃ t u v, h.get? a = some { cls := .type "range", data := .fields #[.int lo t, .int hi u, .int 1 v] }
 | .frz o u => h.get? a = some o /\ ObjOk H h a u
 | .tbl ps => h.get? a = some { cls := .none, data := .fields ps }
 | .met f x => h.get? a = some (PySem.W.methodObj (.ref f) (.ref x))
 | .ext φ => φ h /\ (∃ o, h.get? a = some o) /\ ∀ h1 h2 : Heap, φ h1 -> (∀ o, h1.get? a = some o -> h2.get? a = some o) -> φ h2
def HOk (H : Hp) (h : Heap) : Prop := ∀ a o, H a = some o -> ObjOk P w H h a o
end
section
variable {P : Program} {w : World} {H H' : Hp} {h h' : Heap} {a : Addr} {o : HO}
theorem ObjOk.lt (x : ObjOk P w H h a o) : a < h.objs.size := by
 cases o with
 | lst xs => obtain ⟨_, _, _, _, e⟩ := x; exact Heap.lt_size e
 | tup xs => obtain ⟨_, _, _, p⟩ := x; exact p.lt
 | dK kvs => obtain ⟨_, _, _, _, o, _, _, e, _⟩ := x; exact Heap.lt_size e
 | dT kvs => obtain ⟨_, _, _, _, o, _, _, e, _⟩ := x; exact Heap.lt_size e
 | set S n => obtain ⟨o, _, _, _, e, _⟩ := x; exact Heap.lt_size e
 | ins C dx fs => obtain ⟨_, _, _, e, _⟩ := x; exact Heap.lt_size e
 | own y => obtain ⟨_, e⟩ := x; exact Heap.lt_size e
 | xd fs => obtain ⟨_, ⟨_, _, _, e, _⟩, _⟩ := x; exact Heap.lt_size e
 | rng lo hi => obtain ⟨_, _, _, e⟩ := x; exact Heap.lt_size e
 | frz ob u => obtain ⟨e, _⟩ := x; exact Heap.lt_size e
 | tbl ps => exact Heap.lt_size (show h.get? a = some _ from x)
 | met f y => exact Heap.lt_size (show h.get? a = some _ from x)
 | ext φ => obtain ⟨_, ⟨_, e⟩, _⟩ := x; exact Heap.lt_size e
theorem Paired.mapP {α β : Type} {F G : α -> β -> Prop} : ∀ {l₁ : List α} {l₂ : List β}, Paired F l₁ l₂ -> (∀ a b, F a b -> G a b) -> Paired G l₁ l₂
 | _, _, .nil, _ => .nil
 | _, _, .cons r t, f => .cons (f _ _ r) (Paired.mapP t f)
theorem ObjOk.stay (x : ObjOk P w H h a o) (k : ∀ b u, (b = a \/ H b = some (.own a)) -> h.get? b = some u -> h'.get? b = some u)
 (ho : ∀ b, H b = some (.own a) -> H' b = some (.own a)) (ht : ∀ b xs, H b = some (.tup xs) -> H' b = some (.tup xs)) : ObjOk P w H' h' a o := by
 induction o with
 | lst xs => obtain ⟨z, its, n, r, e⟩ := x; exact ⟨z, its, n, r, k _ _ (.inl rfl) e⟩
 | tup xs => obtain ⟨z, its, r, ob, e, c⟩ := x; exact ⟨z, its, r, ob, k _ _ (.inl rfl) e, c⟩
 | dK kvs => obtain ⟨z, y, vs, r, ob, es, ep, e, c⟩ := x; exact ⟨z, y, vs, r, ob, es, ep, k _ _ (.inl rfl) e, c⟩
 | dT kvs =>
  obtain ⟨z, y, xs, r, ob, es, ep, e, c⟩ := x
  exact ⟨z, y, xs, Paired.mapP r fun p q z => ⟨z.1, ht _ _ z.2.1, z.2.2⟩, ob, es, ep, k _ _ (.inl rfl) e, c⟩
 | set S n => obtain ⟨ob, es, ep, t, e, c⟩ := x; exact ⟨ob, es, ep, t, k _ _ (.inl rfl) e, c⟩
 | ins C dx fs =>
  obtain ⟨d, z, ne, e, mA, ⟨od, es, ep, e2, c⟩, r⟩ := x
  exact ⟨ho _ d, z, ne, k _ _ (.inl rfl) e, mA, ⟨od, es, ep, k _ _ (.inr d) e2, c⟩, r⟩
 | own y => obtain ⟨ob, e⟩ := x; exact ⟨ob, k _ _ (.inl rfl) e⟩
 | xd fs => obtain ⟨mA, ⟨od, es, ep, e, c⟩, r⟩ := x; exact ⟨mA, ⟨od, es, ep, k _ _ (.inl rfl) e, c⟩, r⟩
 | rng lo hi => obtain ⟨t, u, v, e⟩ := x; exact ⟨t, u, v, k _ _ (.inl rfl) e⟩
 | frz ob u ih => obtain ⟨e, q⟩ := x; exact ⟨k _ _ (.inl rfl) e, ih q⟩
 | tbl ps =>
  have e : h.get? a = some { cls := .none, data := .fields ps } := x
  show h'.get? a = some { cls := .none, data := .fields ps }
  exact k a _ (.inl rfl) e
 | met f y =>
  have e : h.get? a = some (PySem.W.methodObj (.ref f) (.ref y)) := x
  show h'.get? a = some (PySem.W.methodObj (.ref f) (.ref y))
  exact k a _ (.inl rfl) e
 | ext φ => obtain ⟨p, ⟨o, e⟩, st⟩ := x; exact ⟨st _ _ p fun o q => k _ _ (.inl rfl) q, ⟨o, k _ _ (.inl rfl) e⟩, st⟩
theorem HOk.lt (x : HOk P w H h) (e : H a = some o) : a < h.objs.size := (x a o e).lt
theorem HOk.fresh (x : HOk P w H h) (e : h.objs.size <= a) : H a = none := by
 cases q : H a with
 | none => rfl
 | some u => exact absurd (Nat.lt_of_lt_of_le (x.lt q) e) (Nat.lt_irrefl _)
theorem HOk.kept (x : HOk P w H h) (k : ∀ b u, h.get? b = some u -> h'.get? b = some u) : HOk P w H h' := fun a o e =>
 (x a o e).stay (fun b u _ q => k b u q) (fun _ q => q) fun _ _ q => q
theorem HOk.laid (x : HOk P w H h) (k : ∀ b u, h.get? b = some u -> h'.get? b = some u) (hp : h.objs.size <= a) (new : ObjOk P w (upd H a o) h' a o) : HOk P w (upd H a o) h' := fun b u e => by
 have hn := x.fresh hp
 by_cases hb : b = a
 . subst hb; rw [cg] at e; cases e; exact new
 . rw [au hb] at e
   exact (x b u e).stay (fun c v _ q => k c v q) (fun c q => by rw [au (bc q hn)]; exact q) fun c xs q => by rw [au (bc q hn)]; exact q
end
def Rd (H : Hp) (a : Addr) (u : HO) : Prop := H a = some u \/ ∃ o, H a = some (.frz o u)
theorem Rd.ok {P : Program} {w : World} {H : Hp} {h : Heap} {a : Addr} {u : HO} (r : Rd H a u) (x : HOk P w H h) : ObjOk P w H h a u := by
 rcases r with r | ⟨o, r⟩
 . exact x a u r
 . obtain ⟨_, q⟩ := x a _ r
   exact q
def Mut : Option HO -> Prop
 | some (.lst _) => True
 | some (.dK _) => True
 | some (.dT _) => True
 | some (.set _ _) => True
 | some (.ins _ _ _) => True
 | some (.ext _) => True
 | _ => False
section
variable {P : Program} {w : World} {H : Hp} {h h' : Heap} {x e : Addr} {o' : HO}
theorem HOk.write (ok : HOk P w H h) (mu : Mut (H x)) (he : e = x \/ H e = some (.own x)) (k : ∀ b u, b ≠ e -> h.get? b = some u -> h'.get? b = some u) (heo : ∃ u, h'.get? e = some u)
 (new : ObjOk P w (upd H x o') h' x o') : HOk P w (upd H x o') h' := fun b u q => by
 have nown : ∀ c y, H c = some (.own y) -> c ≠ x := fun c y r z => by subst z; rw [r] at mu; exact mu
 have ntup : ∀ c xs, H c = some (.tup xs) -> c ≠ x := fun c xs r z => by subst z; rw [r] at mu; exact mu
 by_cases hb : b = x
 . subst hb; rw [cg] at q; cases q; exact new
 . rw [au hb] at q
   by_cases hbe : b = e
   . have q' : H b = some (.own x) := by
      rcases he with z | z
      . exact absurd (hbe.trans z) hb
      . rw [hbe]; exact z
     rw [q] at q'; cases q'
     obtain ⟨v, hv⟩ := heo
     exact ⟨v, by rw [hbe]; exact hv⟩
   . refine (ok b u q).stay (fun c v hc r => k c v ?_ r) (fun c r => by rw [au (nown c b r)]; exact r) fun c xs r => by rw [au (ntup c xs r)]; exact r
     rcases hc with rfl | hc
     . exact hbe
     . rintro rfl
       rcases he with z | z
       . exact nown c b hc z
       . rw [hc] at z; cases z; exact hb rfl
end
structure Un (fs ex : List Addr) (H H' : Hp) (h h' : Heap) : Prop where
 keep : ∀ b o, h.get? b = some o -> H b = none -> b ∉ fs -> b ∉ ex -> h'.get? b = some o
 slot : ∀ b o, h.get? b = some o -> H b = none -> b ∈ fs -> b ∉ ex -> ∃ sl, h'.get? b = some { o with slots := sl }
 free : ∀ b o, h.get? b = some o -> H b = none -> b ∉ ex -> H' b = none
 there : ∀ b o, h.get? b = some o -> b ∉ ex -> ∃ o', h'.get? b = some o'
 tups : ∀ b xs, H b = some (.tup xs) -> H' b = some (.tup xs)
 frzs : ∀ b o u, H b = some (.frz o u) -> H' b = some (.frz o u)
 tbls : ∀ b ps, H b = some (.tbl ps) -> ∃ more, H' b = some (.tbl (ps ++ more))
section
variable {fs fs' ex ex' : List Addr} {H H1 H2 : Hp} {h h1 h2 h' : Heap} {a x e : Addr} {o : HO}
theorem Un.any (u : Un fs ex H H1 h h1) {b : Addr} {ob : Obj} (q : h.get? b = some ob) (n : H b = none) (hx : b ∉ ex) : ∃ sl, h1.get? b = some { ob with slots := sl } := by
 by_cases hb : b ∈ fs
 . exact u.slot b ob q n hb hx
 . exact ⟨ob.slots, u.keep b ob q n hb hx⟩
theorem Un.kept (k : ∀ b u, h.get? b = some u -> h'.get? b = some u) : Un fs ex H H h h' :=
 ⟨fun b ob q _ _ _ => k b ob q, fun b ob q _ _ _ => ⟨ob.slots, k b ob q⟩, fun _ _ _ n _ => n, fun b ob q _ => ⟨ob, k b ob q⟩, fun _ _ q => q, fun _ _ _ q => q, fun _ ps q => ⟨#[], by rw [q]; simp⟩⟩
theorem Un.refl : Un fs ex H H h h := Un.kept fun _ _ q => q
theorem Un.laid (k : ∀ b u, h.get? b = some u -> h'.get? b = some u) (hp : h.objs.size <= a) (hn : H a = none) : Un fs ex H (upd H a o) h h' where
 keep := fun b u q _ _ _ => k b u q
 slot := fun b u q _ _ _ => ⟨u.slots, k b u q⟩
 free := fun b u q n _ => by rw [au (Nat.ne_of_lt (Nat.lt_of_lt_of_le (Heap.lt_size q) hp))]; exact n
 there := fun b u q _ => ⟨u, k b u q⟩
 tups := fun b xs q => by rw [au (bc q hn)]; exact q
 frzs := fun b u xs q => by rw [au (bc q hn)]; exact q
 tbls := fun b ps q => ⟨#[], by rw [au (bc q hn), q]; simp⟩
theorem Un.write (mu : Mut (H x)) (he : e = x \/ H e = some (.own x)) (k : ∀ b u, b ≠ e -> h.get? b = some u -> h'.get? b = some u) (heo : ∃ u, h'.get? e = some u) : Un fs ex H (upd H x o) h h' := by
 have hx : ∀ b, H b = none -> b ≠ x := fun b n z => by subst z; rw [n] at mu; exact mu
 have hb : ∀ b, H b = none -> b ≠ e := fun b n z => by
  subst z
  rcases he with r | r
  . exact hx b n r
  . rw [n] at r; cases r
 have hm : ∀ b u, H b = some u -> ¬ Mut (some u) -> b ≠ x := fun b u q nm z => by subst z; rw [q] at mu; exact nm mu
 refine ⟨fun b u q n _ _ => k b u (hb b n) q, fun b u q n _ _ => ⟨u.slots, k b u (hb b n) q⟩, fun b u q n _ => by rw [au (hx b n)]; exact n, fun b u q _ => ?_,
  fun b xs q => by rw [au (hm b _ q fun z => z)]; exact q, fun b u xs q => by rw [au (hm b _ q fun z => z)]; exact q, fun b ps q => ⟨#[], by rw [au (hm b _ q fun z => z), q]; simp⟩⟩
 by_cases hbe : b = e
 . subst hbe; exact heo
 . exact ⟨u, k b u hbe q⟩
end
def trk (h : Heap) (H : Hp) : List Addr := (List.range h.objs.size).filter fun a => (H a).isSome
def aax (h : Heap) (H : Hp) : Heap := PySem.W.hideAll h (trk h H)
theorem al2 (h : Heap) (H : Hp) : (aax h H).objs.size = h.objs.size := PySem.W.hideAll_size _ _
theorem apm {h : Heap} {H : Hp} {b : Addr} {o : Obj} (e : h.get? b = some o) (n : H b = none) : (aax h H).get? b = some o :=
 PySem.W.hideAll_get _ e fun hm => by
  have q : (H b).isSome = true := (List.mem_filter.mp hm).2
  rw [n] at q; simp at q
theorem arf {h : Heap} {H : Hp} {b : Addr} {o : Obj} (e : (aax h H).get? b = some o) : h.get? b = some o /\ H b = none := by
 have e' : h.get? b = some o := PySem.W.of_hideAll (trk h H) e
 refine ⟨e', ?_⟩
 cases q : H b with
 | none => rfl
 | some x =>
  have hm : b ∈ trk h H := List.mem_filter.mpr ⟨List.mem_range.mpr (Heap.lt_size e'), by simp [q]⟩
  have z : (aax h H).get? b = none := PySem.W.hideAll_none (trk h H) hm
  rw [z] at e; cases e
end L2
namespace L2
open PySem PySem.Spec PyProof.Rows
structure Mod (K : Fg) (mg : Str -> Option Value) (base : Heap) : Prop where
 kin : K.In base
 glob : base.Ns mainGlobals mg
 blt : ∃ mb, base.Ns builtinsNs mb /\ ∀ x : Str, x ≠ "__name__" -> mb x = bootBuiltins x
 nolimit : base.NoLimit
structure Cx where
 prog : Program
 w : World
 K : Fg
 mg : Str -> Option Value
 base : Heap
 A : Around
 N : List Str
 s₀ : Shared
 H₀ : Hp
 env : Env
 outer : List Env
 stack : List Env
 ex : List Addr
 fn : Str -> Bool
 calm : Bool
 pn : List (Addr × Obj)
 xe : Value -> Shared -> Prop
def frs (l : List Env) : List Addr := l.filterMap (·.frame)
abbrev Cx.fs (X : Cx) : List Addr := frs X.outer
def Vis (sc : Scope) (x : Str) : Prop := sc.names.lookup x = some .local \/ sc.names.lookup x = some .cell \/ sc.names.lookup x = some .free
def Loc (sc : Scope) (x : Str) : Prop := sc.names.lookup x = some .local \/ sc.names.lookup x = some .cell
def Look (env : Env) (h : Heap) (m : Str -> Option Value) (x : Str) (u : Value) : Prop :=
 (env.kindOf x = some .local /\ m x = some u) \/ ((env.kindOf x = some .cell \/ env.kindOf x = some .free) /\ ∃ c, env.cells.lookup x = some c /\ h.IsCell c (some u))
structure Cx.Ok (X : Cx) : Prop where
 mod : Mod X.K X.mg X.base
 kind : X.env.scope.kind = .function
 glob : X.env.globals = mainGlobals
 blt : X.env.builtins = builtinsNs
 above : X.s₀.heap.objs.size <= X.env.locals
 inj : ∀ x y c, X.env.cells.lookup x = some c -> X.env.cells.lookup y = some c -> x = y
 has : ∀ x, (X.env.kindOf x = some .cell \/ X.env.kindOf x = some .free) -> ∃ c, X.env.cells.lookup x = some c
 cab : ∀ x c, X.fn x = true -> X.env.cells.lookup x = some c -> X.s₀.heap.objs.size <= c
 hd : X.calm = true -> X.A.handled = none
 frames : X.A.frames = some X.stack
 stk : X.stack = X.outer \/ (X.stack = X.env :: X.outer /\ X.env.frame = some X.env.locals)
 exf : ∀ b ∈ X.ex, b ≠ X.env.locals /\ ∀ x c, X.env.cells.lookup x = some c -> c ≠ b
 bs : ∀ b o, X.base.get? b = some o -> X.s₀.heap.get? b = some o /\ X.H₀ b = none
 bsz : X.base.objs.size <= X.s₀.heap.objs.size
 noex : ∀ b o, X.base.get? b = some o -> b ∉ X.ex
 exfs : ∀ b ∈ X.ex, b ∉ X.fs
 funs : X.s₀.heap.FunFrames X.base X.outer
 frf : ∀ b ∈ X.fs, X.H₀ b = none
structure Inv (X : Cx) (pins : List (Addr × Obj)) (σ : List (Option V)) (H : Hp) (s : Shared) : Prop where
 ok : X.Ok
 os : s.os = X.s₀.os
 bare : AllBare s.gens
 base : Un X.fs X.ex X.H₀ H X.s₀.heap s.heap
 loc : ∃ m, s.heap.Ns X.env.locals m /\ ∀ (i : Nat) (x : Str) (v : V), X.N[i]? = some x -> σ[i]? = some (some v) -> Vis X.env.scope x -> ∃ u, RelV v u /\ Look X.env s.heap m x u
 cell : ∀ x c, X.env.cells.lookup x = some c -> ∃ v, s.heap.IsCell c v
 free : H X.env.locals = none
 freeC : ∀ x c, X.env.cells.lookup x = some c -> H c = none
 pin : ∀ p ∈ X.pn ++ pins, s.heap.get? p.1 = some p.2 /\ H p.1 = none /\ p.1 ≠ X.env.locals /\ p.1 ∉ X.fs /\ ∀ v, p.2.data ≠ .cell v
 hok : HOk X.prog X.w H s.heap
 len : σ.length = X.N.length
section
variable {X : Cx} {pins : List (Addr × Obj)} {σ : List (Option V)} {H H' : Hp} {s : Shared} {h' : Heap}
theorem Cx.Ok.nofr (ok : X.Ok) {b : Addr} {o : Obj} (e : X.base.get? b = some o) : b ∉ X.fs := fun hb => by
 have := (ok.funs.mem hb).1
 rw [e] at this; cases this
theorem Inv.bs (I : Inv X pins σ H s) : ∀ b o, X.base.get? b = some o -> s.heap.get? b = some o /\ H b = none := fun b o e =>
 ⟨I.base.keep b o (I.ok.bs b o e).1 (I.ok.bs b o e).2 (I.ok.nofr e) (I.ok.noex b o e), I.base.free b o (I.ok.bs b o e).1 (I.ok.bs b o e).2 (I.ok.noex b o e)⟩
theorem Inv.bk (I : Inv X pins σ H s) : ∀ b o, X.base.get? b = some o -> s.heap.get? b = some o := fun b o e => (I.bs b o e).1
theorem Inv.mod (I : Inv X pins σ H s) : Mod X.K X.mg X.base := I.ok.mod
theorem Inv.kIn (I : Inv X pins σ H s) : X.K.In s.heap := I.ok.mod.kin.keeps I.bk
theorem Inv.lt (I : Inv X pins σ H s) : X.env.locals < s.heap.objs.size := let ⟨_, hn, _⟩ := I.loc; hn.lt
theorem Inv.sz (I : Inv X pins σ H s) : X.s₀.heap.objs.size <= s.heap.objs.size := Nat.le_trans I.ok.above (Nat.le_of_lt I.lt)
theorem Inv.nofs (I : Inv X pins σ H s) {a : Addr} (h : s.heap.objs.size <= a) : a ∉ X.fs := fun hb => by
 obtain ⟨_, o, ho, _⟩ := I.ok.funs.mem hb
 exact absurd (Nat.lt_of_lt_of_le (Heap.lt_size ho) (Nat.le_trans I.sz h)) (Nat.lt_irrefl _)
theorem Inv.cne (I : Inv X pins σ H s) : ∀ x c, X.env.cells.lookup x = some c -> c ≠ X.env.locals := fun x c e z => by
 obtain ⟨v, o, ho, hd⟩ := I.cell x c e
 obtain ⟨m, ⟨o', es, ep, ho', hd', _⟩, _⟩ := I.loc
 rw [z, ho'] at ho; cases ho; rw [hd'] at hd; cases hd
theorem Inv.funs (I : Inv X pins σ H s) : s.heap.FunFrames X.base X.outer := by
 have all : ∀ (l : List Env), (∀ b ∈ frs l, b ∈ X.fs) -> X.s₀.heap.FunFrames X.base l -> s.heap.FunFrames X.base l := by
  intro l
  induction l with
  | nil => intro _ _; trivial
  | cons env r ih =>
   intro hs hl
   obtain ⟨hk, ⟨L, o, hf, hn, ho, hd⟩, hr⟩ := hl
   have hL : L ∈ X.fs := hs L (by unfold frs; rw [List.filterMap_cons, hf]; exact List.mem_cons_self)
   obtain ⟨sl, e⟩ := I.base.slot L o ho (I.ok.frf L hL) hL fun z => I.ok.exfs L z hL
   exact ⟨hk, ⟨L, _, hf, hn, e, hd⟩, ih (fun b hb => hs b (by unfold frs; rw [List.filterMap_cons, hf]; exact List.mem_cons_of_mem _ hb)) hr⟩
 exact all X.outer (fun _ hb => hb) I.ok.funs
theorem Inv.stack (I : Inv X pins σ H s) : s.heap.FunFrames X.base X.stack := by
 rcases I.ok.stk with e | ⟨e, hf⟩
 . rw [e]; exact I.funs
 . rw [e]
   obtain ⟨m, hn, _⟩ := I.loc
   refine .cons (by rw [I.ok.kind]; decide) hf hn ?_ I.funs
   exact Heap.get?_none_of_le (Nat.le_trans I.ok.bsz I.ok.above)
theorem Inv.stkSub (I : Inv X pins σ H s) : ∀ b ∈ frs X.stack, b ∈ X.env.locals :: X.fs := fun b hb => by
 rcases I.ok.stk with e | ⟨e, hf⟩
 . rw [e] at hb; exact List.mem_cons_of_mem _ hb
 . rw [e] at hb
   unfold frs at hb
   rw [List.filterMap_cons, hf] at hb
   exact hb
theorem Inv.stkFree (I : Inv X pins σ H s) : ∀ b ∈ frs X.stack, H b = none := fun b hb => by
 rcases List.mem_cons.mp (I.stkSub b hb) with e | hb
 . rw [e]; exact I.free
 . obtain ⟨_, o, ho, _⟩ := I.ok.funs.mem hb
   exact I.base.free b o ho (I.ok.frf b hb) fun z => I.ok.exfs b z hb
theorem Inv.step {g' : Array GenState} {t' : Nat} {d' : Drawn} {ch : List Addr} (I : Inv X pins σ H s)
 (hch : ∀ b ∈ ch, (b ∈ X.ex \/ X.s₀.heap.objs.size <= b) /\ b ≠ X.env.locals /\ (∀ x c, X.env.cells.lookup x = some c -> c ≠ b) /\ ∀ p ∈ X.pn ++ pins, p.1 ≠ b)
 (keep : ∀ b o, b ≠ X.env.locals -> b ∉ X.fs -> b ∉ ch -> s.heap.get? b = some o -> H b = none -> h'.get? b = some o)
 (slot : ∀ b o, b ≠ X.env.locals -> b ∈ X.fs -> b ∉ ch -> s.heap.get? b = some o -> H b = none -> ∃ sl, h'.get? b = some { o with slots := sl }) (free : ∀ b o, b ∉ ch -> s.heap.get? b = some o -> H b = none -> H' b = none)
 (there : ∀ b o, b ∉ ch -> s.heap.get? b = some o -> ∃ o', h'.get? b = some o')
 (tups : ∀ b xs, H b = some (.tup xs) -> H' b = some (.tup xs)) (frzs : ∀ b o u, H b = some (.frz o u) -> H' b = some (.frz o u)) (tbls : ∀ b ps, H b = some (.tbl ps) -> ∃ more, H' b = some (.tbl (ps ++ more)))
 (ns : ∀ m, s.heap.Ns X.env.locals m -> h'.Ns X.env.locals m) (hok : HOk X.prog X.w H' h') (hg : AllBare g') :
 Inv X pins σ H' { s with heap := h', gens := g', drawn := d', toks := t' } := by
 have neL : ∀ b o, X.s₀.heap.get? b = some o -> b ≠ X.env.locals := fun b o e => Nat.ne_of_lt (Nat.lt_of_lt_of_le (Heap.lt_size e) I.ok.above)
 have neC : ∀ b o, X.s₀.heap.get? b = some o -> b ∉ X.ex -> b ∉ ch := fun b o e hx hb => by
  rcases (hch b hb).1 with z | z
  . exact hx z
  . exact absurd (Nat.lt_of_lt_of_le (Heap.lt_size e) z) (Nat.lt_irrefl _)
 have cellK : ∀ x c, X.env.cells.lookup x = some c -> ∀ v, s.heap.IsCell c v -> h'.IsCell c v := fun x c e v ⟨o, ho, hd⟩ => by
  have nch : c ∉ ch := fun z => (hch c z).2.2.1 x c e rfl
  by_cases hc : c ∈ X.fs
  . obtain ⟨sl, q⟩ := slot c o (I.cne x c e) hc nch ho (I.freeC x c e)
    exact ⟨_, q, hd⟩
  . exact ⟨o, keep c o (I.cne x c e) hc nch ho (I.freeC x c e), hd⟩
 refine ⟨I.ok, I.os, hg, ⟨fun b o e n hb hx => ?_, fun b o e n hb hx => ?_, fun b o e n hx => ?_, fun b o e hx => ?_, fun b xs e => tups b xs (I.base.tups b xs e), fun b o xs e => frzs b o xs (I.base.frzs b o xs e), fun b ps e => ?_⟩, ?_, fun x c e => ?_, ?_, fun x c e => ?_, fun p hp => ?_, hok, I.len⟩
 . exact keep b o (neL b o e) hb (neC b o e hx) (I.base.keep b o e n hb hx) (I.base.free b o e n hx)
 . obtain ⟨sl, e1⟩ := I.base.slot b o e n hb hx
   obtain ⟨sl', e2⟩ := slot b _ (neL b o e) hb (neC b o e hx) e1 (I.base.free b o e n hx)
   exact ⟨sl', e2⟩
 . obtain ⟨o', e1⟩ := I.base.there b o e hx
   exact free b o' (neC b o e hx) e1 (I.base.free b o e n hx)
 . obtain ⟨o', e1⟩ := I.base.there b o e hx
   exact there b o' (neC b o e hx) e1
 . obtain ⟨m1, e1⟩ := I.base.tbls b ps e
   obtain ⟨m2, e2⟩ := tbls b _ e1
   exact ⟨m1 ++ m2, by rw [e2, Array.append_assoc]⟩
 . obtain ⟨m, hn, hl⟩ := I.loc
   refine ⟨m, ns m hn, fun i x v e1 e2 e3 => ?_⟩
   obtain ⟨u, r, l⟩ := hl i x v e1 e2 e3
   refine ⟨u, r, ?_⟩
   rcases l with l | ⟨k, c, e, z⟩
   . exact .inl l
   . exact .inr ⟨k, c, e, cellK x c e _ z⟩
 . obtain ⟨v, z⟩ := I.cell x c e
   exact ⟨v, cellK x c e v z⟩
 . obtain ⟨m, ⟨o, _, _, ho, _⟩, _⟩ := I.loc
   exact free _ o (fun z => (hch _ z).2.1 rfl) ho I.free
 . obtain ⟨v, o, ho, hd⟩ := I.cell x c e
   exact free c o (fun z => (hch c z).2.2.1 x c e rfl) ho (I.freeC x c e)
 . obtain ⟨e, n, ne, nf, d⟩ := I.pin p hp
   have nch : p.1 ∉ ch := fun z => (hch p.1 z).2.2.2 p hp rfl
   exact ⟨keep p.1 p.2 ne nf nch e n, free p.1 p.2 nch e n, ne, nf, d⟩
theorem Inv.un {t' : Nat} (I : Inv X pins σ H s) (u : Un X.fs [] H H' s.heap h') (hok : HOk X.prog X.w H' h') : Inv X pins σ H' { s with heap := h', toks := t' } := by
 obtain ⟨m, ⟨o, es, ep, ho, r⟩, _⟩ := id I.loc
 obtain ⟨sl, hL⟩ := u.any ho I.free (by simp)
 exact I.step (g' := s.gens) (d' := s.drawn) (ch := []) (fun _ z => nomatch z) (fun b o _ hb _ e n => u.keep b o e n hb (by simp)) (fun b o _ hb _ e n => u.slot b o e n hb (by simp)) (fun b o _ e n => u.free b o e n (by simp)) (fun b o _ e => u.there b o e (by simp)) u.tups u.frzs u.tbls (fun m' hm => by
  obtain ⟨o', es', ep', ho', r'⟩ := hm
  rw [ho] at ho'; cases ho'
  exact ⟨_, es', ep', hL, r'⟩) hok I.bare
theorem Inv.call {g' : Array GenState} {t' : Nat} {d' : Drawn} {ch : List Addr} (I : Inv X pins σ H s) (u : Un (frs X.stack) ch H H' s.heap h') (hok : HOk X.prog X.w H' h') (hg : AllBare g')
 (hch : ∀ b ∈ ch, (b ∈ X.ex \/ X.s₀.heap.objs.size <= b) /\ b ≠ X.env.locals /\ (∀ x c, X.env.cells.lookup x = some c -> c ≠ b) /\ ∀ p ∈ X.pn ++ pins, p.1 ≠ b) :
 Inv X pins σ H' { s with heap := h', gens := g', drawn := d', toks := t' } := by
 obtain ⟨m, ⟨o, es, ep, ho, r⟩, _⟩ := id I.loc
 obtain ⟨sl, hL⟩ := u.any ho I.free fun z => (hch _ z).2.1 rfl
 exact I.step (ch := ch) hch (fun b o hL hb hc e n => u.keep b o e n (fun z => (List.mem_cons.mp (I.stkSub b z)).elim hL hb) hc) (fun b o _ _ hc e n => u.any e n hc) (fun b o hc e n => u.free b o e n hc) (fun b o hc e => u.there b o e hc) u.tups u.frzs u.tbls (fun m' hm => by
  obtain ⟨o', es', ep', ho', r'⟩ := hm
  rw [ho] at ho'; cases ho'
  exact ⟨_, es', ep', hL, r'⟩) hok hg
theorem Inv.turned {t' : Nat} {it : Addr} (I : Inv X pins σ H s) (k : ∀ b o, b ≠ it -> s.heap.get? b = some o -> h'.get? b = some o) (hn : H it = none) (hL : it ≠ X.env.locals)
 (h1 : it ∈ X.ex \/ X.s₀.heap.objs.size <= it) (h2 : ∀ x c, X.env.cells.lookup x = some c -> c ≠ it) (h3 : ∀ p ∈ X.pn ++ pins, p.1 ≠ it) : Inv X pins σ H { s with heap := h', toks := t' } := by
 have nit : ∀ b u, H b = some u -> b ≠ it := fun b u e z => by rw [z, hn] at e; cases e
 refine I.step (g' := s.gens) (d' := s.drawn) (ch := [it]) (fun b hb => ?_) (fun b o _ _ hc e _ => k b o (fun z => hc (by simp [z])) e) (fun b o _ _ hc e _ => ⟨o.slots, k b o (fun z => hc (by simp [z])) e⟩) (fun _ _ _ _ n => n)
  (fun b o hc e => ⟨o, k b o (fun z => hc (by simp [z])) e⟩) (fun _ _ e => e) (fun _ _ _ e => e) (fun b ps e => ⟨#[], by rw [e]; simp⟩) (fun m hm => ?_) (fun b u e => ?_) I.bare
 . have e : b = it := by simpa using hb
   subst e
   exact ⟨h1, hL, h2, h3⟩
 . obtain ⟨o, es, ep, ho, r⟩ := hm
   exact ⟨o, es, ep, k _ o (Ne.symm hL) ho, r⟩
 . refine (I.hok b u e).stay (fun c v hc q => k c v ?_ q) (fun _ q => q) fun _ _ q => q
   rcases hc with z | z
   . rw [z]; exact nit b u e
   . exact nit c _ z
theorem Inv.tok (I : Inv X pins σ H s) (t : Nat) : Inv X pins σ H { s with toks := t } := I.un (h' := s.heap) (t' := t) Un.refl I.hok
theorem Inv.kept {t' : Nat} (I : Inv X pins σ H s) (k : ∀ b u, s.heap.get? b = some u -> h'.get? b = some u) : Inv X pins σ H { s with heap := h', toks := t' } := I.un (Un.kept k) (I.hok.kept k)
theorem Inv.laid {a : Addr} {o : HO} {t' : Nat} (I : Inv X pins σ H s) (k : ∀ b u, s.heap.get? b = some u -> h'.get? b = some u) (hp : s.heap.objs.size <= a) (new : ObjOk X.prog X.w (upd H a o) h' a o) :
 Inv X pins σ (upd H a o) { s with heap := h', toks := t' } := I.un (Un.laid k hp (I.hok.fresh hp)) (I.hok.laid k hp new)
theorem Inv.write {x e : Addr} {o : HO} {t' : Nat} (I : Inv X pins σ H s) (mu : Mut (H x)) (he : e = x \/ H e = some (.own x)) (k : ∀ b u, b ≠ e -> s.heap.get? b = some u -> h'.get? b = some u) (heo : ∃ u, h'.get? e = some u)
 (new : ObjOk X.prog X.w (upd H x o) h' x o) : Inv X pins σ (upd H x o) { s with heap := h', toks := t' } := I.un (Un.write mu he k heo) (I.hok.write mu he k heo new)
theorem Inv.weak {σ' : List (Option V)} (I : Inv X pins σ H s) (hl : σ'.length = σ.length) (w : ∀ (i : Nat) v, σ'[i]? = some (some v) -> σ[i]? = some (some v)) : Inv X pins σ' H s :=
 ⟨I.ok, I.os, I.bare, I.base, let ⟨m, hn, hl'⟩ := I.loc; ⟨m, hn, fun i x v e1 e2 e3 => hl' i x v e1 (w i v e2) e3⟩, I.cell, I.free, I.freeC, I.pin, I.hok, hl.trans I.len⟩
theorem Inv.pins_of {pins' : List (Addr × Obj)} (I : Inv X pins σ H s) (h : ∀ p ∈ pins', s.heap.get? p.1 = some p.2 /\ H p.1 = none /\ p.1 ≠ X.env.locals /\ p.1 ∉ X.fs /\ ∀ v, p.2.data ≠ .cell v) : Inv X pins' σ H s :=
 ⟨I.ok, I.os, I.bare, I.base, I.loc, I.cell, I.free, I.freeC, fun p hp => (List.mem_append.mp hp).elim (fun z => I.pin p (List.mem_append_left _ z)) (h p), I.hok, I.len⟩
theorem ahr {N : List Str} (hN : N.Nodup) {i j : Nat} {x : Str} (a : N[i]? = some x) (b : N[j]? = some x) : i = j := by
 obtain ⟨h1, e1⟩ := List.getElem?_eq_some_iff.mp a
 obtain ⟨h2, e2⟩ := List.getElem?_eq_some_iff.mp b
 exact (List.getElem_inj hN).mp (e1.trans e2.symm)
theorem amy {M : Model} {A : Around} {E : Value -> Shared -> Prop} {i : Nat} {x : Str} {v : V} {u : Value} {Q : Unit -> Shared -> Prop} (I : Inv X pins σ H s) (hN : X.N.Nodup) (hi : X.N[i]? = some x) (hx : Loc X.env.scope x) (r : RelV v u)
 (h : ∀ s', Inv X pins (σ.set i (some v)) H s' -> (∃ a, Heap.SameBut a s.heap s'.heap /\ (a = X.env.locals \/ X.env.cells.lookup x = some a)) -> Q () s') (hf : X.fn x = true \/ X.env.scope.names.lookup x = some .local := by first | exact .inl rfl | exact .inr rfl | assumption) : wpAny M A (storeName X.env x u) Q E s := by
 obtain ⟨m, hn, hl⟩ := id I.loc
 have hcls : (X.env.scope.kind == .class || (X.env.scope.kind == .module && X.env.locals != X.env.globals)) = false := by rw [I.ok.kind]; rfl
 have hiσ : i < σ.length := by rw [I.len]; exact (List.getElem?_eq_some_iff.mp hi).1
 have cne := I.cne
 have tracked : ∀ {a : Addr} {h' : Heap}, (∃ o, s.heap.get? a = some o /\ H a = none) -> Heap.SameBut a s.heap h' -> HOk X.prog X.w H h' := fun {a h'} ha hs b ob e => by
  obtain ⟨_, _, hfree⟩ := ha
  refine (I.hok b ob e).stay (fun c w' hc q => (hs.2 c ?_).trans q) (fun _ q => q) fun _ _ q => q
  rintro rfl
  rcases hc with rfl | hc
  . rw [hfree] at e; cases e
  . rw [hfree] at hc; cases hc
 rcases hx with hk | hk
 . refine wpAny_storeName_local hk hn (fun h' hn' hs => ?_) hcls
   obtain ⟨oL, _, _, hoL, _⟩ := id hn
   refine h _ ⟨I.ok, I.os, I.bare, ⟨fun b o e n hb hx => ?_, fun b o e n hb hx => ?_, I.base.free, fun b o e hx => ?_, I.base.tups, I.base.frzs, I.base.tbls⟩, ⟨_, hn', fun j y v' e1 e2 e3 => ?_⟩, fun y c e => ?_, I.free, I.freeC, fun p hp => ?_, tracked ⟨oL, hoL, I.free⟩ hs, by simpa using I.len⟩ ⟨_, hs, .inl rfl⟩
   . exact (hs.2 b (Nat.ne_of_lt (Nat.lt_of_lt_of_le (Heap.lt_size e) I.ok.above))).trans (I.base.keep b o e n hb hx)
   . obtain ⟨sl, e1⟩ := I.base.slot b o e n hb hx
     exact ⟨sl, (hs.2 b (Nat.ne_of_lt (Nat.lt_of_lt_of_le (Heap.lt_size e) I.ok.above))).trans e1⟩
   . obtain ⟨o', e1⟩ := I.base.there b o e hx
     exact ⟨o', (hs.2 b (Nat.ne_of_lt (Nat.lt_of_lt_of_le (Heap.lt_size e) I.ok.above))).trans e1⟩
   . by_cases hj : j = i
     . subst hj
       rw [hi] at e1; cases e1
       rw [List.getElem?_set_self hiσ] at e2
       cases e2
       exact ⟨u, r, .inl ⟨hk, by simp⟩⟩
     . rw [List.getElem?_set_ne (Ne.symm hj)] at e2
       obtain ⟨u', r', q⟩ := hl j y v' e1 e2 e3
       refine ⟨u', r', ?_⟩
       rcases q with ⟨k, e⟩ | ⟨k, c, e, z⟩
       . refine .inl ⟨k, ?_⟩
         have : y ≠ x := fun e => hj (ahr hN e1 (e ▸ hi))
         simp [this, e]
       . exact .inr ⟨k, c, e, z.sameBut hs (cne y c e)⟩
   . obtain ⟨w', z⟩ := I.cell y c e
     exact ⟨w', z.sameBut hs (cne y c e)⟩
   . obtain ⟨e, n, ne, nf, d⟩ := I.pin p hp
     exact ⟨(hs.2 p.1 ne).trans e, n, ne, nf, d⟩
 . have hfn : X.fn x = true := by
    rcases hf with z | z
    . exact z
    . rw [z] at hk; cases hk
   obtain ⟨c, hc⟩ := I.ok.has x (.inl hk)
   obtain ⟨w', z⟩ := I.cell x c hc
   refine wpAny_storeName_cell I.ok.kind hk hc z (fun h' hc' hs => ?_)
   obtain ⟨oc, hoc, hocd⟩ := id z
   refine h { s with heap := h' } ⟨I.ok, I.os, I.bare, ⟨fun b o e n hb hx => ?_, fun b o e n hb hx => ?_, I.base.free, fun b o e hx => ?_, I.base.tups, I.base.frzs, I.base.tbls⟩, ⟨m, hn.sameBut hs (Ne.symm (cne x c hc)), fun j y v' e1 e2 e3 => ?_⟩, fun y c' e => ?_, I.free, I.freeC, fun p hp => ?_, tracked ⟨oc, hoc, I.freeC x c hc⟩ hs, by simpa using I.len⟩ ⟨c, hs, .inr hc⟩
   . exact (hs.2 b (Nat.ne_of_lt (Nat.lt_of_lt_of_le (Heap.lt_size e) (I.ok.cab x c hfn hc)))).trans (I.base.keep b o e n hb hx)
   . obtain ⟨sl, e1⟩ := I.base.slot b o e n hb hx
     exact ⟨sl, (hs.2 b (Nat.ne_of_lt (Nat.lt_of_lt_of_le (Heap.lt_size e) (I.ok.cab x c hfn hc)))).trans e1⟩
   . obtain ⟨o', e1⟩ := I.base.there b o e hx
     exact ⟨o', (hs.2 b (Nat.ne_of_lt (Nat.lt_of_lt_of_le (Heap.lt_size e) (I.ok.cab x c hfn hc)))).trans e1⟩
   . by_cases hj : j = i
     . subst hj
       rw [hi] at e1; cases e1
       rw [List.getElem?_set_self hiσ] at e2
       cases e2
       exact ⟨u, r, .inr ⟨.inl hk, c, hc, hc'⟩⟩
     . rw [List.getElem?_set_ne (Ne.symm hj)] at e2
       obtain ⟨u', r', q⟩ := hl j y v' e1 e2 e3
       refine ⟨u', r', ?_⟩
       rcases q with q | ⟨k, c', e, z'⟩
       . exact .inl q
       . refine .inr ⟨k, c', e, z'.sameBut hs ?_⟩
         rintro rfl
         exact hj (ahr hN e1 (I.ok.inj _ _ _ e hc ▸ hi))
   . by_cases hcc : c' = c
     . subst hcc; exact ⟨_, hc'⟩
     . obtain ⟨w2, z2⟩ := I.cell y c' e
       exact ⟨w2, z2.sameBut hs hcc⟩
   . obtain ⟨e, n, ne, nf, d⟩ := I.pin p hp
     refine ⟨(hs.2 p.1 ?_).trans e, n, ne, nf, d⟩
     intro q
     rw [q, hoc] at e
     have q' : oc = p.2 := Option.some.inj e
     exact d w' (by rw [<- q']; exact hocd)
theorem aob {M : Model} {A : Around} {E : Value -> Shared -> Prop} {i : Nat} {x : Str} {v : V} {u : Value} {Q : Unit -> Shared -> Prop} (I : Inv X pins σ H s) (hN : X.N.Nodup) (hi : X.N[i]? = some x) (hx : Loc X.env.scope x) (r : RelV v u)
 (h : ∀ s', Inv X pins (σ.set i (some v)) H s' -> Q () s') (hf : X.fn x = true \/ X.env.scope.names.lookup x = some .local := by first | exact .inl rfl | exact .inr rfl | assumption) : wpAny M A (storeName X.env x u) Q E s :=
 amy I hN hi hx r (fun s' I' _ => h s' I') hf
theorem Inv.call' {s' : Shared} {ch : List Addr} (I : Inv X pins σ H s) (ho : s'.os = s.os) (u : Un (frs X.stack) ch H H' s.heap s'.heap) (hok : HOk X.prog X.w H' s'.heap) (hg : AllBare s'.gens)
 (hch : ∀ b ∈ ch, (b ∈ X.ex \/ X.s₀.heap.objs.size <= b) /\ b ≠ X.env.locals /\ (∀ x c, X.env.cells.lookup x = some c -> c ≠ b) /\ ∀ p ∈ X.pn ++ pins, p.1 ≠ b) : Inv X pins σ H' s' := by
 obtain ⟨h', g', d', t', o'⟩ := s'
 have e : o' = s.os := ho
 subst e
 exact I.call (g' := g') (t' := t') (d' := d') u hok hg hch
end
abbrev XK := Value -> Option Addr -> Hp -> Prop
abbrev St := List (Option V)
abbrev VK := V -> Hp -> Prop
abbrev TE := St -> Hp -> VK -> Prop
abbrev TT := St -> Hp -> (Bool -> Hp -> Prop) -> Prop
abbrev TA := St -> Hp -> (List V -> Hp -> Prop) -> Prop
structure Ends where
 nx : St -> Hp -> Prop
 rt : VK
 bk : St -> Hp -> Prop := fun _ _ => False
 ct : St -> Hp -> Prop := fun _ _ => False
abbrev TS := Ends -> St -> Hp -> Prop
def EP (X : Cx) (pins : List (Addr × Obj)) (σ : St) (Q : VK) (u : Value) (s' : Shared) : Prop := ∃ v H', Inv X pins σ H' s' /\ RelV v u /\ Q v H'
def TP (X : Cx) (pins : List (Addr × Obj)) (σ : St) (Q : Bool -> Hp -> Prop) (b : Bool) (s' : Shared) : Prop := ∃ H', Inv X pins σ H' s' /\ Q b H'
def AP (X : Cx) (pins : List (Addr × Obj)) (σ : St) (Q : List V -> Hp -> Prop) (us : List Value) (s' : Shared) : Prop := ∃ vs H', Inv X pins σ H' s' /\ Vals vs us /\ Q vs H'
def SP (X : Cx) (pins : List (Addr × Obj)) (D : Ends) (f : Flow) (s' : Shared) : Prop :=
 match f with
 | .next => ∃ σ' H', Inv X pins σ' H' s' /\ D.nx σ' H'
 | .brk => ∃ σ' H', Inv X pins σ' H' s' /\ D.bk σ' H'
 | .cont => ∃ σ' H', Inv X pins σ' H' s' /\ D.ct σ' H'
 | .ret u => ∃ v σ' H', Inv X pins σ' H' s' /\ RelV v u /\ D.rt v H'
def PE (X : Cx) (e : Expr) (t : TE) : Prop :=
 ∀ (pins : List (Addr × Obj)) (s : Shared) (σ : St) (H : Hp) (Q : VK), Inv X pins σ H s -> t σ H Q -> wpAny (model X.prog X.w) X.A (eval e X.env) (EP X pins σ Q) X.xe s
def PT (X : Cx) (e : Expr) (t : TT) : Prop :=
 ∀ (pins : List (Addr × Obj)) (s : Shared) (σ : St) (H : Hp) (Q : Bool -> Hp -> Prop), Inv X pins σ H s -> t σ H Q -> wpAny (model X.prog X.w) X.A (isTrue e X.env (eval e X.env)) (TP X pins σ Q) X.xe s
def PW (X : Cx) (e : Expr) (t : TT) : Prop :=
 ∀ (whole : Sem Value) (pins : List (Addr × Obj)) (s : Shared) (σ : St) (H : Hp) (Q : Bool -> Hp -> Prop), Inv X pins σ H s -> t σ H Q -> wpAny (model X.prog X.w) X.A (isTrue e X.env whole) (TP X pins σ Q) X.xe s
theorem PW.pt {X : Cx} {e : Expr} {t : TT} (h : PW X e t) : PT X e t := h _
def PA (X : Cx) (es : List Expr) (t : TA) : Prop :=
 ∀ (pos : Pos) (pins : List (Addr × Obj)) (s : Shared) (σ : St) (H : Hp) (Q : List V -> Hp -> Prop), Inv X pins σ H s -> t σ H Q -> wpAny (model X.prog X.w) X.A (spliced (backTo pos (starEach es X.env))) (AP X pins σ Q) X.xe s
def PS (X : Cx) (st : Stmt) (t : TS) : Prop :=
 ∀ (pins : List (Addr × Obj)) (s : Shared) (σ : St) (H : Hp) (D : Ends), Inv X pins σ H s -> t D σ H -> wpAny (model X.prog X.w) X.A (exec st X.env) (SP X pins D) X.xe s
def PSs (X : Cx) (st : List Stmt) (t : TS) : Prop :=
 ∀ (pins : List (Addr × Obj)) (s : Shared) (σ : St) (H : Hp) (D : Ends), Inv X pins σ H s -> t D σ H -> wpAny (model X.prog X.w) X.A (execs st X.env) (SP X pins D) X.xe s
theorem thn {α : Type} {t : Sem α} {Q Q' : α -> Shared -> Prop} {M : Model} {A : Around} {E : Value -> Shared -> Prop} {s : Shared} (h : wpAny M A t Q E s) (hQ : ∀ a s, Q a s -> Q' a s) : wpAny M A t Q' E s := wpAny_mono h hQ fun _ _ x => x
end L2
namespace L2
open PySem PySem.Spec PyProof.Rows
section
variable {X : Cx}
def azn (i : Nat) : TE := fun σ H Q => ∃ v, σ[i]? = some (some v) /\ Q v H
def tC (v : V) : TE := fun _ H Q => Q v H
theorem atu {i : Nat} {x : Str} {pos : Pos} (hN : X.N[i]? = some x) (hv : Vis X.env.scope x) (hd : (x == ("__debug__" : Str)) = false := by decide) (hcd : (x == ("__classdict__" : Str)) = false := by decide) : PE X (.Name x pos) (azn i) := by
 intro pins s σ H Q I h
 obtain ⟨v, e, h⟩ := h
 obtain ⟨m, hn, hl⟩ := I.loc
 obtain ⟨u, r, l⟩ := hl i x v hN e hv
 have fin : EP X pins σ Q u s := ⟨v, H, I, r, h⟩
 rcases l with ⟨hk, hm⟩ | ⟨hk, c, hc, hcell⟩
 . exact wpAny_Name (wpAny_loadName_local I.ok.kind hk hn hm fin) hd
 . rcases hk with hk | hk
   . exact wpAny_Name (wpAny_loadName_cell I.ok.kind hk hc hcell fin) hd
   . exact wpAny_Name (wpAny_loadName_free I.ok.kind hk hc hcell fin hcd) hd
theorem av4 {i j pos} : PE X (.Constant (.int i) j pos) (tC (.int i)) := fun _ _ _ H _ I h => wpAny_Constant_int ⟨.int i, H, I.tok _, ⟨_, rfl⟩, h⟩
theorem ax4 {b j pos} : PE X (.Constant (.bool b) j pos) (tC (.bl b)) := fun _ _ _ H _ I h => Constant_bool ⟨.bl b, H, I, rfl, h⟩
theorem auo {j pos} : PE X (.Constant .none j pos) (tC .non) := fun _ _ _ H _ I h => Constant_none ⟨.non, H, I, rfl, h⟩
theorem avc {x j pos} : PE X (.Constant (.str x) j pos) (tC (.str x)) := fun _ _ _ H _ I h => Calls.Constant_str ⟨.str x, H, I.tok _, ⟨_, rfl⟩, h⟩
def Gl (X : Cx) (x : Str) : Prop := X.env.kindOf x = some .globalImplicit
theorem afc {E : Value -> Shared -> Prop} {pins : List (Addr × Obj)} {s : Shared} {σ : St} {H : Hp} {x : Str} {u : Value} {pos : Pos} {Q : Value -> Shared -> Prop} (I : Inv X pins σ H s) (hg : Gl X x) (hm : X.mg x = some u) (h : Q u s)
 (hd : (x == ("__debug__" : Str)) = false := by decide) : wpAny (model X.prog X.w) X.A (eval (.Name x pos) X.env) Q E s :=
 Calls.Name_function_global I.ok.kind hg (Calls.loadGlobal_global (by rw [I.ok.glob]; exact I.mod.glob.keeps I.bk) hm h) hd
theorem j5 {E : Value -> Shared -> Prop} {pins : List (Addr × Obj)} {s : Shared} {σ : St} {H : Hp} {x : Str} {u : Value} {pos : Pos} {Q : Value -> Shared -> Prop} (I : Inv X pins σ H s) (hg : Gl X x) (hm : X.mg x = none) (hv : bootBuiltins x = some u) (h : Q u s)
 (hn : x ≠ "__name__" := by decide) (hd : (x == ("__debug__" : Str)) = false := by decide) : wpAny (model X.prog X.w) X.A (eval (.Name x pos) X.env) Q E s := by
 obtain ⟨mb, h1, h2⟩ := I.mod.blt
 exact Calls.Name_function_global I.ok.kind hg (Calls.loadGlobal_builtin (by rw [I.ok.glob]; exact I.mod.glob.keeps I.bk) hm (by rw [I.ok.blt]; exact h1.keeps I.bk) ((h2 x hn).trans hv) h) hd
theorem asv {x : Str} {v : V} {u : Value} {pos : Pos} (hg : Gl X x) (hm : X.mg x = some u) (r : RelV v u) (hd : (x == ("__debug__" : Str)) = false := by decide) : PE X (.Name x pos) (tC v) :=
 fun _ _ _ H _ I h => afc I hg hm ⟨v, H, I, r, h⟩ hd
variable {a b : Expr} {ta tb : TE} {pos : Pos}
def PC (X : Cx) (op : CmpOp) (a b : Expr) (t : TE) : Prop :=
 ∀ (pins : List (Addr × Obj)) (s : Shared) (σ : St) (H : Hp) (Q : VK), Inv X pins σ H s -> t σ H Q ->
  wpAny (model X.prog X.w) X.A (eval a X.env) (fun v s₁ => wpAny (model X.prog X.w) X.A (eval b X.env) (fun u s₂ => wpAny (model X.prog X.w) X.A (compareOp op v u) (EP X pins σ Q) X.xe s₂) X.xe s₁) X.xe s
theorem ag6 (b : Expr) {op : CmpOp} (h : op ≠ .In) (h2 : op ≠ .NotIn) : behindInMarks op b = false := by
 have e1 : (op == CmpOp.In) = false := by cases op <;> first | rfl | exact absurd rfl h
 have e2 : (op == CmpOp.NotIn) = false := by cases op <;> first | rfl | exact absurd rfl h2
 cases b <;> simp [behindInMarks, e1, e2]
def tB (t : TE) : TT := fun σ H Q => t σ H fun x H1 => ∃ c, x = .bl c /\ Q c H1
theorem auj {op : CmpOp} {t : TE} (h : PC X op a b t) (h1 : behindInMarks op b = false := by first | exact ag6 _ (by decide) (by decide) | rfl) : PE X (.Compare a [op] [b] pos) t := fun pins s σ H Q I hw => wpAny_Compare1 (h pins s σ H Q I hw) h1
theorem aua {op : CmpOp} {t : TE} (h : PC X op a b t) (h1 : behindInMarks op b = false := by first | exact ag6 _ (by decide) (by decide) | rfl) : PT X (.Compare a [op] [b] pos) (tB t) := by
 intro pins s σ H Q I hw
 refine wpAny_isTrue_Compare1 (thn (h pins s σ H _ I hw) fun v s1 h1 => thn h1 fun u s2 h2 => thn h2 fun c s3 ⟨x, H1, I1, r1, q1⟩ => ?_) h1
 obtain ⟨d, rfl, q⟩ := q1
 cases r1
 exact wpAny_truthy_bool ⟨H1, I1, q⟩
theorem auh {e : Expr} {t : TE} (h : PE X e t) (he : ∀ whole, isTrue e X.env whole = (do let v <- whole; standAt e.pos; holding [v] (truthy v)) := by intro _; rfl) : PT X e (tB t) := by
 intro pins s σ H Q I hw
 refine isTrue_plain (thn (h pins s σ H _ I hw) fun v s1 ⟨x, H1, I1, r1, q1⟩ => ?_) (he _)
 obtain ⟨d, rfl, q⟩ := q1
 cases r1
 exact wpAny_truthy_bool ⟨H1, I1, q⟩
variable {tA tB' : TT} {rest : List Expr}
def azg (t u : TT) : TT := fun σ H Q => t σ H fun c H1 => if c = true then u σ H1 Q else Q false H1
def tOr (t u : TT) : TT := fun σ H Q => t σ H fun c H1 => if c = true then Q true H1 else u σ H1 Q
def a0a (t : TT) : TT := fun σ H Q => t σ H fun c H1 => Q (!c) H1
theorem asp (ha : PT X a tA) : PW X (.BoolOp .And [a] pos) tA := by
 intro wh pins s σ H Q I h
 refine isTrue_and (thn (ha pins s σ H Q I h) fun c s1 e => ?_)
 cases c with
 | true => exact isTrue_and_nil e
 | false => exact e
theorem awn (ha : PT X a tA) : PW X (.BoolOp .Or [a] pos) tA := by
 intro wh pins s σ H Q I h
 refine isTrue_or (thn (ha pins s σ H Q I h) fun c s1 e => ?_)
 cases c with
 | false => exact isTrue_or_nil e
 | true => exact e
theorem av6 (ha : PT X a tA) (hb : PW X (.BoolOp .And (b :: rest) pos) tB') : PW X (.BoolOp .And (a :: b :: rest) pos) (azg tA tB') := by
 intro wh pins s σ H Q I h
 refine isTrue_and (thn (ha pins s σ H _ I h) fun c s1 ⟨H1, I1, q1⟩ => ?_)
 cases c with
 | true => exact hb wh pins s1 σ H1 Q I1 q1
 | false => exact ⟨H1, I1, q1⟩
theorem ayv (ha : PT X a tA) (hb : PW X (.BoolOp .Or (b :: rest) pos) tB') : PW X (.BoolOp .Or (a :: b :: rest) pos) (tOr tA tB') := by
 intro wh pins s σ H Q I h
 refine isTrue_or (thn (ha pins s σ H _ I h) fun c s1 ⟨H1, I1, q1⟩ => ?_)
 cases c with
 | true => exact ⟨H1, I1, q1⟩
 | false => exact hb wh pins s1 σ H1 Q I1 q1
theorem au6 (ha : PT X a tA) : PT X (.UnaryOp .Not a pos) (a0a tA) := by
 intro pins s σ H Q I h
 exact isTrue_not (ha pins s σ H (fun c H1 => Q (!c) H1) I h)
def axn (ta tb : TE) : TE := fun σ H Q => ta σ H fun x H1 => ∃ c, x = .bl c /\ if c = true then tb σ H1 Q else Q (.bl false) H1
def azm (ta tb : TE) : TE := fun σ H Q => ta σ H fun x H1 => ∃ c, x = .bl c /\ if c = true then Q (.bl true) H1 else tb σ H1 Q
def ayd (ta : TE) : TE := fun σ H Q => ta σ H fun x H1 => ∃ c, x = .bl c /\ Q (.bl (!c)) H1
theorem avr (ha : PE X a ta) (hb : PE X (.BoolOp .And (b :: rest) pos) tb) : PE X (.BoolOp .And (a :: b :: rest) pos) (axn ta tb) := by
 intro pins s σ H Q I h
 refine BoolOp_and (thn (ha pins s σ H _ I h) fun v s1 ⟨x, H1, I1, r1, q1⟩ => ?_)
 obtain ⟨c, rfl, q1⟩ := q1
 cases r1
 refine wpAny_truthy_bool ?_
 cases c with
 | true => exact hb pins s1 σ H1 Q I1 q1
 | false => exact ⟨.bl false, H1, I1, rfl, q1⟩
theorem axf (ha : PE X a ta) (hb : PE X (.BoolOp .Or (b :: rest) pos) tb) : PE X (.BoolOp .Or (a :: b :: rest) pos) (azm ta tb) := by
 intro pins s σ H Q I h
 refine BoolOp_or (thn (ha pins s σ H _ I h) fun v s1 ⟨x, H1, I1, r1, q1⟩ => ?_)
 obtain ⟨c, rfl, q1⟩ := q1
 cases r1
 refine wpAny_truthy_bool ?_
 cases c with
 | false => exact hb pins s1 σ H1 Q I1 q1
 | true => exact ⟨.bl true, H1, I1, rfl, q1⟩
theorem awd (ha : PE X a ta) : PE X (.UnaryOp .Not a pos) (ayd ta) := by
 intro pins s σ H Q I h
 refine UnaryOp_ (thn (ha pins s σ H _ I h) fun v s1 ⟨x, H1, I1, r1, q1⟩ => ?_)
 obtain ⟨c, rfl, q1⟩ := q1
 cases r1
 exact not_of (wpAny_truthy_bool ⟨.bl (!c), H1, I1, rfl, q1⟩)
def tIf (t : TT) (ta tb : TE) : TE := fun σ H Q => t σ H fun c H1 => if c = true then ta σ H1 Q else tb σ H1 Q
theorem apu {c : Expr} (hc : PT X c tA) (ha : PE X a ta) (hb : PE X b tb) : PE X (.IfExp c a b pos) (tIf tA ta tb) := by
 intro pins s σ H Q I h
 refine wpAny_IfExp (thn (hc pins s σ H _ I h) fun d s1 ⟨H1, I1, q1⟩ => ?_)
 cases d with
 | true => exact ha pins s1 σ H1 Q I1 q1
 | false => exact hb pins s1 σ H1 Q I1 q1
end
end L2
namespace L2
open PySem PySem.Spec PyProof.Rows
def SqL (K : Fg) (H : Hp) (a : Addr) (xs : List V) : Prop :=
 Rd H a (.lst xs) \/
  ∃ (o : Obj) (its : Array Value) (n : Nat), K.lookup a = some o /\ o.cls = .type "list" /\ o.dict = none /\ o.data = .seq its n /\ its.size <= sizeLine /\ Vals xs its.toList
def SqT (K : Fg) (H : Hp) (a : Addr) (xs : List V) : Prop :=
 Rd H a (.tup xs) \/
  ∃ (o : Obj) (its : Array Value) (n : Nat), K.lookup a = some o /\ o.cls = .type "tuple" /\ o.data = .seq its n /\ its.size <= sizeLine /\ Vals xs its.toList
def az3 : Value -> Option V
 | .none => some .non
 | .bool b => some (.bl b)
 | .int i _ => some (.int i)
 | .str x _ => some (.str x)
 | .bytes b _ => some (.byt b)
 | .float b _ => some (.flt b)
 | .ref a => some (.ref a)
 | .type n => some (.ty n)
 | _ => none
theorem RelV.abs {x : V} {u : Value} (r : RelV x u) : az3 u = some x := by
 cases x with
 | non => cases r; rfl
 | bl _ => cases r; rfl
 | int _ => obtain ⟨t, rfl⟩ := r; rfl
 | str _ => obtain ⟨t, rfl⟩ := r; rfl
 | byt _ => obtain ⟨t, rfl⟩ := r; rfl
 | flt _ => obtain ⟨t, rfl⟩ := r; rfl
 | ref _ => cases r; rfl
 | ty _ => cases r; rfl
theorem RelV.inj {x y : V} {u : Value} (r : RelV x u) (q : RelV y u) : x = y := Option.some.inj (r.abs.symm.trans q.abs)
theorem Vals.inj : ∀ {xs ys : List V} {us : List Value}, Vals xs us -> Vals ys us -> xs = ys
 | _, _, _, .nil, .nil => rfl
 | _, _, _, .cons r t, .cons r' t' => by rw [r.inj r', Vals.inj t t']
section
variable {X : Cx} {pins : List (Addr × Obj)} {σ : St} {H : Hp} {s : Shared} {a : Addr} {xs ys : List V}
theorem SqL.of {K : Fg} (h : H a = some (.lst xs)) : SqL K H a xs := .inl (.inl h)
theorem SqT.of {K : Fg} (h : H a = some (.tup xs)) : SqT K H a xs := .inl (.inl h)
theorem Inv.list (I : Inv X pins σ H s) (h : SqL X.K H a xs) : ∃ its : List Value, Vals xs its /\ PlainL s.heap a its.toArray /\ xs.length <= sizeLine := by
 rcases h with h | ⟨o, its, n, hk, hc, hd, hs, hz, r⟩
 . obtain ⟨z, its, n, r, e⟩ := h.ok I.hok
   exact ⟨its, r, ⟨_, n, e, rfl, rfl, rfl⟩, z⟩
 . refine ⟨its.toList, r, ⟨o, n, I.kIn a o hk, hc, hd, by simpa using hs⟩, ?_⟩
   have e := r.length
   simp only [Array.length_toList] at e
   omega
theorem Inv.tuple (I : Inv X pins σ H s) (h : SqT X.K H a xs) : ∃ its : List Value, Vals xs its /\ IsTup s.heap a its.toArray /\ xs.length <= sizeLine := by
 rcases h with h | ⟨o, its, n, hk, hc, hs, hz, r⟩
 . obtain ⟨z, its, r, p⟩ := h.ok I.hok
   exact ⟨its, r, p, z⟩
 . refine ⟨its.toList, r, ⟨o, I.kIn a o hk, hc, n, by simpa using hs⟩, ?_⟩
   have e := r.length
   simp only [Array.length_toList] at e
   omega
theorem Inv.list_inj (I : Inv X pins σ H s) (h : SqL X.K H a xs) (h' : SqL X.K H a ys) : xs = ys := by
 obtain ⟨its, r, ⟨o, n, e, _, _, d⟩, _⟩ := I.list h
 obtain ⟨its', r', ⟨o', n', e', _, _, d'⟩, _⟩ := I.list h'
 rw [e] at e'; cases e'
 rw [d] at d'
 injection d' with d1 _
 have : its = its' := by simpa using congrArg Array.toList d1
 subst this
 exact r.inj r'
theorem Inv.tuple_inj (I : Inv X pins σ H s) (h : SqT X.K H a xs) (h' : SqT X.K H a ys) : xs = ys := by
 obtain ⟨its, r, ⟨o, e, _, n, d⟩, _⟩ := I.tuple h
 obtain ⟨its', r', ⟨o', e', _, n', d'⟩, _⟩ := I.tuple h'
 rw [e] at e'; cases e'
 rw [d] at d'
 injection d' with d1 _
 have : its = its' := by simpa using congrArg Array.toList d1
 subst this
 exact r.inj r'
end
abbrev Cx.wish (X : Cx) (E : Value -> Shared -> Prop) : Cx := { X with xe := E }
abbrev Cx.nox (X : Cx) : Cx := X.wish fun _ _ => False
theorem Cx.Ok.wish {X : Cx} (ok : X.Ok) (E : Value -> Shared -> Prop) : (X.wish E).Ok :=
 ⟨ok.mod, ok.kind, ok.glob, ok.blt, ok.above, ok.inj, ok.has, ok.cab, ok.hd, ok.frames, ok.stk, ok.exf, ok.bs, ok.bsz, ok.noex, ok.exfs, ok.funs, ok.frf⟩
theorem Cx.Ok.unwish {X : Cx} {E : Value -> Shared -> Prop} (ok : (X.wish E).Ok) : X.Ok :=
 ⟨ok.mod, ok.kind, ok.glob, ok.blt, ok.above, ok.inj, ok.has, ok.cab, ok.hd, ok.frames, ok.stk, ok.exf, ok.bs, ok.bsz, ok.noex, ok.exfs, ok.funs, ok.frf⟩
section
variable {X : Cx} {pins : List (Addr × Obj)} {σ : St} {H : Hp} {s : Shared} {E : Value -> Shared -> Prop}
theorem Inv.wish (I : Inv X pins σ H s) (E : Value -> Shared -> Prop) : Inv (X.wish E) pins σ H s := ⟨I.ok.wish E, I.os, I.bare, I.base, I.loc, I.cell, I.free, I.freeC, I.pin, I.hok, I.len⟩
theorem Inv.unwish (I : Inv (X.wish E) pins σ H s) : Inv X pins σ H s := ⟨I.ok.unwish, I.os, I.bare, I.base, I.loc, I.cell, I.free, I.freeC, I.pin, I.hok, I.len⟩
theorem SP.unwish {D : Ends} {f : Flow} {s' : Shared} (h : SP (X.wish E) pins D f s') : SP X pins D f s' := by
 cases f with
 | next => obtain ⟨σ', H', I, q⟩ := h; exact ⟨σ', H', I.unwish, q⟩
 | brk => obtain ⟨σ', H', I, q⟩ := h; exact ⟨σ', H', I.unwish, q⟩
 | cont => obtain ⟨σ', H', I, q⟩ := h; exact ⟨σ', H', I.unwish, q⟩
 | ret u => obtain ⟨v, σ', H', I, r, q⟩ := h; exact ⟨v, σ', H', I.unwish, r, q⟩
theorem PSs.nox {st : List Stmt} {t : TS} (h : PSs X.nox st t) : PSs X st t := fun pins s σ H D I hw =>
 wpAny_mono (h pins s σ H D (I.wish _) hw) (fun _ _ q => q.unwish) fun _ _ z => False.elim z
end
section
variable {X : Cx} {st : Stmt} {rest : List Stmt} {t u : TS} {e : Expr} {te : TE} {pos : Pos}
def ap3 : TS := fun D σ H => D.nx σ H
def az7 (t u : TS) : TS := fun D σ H => t { D with nx := u D } σ H
theorem asr : PSs X [] ap3 := fun _ _ σ H _ I h => wpAny_execs_nil ⟨σ, H, I, h⟩
theorem aps (h1 : PS X st t) (h2 : PSs X rest u) : PSs X (st :: rest) (az7 t u) := by
 intro pins s σ H D I h
 refine wpAny_execs_cons (thn (h1 pins s σ H { D with nx := u D } I h) fun f s1 q => ?_)
 cases f with
 | next =>
  obtain ⟨σ', H', I', q⟩ := q
  exact h2 pins s1 σ' H' D I' q
 | ret v => exact q
 | brk => exact q
 | cont => exact q
def avq : TS := fun D σ H => D.bk σ H
def aw8 : TS := fun D σ H => D.ct σ H
theorem arj : PS X (.Pass pos) ap3 := fun _ _ σ H _ I h => wpAny_Pass ⟨σ, H, I, h⟩
theorem aom : PS X (.Break pos) avq := fun _ _ σ H _ I h => wpAny_Break ⟨σ, H, I, h⟩
theorem aih : PS X (.Continue pos) aw8 := fun _ _ σ H _ I h => wpAny_Continue ⟨σ, H, I, h⟩
theorem Inv.quiet {pins : List (Addr × Obj)} {σ : St} {H : Hp} {s : Shared} (I : Inv X pins σ H s) : interactive X.env = false := by simp [interactive, I.ok.kind]
def axc (te : TE) : TS := fun D σ H => te σ H fun _ H1 => D.nx σ H1
theorem aso (he : PE X e te) (hs : swapsWith e none pos.line X.env = pure false := by rfl) : PS X (.Expr e pos) (axc te) := by
 intro pins s σ H D I h
 exact wpAny_Expr_any (thn (he pins s σ H _ I h) fun v s1 ⟨x, H1, I1, r1, q1⟩ => ⟨σ, H1, I1, q1⟩) I.quiet hs
def a0m (te : TE) : TS := fun D σ H => te σ H D.rt
theorem avt (he : PE X e te) : PS X (.Return (some e) pos) (a0m te) := by
 intro pins s σ H D I h
 exact wpAny_Return_some (thn (he pins s σ H _ I h) fun v s1 ⟨x, H1, I1, r1, q1⟩ => ⟨x, σ, H1, I1, r1, q1⟩)
def ax1 : TS := fun D _ H => D.rt .non H
theorem ara : PS X (.Return none pos) ax1 := fun _ _ σ H _ I h => wpAny_Return_none ⟨.non, σ, H, I, rfl, h⟩
def az0 (c : TT) (t u : TS) : TS := fun D σ H => c σ H fun b H1 => if b = true then t D σ H1 else u D σ H1
theorem axj {c : Expr} {a b : List Stmt} {tc : TT} (hc : PT X c tc) (ha : PSs X a t) (hb : PSs X b u) : PS X (.If c a b pos) (az0 tc t u) := by
 intro pins s σ H D I h
 refine wpAny_If (thn (hc pins s σ H _ I h) fun d s1 ⟨H1, I1, q1⟩ => ?_)
 cases d with
 | true => exact ha pins s1 σ H1 D I1 q1
 | false => exact hb pins s1 σ H1 D I1 q1
end
abbrev TG := V -> St -> Hp -> (St -> Hp -> Prop) -> Prop
abbrev TGs := List V -> St -> Hp -> (St -> Hp -> Prop) -> Prop
def PG (X : Cx) (target : Expr) (t : TG) : Prop :=
 ∀ (pins : List (Addr × Obj)) (s : Shared) (σ : St) (H : Hp) (v : V) (u : Value) (Q : St -> Hp -> Prop), Inv X pins σ H s -> RelV v u -> t v σ H Q ->
  wpAny (model X.prog X.w) X.A (assign target X.env u) (fun _ s' => ∃ σ' H', Inv X pins σ' H' s' /\ Q σ' H') X.xe s
def PGs (X : Cx) (ts : List Expr) (t : TGs) : Prop :=
 ∀ (pins : List (Addr × Obj)) (s : Shared) (σ : St) (H : Hp) (vs : List V) (us : List Value) (Q : St -> Hp -> Prop), Inv X pins σ H s -> Vals vs us -> t vs σ H Q ->
  wpAny (model X.prog X.w) X.A (assignInOrder ((assignEach ts X.env).map (·.2)) us) (fun _ s' => ∃ σ' H', Inv X pins σ' H' s' /\ Q σ' H') X.xe s
abbrev ajx := V -> V -> V -> Hp -> (Hp -> Prop) -> Prop
def aoq (X : Cx) (t : ajx) : Prop :=
 ∀ (pins : List (Addr × Obj)) (s : Shared) (σ : St) (H : Hp) (o i v : V) (ov iv u : Value) (Q : Hp -> Prop), Inv X pins σ H s -> RelV o ov -> RelV i iv -> RelV v u -> t o i v H Q ->
  wpAny (model X.prog X.w) X.A (setItem ov iv u) (fun _ s' => ∃ H', Inv X pins σ H' s' /\ Q H') X.xe s
section
variable {X : Cx} {pos : Pos}
def agc (i : Nat) : TG := fun v σ H Q => Q (σ.set i (some v)) H
theorem aem {i : Nat} {x : Str} (hN : X.N.Nodup) (hi : X.N[i]? = some x) (hx : Loc X.env.scope x) (hf : X.fn x = true \/ X.env.scope.names.lookup x = some .local := by first | exact .inl rfl | exact .inr rfl | assumption) : PG X (.Name x pos) (agc i) := by
 intro pins s σ H v u Q I r h
 exact wpAny_assign_Name (aob I hN hi hx r (fun s' I' => ⟨_, H, I', h⟩) hf)
def az4 : TGs := fun vs σ H Q => vs = [] /\ Q σ H
def axu (t : TG) (u : TGs) : TGs := fun vs σ H Q => ∃ v r, vs = v :: r /\ t v σ H fun σ' H' => u r σ' H' Q
theorem as7 : PGs X [] az4 := by
 intro pins s σ H vs us Q I r h
 obtain ⟨e, h⟩ := h
 subst e
 cases r
 exact assignInOrder_nil ⟨σ, H, I, h⟩
theorem am7 {e : Expr} {es : List Expr} {t : TG} {u : TGs} (h1 : PG X e t) (h2 : PGs X es u)
 (hs : (assignEach (e :: es) X.env).map (·.2) = assign e X.env :: (assignEach es X.env).map (·.2) := by rfl) : PGs X (e :: es) (axu t u) := by
 intro pins s σ H vs us Q I r h
 obtain ⟨v, vr, e1, h⟩ := h
 subst e1
 cases r with
 | cons r rr =>
  rw [hs]
  refine assignInOrder_cons (thn (h1 pins s σ H _ _ _ I r h) fun _ s1 ⟨σ1, H1, I1, q1⟩ => ?_)
  exact h2 pins s1 σ1 H1 _ _ Q I1 rr q1
def a0j (K : Fg) (n : Nat) (t : TGs) : TG := fun v σ H Q => ∃ a xs, v = .ref a /\ SqT K H a xs /\ xs.length = n /\ t xs σ H Q
theorem av5 {es : List Expr} {k : Nat} {t : TGs} {n : Nat} (hc : X.calm = true) (h : PGs X es t)
 (hn : (assignEach es X.env).length = n := by rfl) (hst : (assignEach es X.env).findIdx? (·.1) = none := by rfl) : PG X (.Tuple es k pos) (a0j X.K n t) := by
 intro pins s σ H v u Q I r hw
 obtain ⟨a, xs, e1, hq, hl, hw⟩ := hw
 subst e1
 cases r
 obtain ⟨its, rv, ht, hz⟩ := I.tuple hq
 refine assign_Tuple_tuple (I.ok.hd hc) ht (by simp [hn, <- hl, rv.length]) hst fun h' hx => ?_
 have I1 : Inv X pins σ H { s with heap := h' } := I.kept (t' := s.toks) fun b o e => hx b o (Nat.ne_of_lt (Heap.lt_size e)) e
 exact h pins _ σ H xs _ Q I1 (by simpa using rv) hw
def a0s (to ti : TE) (t : ajx) : TG := fun v σ H Q => to σ H fun o H1 => ti σ H1 fun i H2 => t o i v H2 fun H3 => Q σ H3
theorem atw {o i : Expr} {to ti : TE} {t : ajx} (ho : PE X o to) (hi : PE X i ti) (hs : aoq X t)
 (ha : ∀ v, assign (.Subscript o i pos) X.env v = (do
  let ov <- holding [v] (eval o X.env)
  let iv <- holding [v, ov] (eval i X.env)
  standAt pos
  holding [v, ov, iv] (setItem ov iv v)
  release [v, ov, iv] []) := by intro _; rfl) : PG X (.Subscript o i pos) (a0s to ti t) := by
 intro pins s σ H v u Q I r h
 rw [ha]
 refine wpAny_bind (wpAny_holding (thn (ho pins s σ H _ I h) fun ov s1 ⟨x, H1, I1, r1, q1⟩ => ?_))
 refine wpAny_bind (wpAny_holding (thn (hi pins s1 σ H1 _ I1 q1) fun iv s2 ⟨y, H2, I2, r2, q2⟩ => ?_))
 refine wpAny_bind (wpAny_standAt (wpAny_bind (wpAny_holding (thn (hs pins s2 σ H2 x y v ov iv u _ I2 r1 r2 r q2) fun _ s3 ⟨H3, I3, q3⟩ => ?_))))
 exact wpAny_release ⟨σ, H3, I3, q3⟩
def api (te : TE) (g : TG) : TS := fun D σ H => te σ H fun x H1 => g x σ H1 D.nx
theorem ak7 {tg e : Expr} {te : TE} {g : TG} (he : PE X e te) (hg : PG X tg g) (hs : swapsWithSole [tg] e pos.line X.env = pure false := by rfl) (hw : swappedStores [tg] e X.env = pure none := by rfl)
 (h1 : (assignEach [tg] X.env).map (·.2) = [assign tg X.env] := by rfl) : PS X (.Assign [tg] e pos) (api te g) := by
 intro pins s σ H D I h
 refine wpAny_Assign_stores (thn (he pins s σ H _ I h) fun v s1 ⟨x, H1, I1, r1, q1⟩ => ?_) hs hw
 rw [h1]
 exact thn (hg pins s1 σ H1 x v _ I1 r1 q1) fun _ s2 q => q
end
section
variable {X : Cx} {pos : Pos}
def at8 (c : TT) (tb : TS) : TS := fun D σ H => ∃ W : Nat -> St -> Hp -> Prop, (∃ m, W m σ H) /\ ∀ m σ H, W m σ H ->
 c σ H fun b H1 => if b = true then ∃ N : St -> Hp -> Prop, (∀ σ' H', N σ' H' -> ∃ m', m' < m /\ W m' σ' H') /\ tb { D with nx := N, ct := N, bk := D.nx } σ H1 else D.nx σ H1
theorem aor {c : Expr} {body : List Stmt} {tc : TT} {tb : TS} (hp : PassesOwn (model X.prog X.w) X.A X.env X.xe) (hc : PT X c tc) (hb : PSs X body tb) : PS X (.While c body [] pos) (at8 tc tb) := by
 intro pins s σ H D I h
 obtain ⟨W, ⟨m0, w0⟩, turn⟩ := h
 refine wpAny_While (codeAny_whileLoop (fun n s' => ∃ σ' H', Inv X pins σ' H' s' /\ W n σ' H') ?_ m0 ⟨σ, H, I, w0⟩)
 rintro n s1 ⟨σ1, H1, I1, w1⟩
 refine wpAny_passesOwn hp (thn (hc pins s1 σ1 H1 _ I1 (turn n σ1 H1 w1)) fun b s2 ⟨H2, I2, q2⟩ => ?_)
 cases b with
 | true =>
  obtain ⟨N, hN, q2⟩ := q2
  rw [if_pos rfl]
  refine wpAny_passesOwn hp (thn (hb pins s2 σ1 H2 _ I2 q2) fun f s3 q3 => ?_)
  cases f with
  | next =>
   obtain ⟨σ3, H3, I3, n3⟩ := q3
   obtain ⟨m', hm, w3⟩ := hN σ3 H3 n3
   exact ⟨m', hm, σ3, H3, I3, w3⟩
  | cont =>
   obtain ⟨σ3, H3, I3, n3⟩ := q3
   obtain ⟨m', hm, w3⟩ := hN σ3 H3 n3
   exact ⟨m', hm, σ3, H3, I3, w3⟩
  | brk => exact q3
  | ret v => exact q3
 | false =>
  rw [if_neg Bool.false_ne_true]
  exact wpAny_execs_nil ⟨σ1, H2, I2, q2⟩
end
structure It where
 go : Nat -> Hp -> Prop
 yld : Nat -> Hp -> V -> Hp -> Prop
 stop : Nat -> Hp -> Prop
def ud (X : Cx) (pins : List (Addr × Obj)) (H : Hp) (b : Addr) : Prop :=
 H b = none /\ b ≠ X.env.locals /\ b ∉ X.fs /\ (b ∈ X.ex \/ X.s₀.heap.objs.size <= b) /\ (∀ x c, X.env.cells.lookup x = some c -> c ≠ b) /\ ∀ p ∈ X.pn ++ pins, p.1 ≠ b
theorem Inv.fpOk {X : Cx} {pins : List (Addr × Obj)} {σ : St} {H H' : Hp} {s : Shared} {b : Addr} (I : Inv X pins σ H s) (hb : s.heap.objs.size <= b) (hn : H' b = none) : ud X pins H' b := by
 refine ⟨hn, Nat.ne_of_gt (Nat.lt_of_lt_of_le I.lt hb), I.nofs hb, .inr (Nat.le_trans I.sz hb), fun x c e z => ?_, fun p hp z => ?_⟩
 . obtain ⟨v, q⟩ := I.cell x c e
   exact absurd (Nat.lt_of_lt_of_le q.lt (by rw [z]; exact hb)) (Nat.lt_irrefl _)
 . exact absurd (Nat.lt_of_lt_of_le (Heap.lt_size (I.pin p hp).1) (by rw [z]; exact hb)) (Nat.lt_irrefl _)
structure Turn (P : Program) (w : World) (K : Fg) (tg : Expr) (J : It) (fp : List Addr) (it : Addr) (tn : Nat -> Heap -> Prop) : Prop where
 mem : it ∈ fp
 obj : ∀ i h, tn i h -> ∀ b ∈ fp, ∃ o, h.get? b = some o /\ ∀ v, o.data ≠ .cell v
 keep : ∀ i h h', tn i h -> (∀ b ∈ fp, ∀ o, h.get? b = some o -> h'.get? b = some o) -> tn i h'
 item : ∀ (X : Cx), X.prog = P -> X.w = w -> X.K = K -> X.calm = true -> ∀ (i : Nat) (pins : List (Addr × Obj)) (s : Shared) (σ : St) (H : Hp) (E : Value -> Shared -> Prop), Inv X pins σ H s -> (∀ b ∈ fp, ud X pins H b) -> tn i s.heap -> J.go i H ->
  wpAny (model P w) X.A (pyNext (.ref it)) (fun r s1 => ∃ u, r = some u /\
   wpAny (model P w) X.A (letOwnedTupleGo tg (.ref it) u) (fun _ s2 => ∃ x H', Inv X pins σ H' s2 /\ RelV x u /\ J.yld i H x H' /\ tn (i + 1) s2.heap /\ ∀ b ∈ fp, H' b = none) E s1) E s
 done : ∀ (X : Cx), X.prog = P -> X.w = w -> X.K = K -> X.calm = true -> ∀ (i : Nat) (pins : List (Addr × Obj)) (s : Shared) (σ : St) (H : Hp) (E : Value -> Shared -> Prop), Inv X pins σ H s -> (∀ b ∈ fp, ud X pins H b) -> tn i s.heap -> J.stop i H ->
  wpAny (model P w) X.A (pyNext (.ref it)) (fun r s1 => r = none /\ Inv X pins σ H s1) E s
 self : ∀ (A : Around) (i : Nat) (s : Shared) (Q : Value -> Shared -> Prop) (E : Value -> Shared -> Prop), tn i s.heap -> Q (.ref it) s -> wpAny (model P w) A (pyIter (.ref it)) Q E s
abbrev TI := St -> Hp -> (It -> Hp -> Prop) -> Prop
def PIE (X : Cx) (pins : List (Addr × Obj)) (σ : St) (tg : Expr) (R : It -> Hp -> Prop) (itv : Value) (s2 : Shared) : Prop :=
 ∃ (it : Addr) (fp : List Addr) (tn : Nat -> Heap -> Prop) (J : It) (H' : Hp), itv = .ref it /\ Inv X pins σ H' s2 /\ Turn X.prog X.w X.K tg J fp it tn /\ tn 0 s2.heap /\ (∀ b ∈ fp, ud X pins H' b) /\ R J H'
def PI (X : Cx) (tg iter : Expr) (wi : TI) : Prop :=
 ∀ (pins : List (Addr × Obj)) (s : Shared) (σ : St) (H : Hp) (R : It -> Hp -> Prop), Inv X pins σ H s -> wi σ H R ->
  wpAny (model X.prog X.w) X.A (eval iter X.env) (fun v s1 => wpAny (model X.prog X.w) X.A (pyIter v) (PIE X pins σ tg R) X.xe s1) X.xe s
theorem akd {M : Model} {A : Around} {E : Value -> Shared -> Prop} {s : Shared} {tg : Expr} {it : Addr} {u : Value} {o : Obj} {n : String} {vs : Array Value} {Q : Unit -> Shared -> Prop} (ho : s.heap.get? it = some o) (hc : o.cls = .type n) (hd : o.data = .fields vs)
 (hn : ["enumerate", "zip", "dict_itemiterator", "dict_reverseitemiterator", "odict_iterator", "itertools.zip_longest", "itertools.pairwise"].contains n = false) (hQ : Q () s) : wpAny M A (letOwnedTupleGo tg (.ref it) u) Q E s := by
 unfold letOwnedTupleGo
 cases tg <;> first
  | exact wpAny_pure hQ
  | (cases u <;> first
   | exact wpAny_pure hQ
   | (refine wpAny_bind (wpAny_load ho ?_)
      rw [hc, hd]
      show wpAny M A (if (["enumerate", "zip", "dict_itemiterator", "dict_reverseitemiterator", "odict_iterator", "itertools.zip_longest", "itertools.pairwise"].contains n && vs[0]? == some (rawInt _)) = true then _ else _) Q E s
      rw [if_neg (by intro h; rw [hn, Bool.false_and] at h; cases h)]
      exact wpAny_pure hQ))
def Itl (K : Fg) (a : Addr) : It :=
 ⟨fun i H => ∃ xs x, SqL K H a xs /\ xs[i]? = some x, fun i H x H' => H' = H /\ ∀ xs, SqL K H a xs -> xs[i]? = some x, fun i H => ∃ xs, SqL K H a xs /\ xs.length <= i⟩
def Itt (K : Fg) (a : Addr) : It :=
 ⟨fun i H => ∃ xs x, SqT K H a xs /\ xs[i]? = some x, fun i H x H' => H' = H /\ ∀ xs, SqT K H a xs -> xs[i]? = some x, fun i H => ∃ xs, SqT K H a xs /\ xs.length <= i⟩
def Itr (lo : Int) (n : Nat) : It := ⟨fun i _ => i < n, fun i H x H' => H' = H /\ x = .int (lo + i), fun i _ => n <= i⟩
theorem ak6 {P : Program} {w : World} {K : Fg} {tg : Expr} (a it : Addr) : Turn P w K tg (Itl K a) [it] it (fun i h => h.IsListIter it a i) where
 mem := by simp
 obj := fun i h st b hb => by
  have e : b = it := by simpa using hb
  subst e
  obtain ⟨o, e, c, d⟩ := st
  exact ⟨o, e, fun v z => by rw [d] at z; cases z⟩
 keep := fun i h h' st k => st.at fun o e => k it (by simp) o e
 item := by
  intro X hP hw hK hc i pins s σ H E I hf st hg
  subst hP hw hK
  obtain ⟨xs, x, hq, hx⟩ := hg
  obtain ⟨its, rv, p, hz⟩ := I.list hq
  obtain ⟨u, hu, ru⟩ := rv.get hx
  obtain ⟨f0, f1, f2, f3, f4, f5⟩ := hf it (by simp)
  refine wpAny_pyNext_list_item st p.isList (x := u) (by simpa using hu) fun h' st' sb => ?_
  have I1 : Inv X pins σ H { s with heap := h' } := I.turned (t' := s.toks) (fun b o hb e => (sb.2 b hb).trans e) f0 f1 f3 f4 f5
  obtain ⟨o, e, c, d⟩ := id st'
  exact ⟨u, rfl, akd (s := { s with heap := h' }) e c d (by decide) ⟨x, H, I1, ru, ⟨rfl, fun ys hy => by rw [I.list_inj hy hq]; exact hx⟩, st', fun b hb => (hf b hb).1⟩⟩
 done := by
  intro X hP hw hK hc i pins s σ H E I hf st hg
  subst hP hw hK
  obtain ⟨xs, hq, hx⟩ := hg
  obtain ⟨its, rv, p, hz⟩ := I.list hq
  obtain ⟨f0, f1, f2, f3, f4, f5⟩ := hf it (by simp)
  have hl := rv.length
  exact wpAny_pyNext_list_end (I.ok.hd hc) st p.isList (by simp; omega) fun h' eb => ⟨rfl, I.turned (t' := s.toks) (fun b o hb e => eb b o hb e) f0 f1 f3 f4 f5⟩
 self := fun _ _ _ _ _ st h => wpAny_pyIter_listiter st h
theorem aj3 {P : Program} {w : World} {K : Fg} {tg : Expr} (a it : Addr) : Turn P w K tg (Itt K a) [it] it (fun i h => h.IsTupleIter it a i) where
 mem := by simp
 obj := fun i h st b hb => by
  have e : b = it := by simpa using hb
  subst e
  obtain ⟨o, e, c, d⟩ := st
  exact ⟨o, e, fun v z => by rw [d] at z; cases z⟩
 keep := fun i h h' st k => st.at fun o e => k it (by simp) o e
 item := by
  intro X hP hw hK hc i pins s σ H E I hf st hg
  subst hP hw hK
  obtain ⟨xs, x, hq, hx⟩ := hg
  obtain ⟨its, rv, p, hz⟩ := I.tuple hq
  obtain ⟨u, hu, ru⟩ := rv.get hx
  obtain ⟨f0, f1, f2, f3, f4, f5⟩ := hf it (by simp)
  refine wpAny_pyNext_tuple_item st (show s.heap.IsTuple a its.toArray from p) (x := u) (by simpa using hu) fun h' st' sb => ?_
  have I1 : Inv X pins σ H { s with heap := h' } := I.turned (t' := s.toks) (fun b o hb e => (sb.2 b hb).trans e) f0 f1 f3 f4 f5
  obtain ⟨o, e, c, d⟩ := id st'
  exact ⟨u, rfl, akd (s := { s with heap := h' }) e c d (by decide) ⟨x, H, I1, ru, ⟨rfl, fun ys hy => by rw [I.tuple_inj hy hq]; exact hx⟩, st', fun b hb => (hf b hb).1⟩⟩
 done := by
  intro X hP hw hK hc i pins s σ H E I hf st hg
  subst hP hw hK
  obtain ⟨xs, hq, hx⟩ := hg
  obtain ⟨its, rv, p, hz⟩ := I.tuple hq
  obtain ⟨f0, f1, f2, f3, f4, f5⟩ := hf it (by simp)
  have hl := rv.length
  exact wpAny_pyNext_tuple_end (I.ok.hd hc) st (show s.heap.IsTuple a its.toArray from p) (by simp; omega) fun h' eb => ⟨rfl, I.turned (t' := s.toks) (fun b o hb e => eb b o hb e) f0 f1 f3 f4 f5⟩
 self := fun _ _ _ _ _ st h => wpAny_pyIter_tupleiter st h
theorem aj8 {P : Program} {w : World} {K : Fg} {tg : Expr} (it : Addr) (lo : Int) (n : Nat) : Turn P w K tg (Itr lo n) [it] it (fun i h => IsRangeIter h it (lo + (i : Nat) * 1) ((n : Int) - (i : Nat)) 1) where
 mem := by simp
 obj := fun i h st b hb => by
  have e : b = it := by simpa using hb
  subst e
  exact ⟨_, st, fun v z => by
   have z' : Data.fields _ = Data.cell v := z
   cases z'⟩
 keep := fun i h h' st k => k it (by simp) _ st
 item := by
  intro X hP hw hK hc i pins s σ H E I hf st hg
  subst hP hw hK
  obtain ⟨f0, f1, f2, f3, f4, f5⟩ := hf it (by simp)
  have W := Walks.range (prog := X.prog) (w := X.w) (I.ok.hd hc) it lo 1 n
  refine W.item i s _ _ hg st fun v h' tk hv st' kk => ?_
  obtain ⟨t, rfl⟩ := hv
  have I1 : Inv X pins σ H { s with heap := h', toks := tk } := I.turned (fun b o hb e => kk b o (by simpa using hb) e) f0 f1 f3 f4 f5
  refine ⟨_, rfl, akd (s := { s with heap := h', toks := tk }) (n := "range_iterator") st' rfl rfl (by decide) ⟨.int (lo + i), H, I1, ⟨t, ?_⟩, ⟨rfl, rfl⟩, st', fun b hb => (hf b hb).1⟩⟩
  rw [Int.mul_one]
 done := by
  intro X hP hw hK hc i pins s σ H E I hf st hg
  subst hP hw hK
  obtain ⟨f0, f1, f2, f3, f4, f5⟩ := hf it (by simp)
  exact wpAny_pyNext_range_end (I.ok.hd hc) st (by have : n <= i := hg; omega) fun h' eb => ⟨rfl, I.turned (t' := s.toks) (fun b o hb e => eb b o hb e) f0 f1 f3 f4 f5⟩
 self := fun _ _ _ _ _ st h => wpAny_pyIter_rangeiter st h
end L2
namespace L2
open PySem PySem.Spec PyProof.Rows
section
variable {X : Cx} {tg : Expr}
theorem apv {pins : List (Addr × Obj)} {σ : St} {H : Hp} {s : Shared} {R : It -> Hp -> Prop} {E : Value -> Shared -> Prop} {lo hi : Int} {t u v : Tok} {tk : Nat} (I : Inv X pins σ H s) (h1 : -(2 ^ 62) <= lo) (h2 : lo < 2 ^ 62) (h3 : -(2 ^ 62) <= hi) (h4 : hi < 2 ^ 62)
 (q : R (Itr lo (hi - lo).toNat) H) : wpAny (model X.prog X.w) X.A (pyIter (.ref s.heap.objs.size)) (PIE X pins σ tg R) E { s with heap := s.heap.push { cls := .type "range", data := .fields #[.int lo t, .int hi u, .int 1 v] }, toks := tk } := by
 refine wpAny_pyIter_range (IsRange.new ..) (small_one h1 h2 h3 h4) ?_
 have I1 : Inv X pins σ H { s with heap := s.heap.push { cls := .type "range", data := .fields #[.int lo t, .int hi u, .int 1 v] }, toks := tk } := I.kept fun b o e => Heap.get?_push_of_some _ e
 refine ⟨(s.heap.push { cls := .type "range", data := .fields #[.int lo t, .int hi u, .int 1 v] }).objs.size, [(s.heap.push { cls := .type "range", data := .fields #[.int lo t, .int hi u, .int 1 v] }).objs.size], _, _, H, rfl,
  I1.kept (t' := tk) fun b o e => Heap.get?_push_of_some _ e, aj8 _ lo (hi - lo).toNat, ?_, fun b hb => ?_, q⟩
 . have e1 : lo + ((0 : Nat) : Int) * 1 = lo := by simp
   have e2 : (((hi - lo).toNat : Nat) : Int) - ((0 : Nat) : Int) = Builtin.Range.rangeSize lo hi 1 := by rw [rangeSize_one]; split <;> omega
   show IsRangeIter _ _ (lo + ((0 : Nat) : Int) * 1) ((((hi - lo).toNat : Nat) : Int) - ((0 : Nat) : Int)) 1
   rw [e1, e2]
   exact Heap.get?_push_size _ rfl
 . have e : b = (s.heap.push { cls := .type "range", data := .fields #[.int lo t, .int hi u, .int 1 v] }).objs.size := by simpa using hb
   subst e
   exact I1.fpOk (Nat.le_refl _) (I1.hok.fresh (Nat.le_refl _))
def axr (ta : TA) : TI := fun σ H R => ta σ H fun vs H1 => ∃ j : Int, vs = [.int j] /\ -(2 ^ 62) <= j /\ j < 2 ^ 62 /\ R (Itr 0 j.toNat) H1
theorem amw {a : Expr} {ta : TA} {p pos : Pos} (hg : Gl X "range") (hm : X.mg "range" = none) (ha : PA X [a] ta) (hs : starEach [a] X.env = [(false, eval a X.env)] := by rfl) : PI X tg (.Call (.Name "range" p) [a] [] pos) (axr ta) := by
 intro pins s σ H R I h
 refine Call_ (j5 I hg hm boot_range (PyProof.Rows.callWith_type1 (thn (ha pos pins s σ H _ I h) fun us s1 ⟨vs, H1, I1, r1, q1⟩ => ?_) hs rfl))
 obtain ⟨j, e, q1, q2, q⟩ := q1
 subst e
 cases r1 with
 | cons r rr =>
  cases rr
  obtain ⟨t, rfl⟩ := r
  exact call_range_1 (apv I1 (by omega) (by omega) q1 q2 (by simpa using q))
def azj (wi : TI) (g : TG) (tb : TS) : TS := fun D σ H => wi σ H fun J H1 => ∃ W : Nat -> Nat -> St -> Hp -> Prop, (∃ m, W 0 m σ H1) /\ ∀ i m σ H, W i m σ H ->
 (J.stop i H /\ D.nx σ H) \/ (J.go i H /\ ∃ N : St -> Hp -> Prop, (∀ σ' H', N σ' H' -> ∃ m', m' < m /\ W (i + 1) m' σ' H') /\ ∀ x H', J.yld i H x H' -> g x σ H' fun σ2 H2 => tb { D with nx := N, ct := N, bk := D.nx } σ2 H2)
def aaf (fp : List Addr) (h : Heap) : List (Addr × Obj) := fp.filterMap fun b => (h.get? b).map fun o => (b, o)
theorem ur {fp : List Addr} {h : Heap} {b : Addr} {o : Obj} (hb : b ∈ fp) (e : h.get? b = some o) : (b, o) ∈ aaf fp h := List.mem_filterMap.mpr ⟨b, hb, by rw [e]; rfl⟩
theorem alf {fp : List Addr} {h : Heap} {p : Addr × Obj} (hp : p ∈ aaf fp h) : p.1 ∈ fp /\ h.get? p.1 = some p.2 := by
 obtain ⟨b, hb, e⟩ := List.mem_filterMap.mp hp
 cases q : h.get? b with
 | none => rw [q] at e; cases e
 | some o =>
  rw [q] at e
  have e' : (b, o) = p := Option.some.inj e
  subst e'
  exact ⟨hb, q⟩
theorem Inv.pinned {pins : List (Addr × Obj)} {σ : St} {H : Hp} {s : Shared} {fp : List Addr} (I : Inv X pins σ H s) (hf : ∀ b ∈ fp, ud X pins H b) (ho : ∀ b ∈ fp, ∃ o, s.heap.get? b = some o /\ ∀ v, o.data ≠ .cell v) : Inv X (pins ++ aaf fp s.heap) σ H s :=
 I.pins_of fun p hp => (List.mem_append.mp hp).elim (fun z => I.pin p (List.mem_append_right _ z)) fun z => by
  obtain ⟨hb, e⟩ := alf z
  obtain ⟨f0, f1, f2, _⟩ := hf p.1 hb
  obtain ⟨o, e', d⟩ := ho p.1 hb
  rw [e] at e'; cases e'
  exact ⟨e, f0, f1, f2, d⟩
theorem Inv.unpinned {pins pl : List (Addr × Obj)} {σ : St} {H : Hp} {s : Shared} (I : Inv X (pins ++ pl) σ H s) : Inv X pins σ H s := I.pins_of fun p hp => I.pin p (List.mem_append_right _ (List.mem_append_left _ hp))
theorem atj {iter : Expr} {body : List Stmt} {wi : TI} {g : TG} {tb : TS} {pos : Pos} (hp : PassesOwn (model X.prog X.w) X.A X.env X.xe) (hc : X.calm = true) (hi : PI X tg iter wi) (hg : PG X tg g) (hb : PSs X body tb)
 (hs : ∀ x, foldedSetIterable iter X.env x = pure x := by intro _; rfl) : PS X (.For tg iter body [] pos) (azj wi g tb) := by
 intro pins s σ H D I h
 refine wpAny_For (thn (hi pins s σ H _ I h) fun v s1 h1 => thn h1 fun itv s2 h2 => ?_) hs
 obtain ⟨it, fp, tn, J, H2, e, I2, T, st2, f2, W, ⟨m0, w0⟩, turn⟩ := h2
 subst e
 have stat : ∀ {H' : Hp}, (∀ b ∈ fp, H' b = none) -> ∀ b ∈ fp, ud X pins H' b := fun hn b hb => ⟨hn b hb, (f2 b hb).2⟩
 refine codeAny_forLoop_any (fun n s' => ∃ i σ' H', Inv X pins σ' H' s' /\ tn i s'.heap /\ (∀ b ∈ fp, H' b = none) /\ W i n σ' H') ?_ m0 ⟨0, σ, H2, I2, st2, fun b hb => (f2 b hb).1, w0⟩
 rintro n s3 ⟨i, σ3, H3, I3, st3, fr3, w3⟩
 rcases turn i n σ3 H3 w3 with ⟨stop, qn⟩ | ⟨go, N, hN, step⟩
 . refine wpAny_passesOwn hp (thn (T.done X rfl rfl rfl hc i pins s3 σ3 H3 X.xe I3 (stat fr3) st3 stop) fun r s4 ⟨hr, I4⟩ => ?_)
   subst hr
   exact wpAny_execs_nil ⟨σ3, H3, I4, qn⟩
 . refine wpAny_passesOwn hp (thn (T.item X rfl rfl rfl hc i pins s3 σ3 H3 X.xe I3 (stat fr3) st3 go) fun r s4 ⟨u, hr, h4⟩ => ?_)
   subst hr
   refine wpAny_passesOwn hp (thn h4 fun _ s5 ⟨x, H5, I5, r5, y5, st5, fr5⟩ => ?_)
   have I5' := I5.pinned (stat fr5) (T.obj _ _ st5)
   refine wpAny_passesOwn hp (thn (hg _ s5 σ3 H5 x u _ I5' r5 (step x H5 y5)) fun _ s6 ⟨σ6, H6, I6, q6⟩ => ?_)
   refine wpAny_passesOwn hp (thn (hb _ s6 σ6 H6 _ I6 q6) fun f s7 q7 => ?_)
   have again : ∀ {σ7 : St} {H7 : Hp}, Inv X (pins ++ aaf fp s5.heap) σ7 H7 s7 -> N σ7 H7 -> ∃ m, m < n /\ ∃ i σ' H', Inv X pins σ' H' s7 /\ tn i s7.heap /\ (∀ b ∈ fp, H' b = none) /\ W i m σ' H' := fun {σ7 H7} I7 n7 => by
    obtain ⟨m', hm, w7⟩ := hN σ7 H7 n7
    refine ⟨m', hm, i + 1, σ7, H7, I7.unpinned, T.keep _ _ _ st5 fun b hb o e => (I7.pin (b, o) (List.mem_append_right _ (List.mem_append_right _ (ur hb e)))).1, fun b hb => ?_, w7⟩
    obtain ⟨o, e, d⟩ := T.obj _ _ st5 b hb
    exact (I7.pin (b, o) (List.mem_append_right _ (List.mem_append_right _ (ur hb e)))).2.1
   cases f with
   | next => obtain ⟨σ7, H7, I7, n7⟩ := q7; exact again I7 n7
   | cont => obtain ⟨σ7, H7, I7, n7⟩ := q7; exact again I7 n7
   | brk => obtain ⟨σ7, H7, I7, q7⟩ := q7; exact ⟨σ7, H7, I7.unpinned, q7⟩
   | ret v => obtain ⟨x7, σ7, H7, I7, r7, q7⟩ := q7; exact ⟨x7, σ7, H7, I7.unpinned, r7, q7⟩
end
end L2
namespace L2
open PySem PySem.Spec PyProof.Rows
abbrev R2 := V -> V -> Hp -> VK -> Prop
def OpR (X : Cx) (f : Value -> Value -> Sem Value) (r : R2) : Prop :=
 ∀ (pins : List (Addr × Obj)) (s : Shared) (σ : St) (H : Hp) (x y : V) (v u : Value) (Q : VK), Inv X pins σ H s -> RelV x v -> RelV y u -> r x y H Q ->
  wpAny (model X.prog X.w) X.A (f v u) (EP X pins σ Q) X.xe s
def UnR (X : Cx) (f : Value -> Sem Value) (r : V -> Hp -> VK -> Prop) : Prop :=
 ∀ (pins : List (Addr × Obj)) (s : Shared) (σ : St) (H : Hp) (x : V) (v : Value) (Q : VK), Inv X pins σ H s -> RelV x v -> r x H Q ->
  wpAny (model X.prog X.w) X.A (f v) (EP X pins σ Q) X.xe s
def CallR (X : Cx) (f : Value) (r : List V -> Hp -> VK -> Prop) : Prop :=
 ∀ (pins : List (Addr × Obj)) (s : Shared) (σ : St) (H : Hp) (xs : List V) (us : List Value) (Q : VK), Inv X pins σ H s -> Vals xs us -> r xs H Q ->
  wpAny (model X.prog X.w) X.A (call f us) (EP X pins σ Q) X.xe s
def tOp (r : R2) (ta tb : TE) : TE := fun σ H Q => ta σ H fun x H1 => tb σ H1 fun y H2 => r x y H2 Q
def tUn (r : V -> Hp -> VK -> Prop) (ta : TE) : TE := fun σ H Q => ta σ H fun x H1 => r x H1 Q
def rI (C : Int -> Int -> Prop) (g : Int -> Int -> V) : R2 := fun x y H Q => ∃ i j, x = .int i /\ y = .int j /\ C i j /\ Q (g i j) H
def rI0 (g : Int -> Int -> V) : R2 := fun x y H Q => ∃ i j, x = .int i /\ y = .int j /\ Q (g i j) H
def rU (g : Int -> V) : V -> Hp -> VK -> Prop := fun x H Q => ∃ i, x = .int i /\ Q (g i) H
section
variable {X : Cx} {a b c : Expr} {ta tb tc : TE} {pos : Pos}
theorem aoh (ha : PE X a ta) (hb : PE X b tb) {pins : List (Addr × Obj)} {s : Shared} {σ : St} {H : Hp} {R : V -> V -> Hp -> Prop} (I : Inv X pins σ H s)
 (h : ta σ H fun x H1 => tb σ H1 fun y H2 => R x y H2) {Q : Value -> Shared -> Prop} {f : Value -> Value -> Sem Value}
 (hf : ∀ v u s2 x y H2, Inv X pins σ H2 s2 -> RelV x v -> RelV y u -> R x y H2 -> wpAny (model X.prog X.w) X.A (f v u) Q X.xe s2) :
 wpAny (model X.prog X.w) X.A (eval a X.env) (fun v s₁ => wpAny (model X.prog X.w) X.A (eval b X.env) (fun u s₂ => wpAny (model X.prog X.w) X.A (f v u) Q X.xe s₂) X.xe s₁) X.xe s := by
 refine thn (ha pins s σ H _ I h) fun v s1 ⟨x, H1, I1, r1, q1⟩ => ?_
 refine thn (hb pins s1 σ H1 _ I1 q1) fun u s2 ⟨y, H2, I2, r2, q2⟩ => ?_
 exact hf v u s2 x y H2 I2 r1 r2 q2
theorem awz {op : Operator} {r : R2} (ho : OpR X (binaryOp op) r) (ha : PE X a ta) (hb : PE X b tb) : PE X (.BinOp a op b pos) (tOp r ta tb) := by
 intro pins s σ H Q I h
 exact wpAny_BinOp (aoh ha hb I h fun v u s2 x y H2 I2 rx ry q => ho pins s2 σ H2 x y v u Q I2 rx ry q)
theorem aw9 {op : UnaryOp} {r : V -> Hp -> VK -> Prop} (ho : UnR X (unaryOp op) r) (ha : PE X a ta) : PE X (.UnaryOp op a pos) (tUn r ta) := by
 intro pins s σ H Q I h
 exact UnaryOp_ (thn (ha pins s σ H _ I h) fun v s1 ⟨x, H1, I1, r1, q1⟩ => ho pins s1 σ H1 x v Q I1 r1 q1)
theorem opI {f : Value -> Value -> Sem Value} {C : Int -> Int -> Prop} {g : Int -> Int -> Int}
 (rule : ∀ (i j : Int) (t u : Tok) (s : Shared) (Q : Value -> Shared -> Prop) (E : Value -> Shared -> Prop), C i j -> Q (.int (g i j) s.toks) { s with toks := s.toks + 1 } -> wpAny (model X.prog X.w) X.A (f (.int i t) (.int j u)) Q E s) :
 OpR X f (rI C fun i j => .int (g i j)) := by
 intro pins s σ H x y v u Q I rx ry h
 obtain ⟨i, j, rfl, rfl, hc, q⟩ := h
 obtain ⟨t, rfl⟩ := rx
 obtain ⟨t', rfl⟩ := ry
 exact rule i j t t' s _ _ hc ⟨.int (g i j), H, I.tok _, ⟨_, rfl⟩, q⟩
theorem auv {f : Value -> Value -> Sem Value} {g : Int -> Int -> Int}
 (rule : ∀ (i j : Int) (t u : Tok) (s : Shared) (Q : Value -> Shared -> Prop) (E : Value -> Shared -> Prop), Q (.int (g i j) s.toks) { s with toks := s.toks + 1 } -> wpAny (model X.prog X.w) X.A (f (.int i t) (.int j u)) Q E s) :
 OpR X f (rI0 fun i j => .int (g i j)) := by
 intro pins s σ H x y v u Q I rx ry h
 obtain ⟨i, j, rfl, rfl, q⟩ := h
 obtain ⟨t, rfl⟩ := rx
 obtain ⟨t', rfl⟩ := ry
 exact rule i j t t' s _ _ ⟨.int (g i j), H, I.tok _, ⟨_, rfl⟩, q⟩
theorem aj4 {f : Value -> Value -> Sem Value} {g : Int -> Int -> Bool}
 (rule : ∀ (i j : Int) (t u : Tok) (s : Shared) (Q : Value -> Shared -> Prop) (E : Value -> Shared -> Prop), Q (.bool (g i j)) s -> wpAny (model X.prog X.w) X.A (f (.int i t) (.int j u)) Q E s) :
 OpR X f (rI0 fun i j => .bl (g i j)) := by
 intro pins s σ H x y v u Q I rx ry h
 obtain ⟨i, j, rfl, rfl, q⟩ := h
 obtain ⟨t, rfl⟩ := rx
 obtain ⟨t', rfl⟩ := ry
 exact rule i j t t' s _ _ ⟨.bl (g i j), H, I, rfl, q⟩
def az2 (i j : Int) : Prop := 0 < j /\ j < 1073741824
def azz (i j : Int) : Prop := 0 <= j /\ j <= 1000000 /\ i.natAbs < 2 ^ 64
def CMul (i j : Int) : Prop := (-(2 ^ 64) < i /\ i < 2 ^ 64) \/ (-(2 ^ 64) < j /\ j < 2 ^ 64)
theorem CMul.ok {i j : Int} (h : CMul i j) : IntMulOk i j := by
 rcases h with ⟨h1, h2⟩ | ⟨h1, h2⟩
 . exact .of_left (intBits_le_64 h1 h2)
 . exact .of_right (intBits_le_64 h1 h2)
theorem op_add : OpR X (binaryOp .Add) (rI0 fun i j => .int (i + j)) := auv fun _ _ _ _ _ _ _ q => add_int q
theorem aut : OpR X (binaryOp .Sub) (rI0 fun i j => .int (i - j)) := auv fun _ _ _ _ _ _ _ q => sub_int q
theorem awj : OpR X (binaryOp .Mult) (rI CMul fun i j => .int (i * j)) := opI fun _ _ _ _ _ _ _ hc q => mul_int q hc.ok
theorem aq8 : OpR X (binaryOp .FloorDiv) (rI az2 fun i j => .int (i / j)) := opI fun i j _ _ _ _ _ hc q => by
 have h1 : (0 : Int) < j := hc.1
 have h2 : j < 1073741824 := hc.2
 exact floordiv_int (by omega) (by rw [Int.fdiv_eq_ediv_of_nonneg i (by omega)]; exact q) (.inl (PyProof.noPylong_small (by omega)))
theorem av3 : OpR X (binaryOp .Mod) (rI (fun _ j => 0 < j) fun i j => .int (i % j)) := opI fun i j _ _ _ _ _ hc q => by
 have h1 : (0 : Int) < j := hc
 exact mod_int' (by omega) (by rw [Int.fmod_eq_emod_of_nonneg i (by omega)]; exact q)
theorem auc : OpR X (binaryOp .Pow) (rI azz fun i j => .int (i ^ j.toNat)) := opI fun _ _ _ _ _ _ _ hc q => pow_int_small hc.1 hc.2.1 hc.2.2 q
theorem unI {f : Value -> Sem Value} {g : Int -> Int}
 (rule : ∀ (i : Int) (t : Tok) (s : Shared) (Q : Value -> Shared -> Prop) (E : Value -> Shared -> Prop), Q (.int (g i) s.toks) { s with toks := s.toks + 1 } -> wpAny (model X.prog X.w) X.A (f (.int i t)) Q E s) :
 UnR X f (rU fun i => .int (g i)) := by
 intro pins s σ H x v Q I rx h
 obtain ⟨i, rfl, q⟩ := h
 obtain ⟨t, rfl⟩ := rx
 exact rule i t s _ _ ⟨.int (g i), H, I.tok _, ⟨_, rfl⟩, q⟩
theorem awo : UnR X (unaryOp .USub) (rU fun i => .int (-i)) := unI fun _ _ _ _ _ q => neg_int q
end
def anp : V -> V -> Bool
 | .non, .non => true | .non, .int _ => true | .int _, .non => true | .non, .bl _ => true | .bl _, .non => true | .non, .str _ => true | .str _, .non => true
 | .int _, .int _ => true | .bl _, .bl _ => true | .str _, .str _ => true | .byt _, .byt _ => true
 | .int _, .str _ => true | .str _, .int _ => true | .bl _, .str _ => true | .str _, .bl _ => true
 | _, _ => false
def rEq : R2 := fun x y H Q => anp x y = true /\ Q (.bl (decide (x = y))) H
def rNe : R2 := fun x y H Q => anp x y = true /\ Q (.bl (!decide (x = y))) H
theorem ai1 {i j : Int} : decide (V.int i = V.int j) = (i == j) := by
 rw [Bool.eq_iff_iff]
 simp
theorem alv {i j : Bool} : decide (V.bl i = V.bl j) = (i == j) := by
 rw [Bool.eq_iff_iff]
 simp
theorem ai8 {i j : Str} : decide (V.str i = V.str j) = (i == j) := by
 rw [Bool.eq_iff_iff]
 simp
theorem ai0 {i j : Array UInt8} : decide (V.byt i = V.byt j) = (i.toList == j.toList) := by
 rw [Bool.eq_iff_iff]
 cases i
 cases j
 simp
section
variable {X : Cx} {a b c : Expr} {ta tb tc : TE} {pos : Pos}
theorem cj {pins : List (Addr × Obj)} {σ : St} {H : Hp} {s : Shared} {Q : VK} {k k' : Bool} (I : Inv X pins σ H s) (q : Q (.bl k) H) (e : k = k') : EP X pins σ Q (.bool k') s := by
 subst e
 exact ⟨.bl k, H, I, rfl, q⟩
theorem ax3 : OpR X (compareOp .Eq) rEq := by
 intro pins s σ H x y v u Q I rx ry h
 obtain ⟨hs, q⟩ := h
 cases x with
 | non =>
  cases rx
  cases y with
  | non => cases ry; exact PySem.EqNone.eq_none_none (cj I q (by simp))
  | bl j => cases ry; exact PySem.EqNone.eq_none_bool (cj I q (by simp))
  | int j => obtain ⟨t', rfl⟩ := ry; exact PySem.EqNone.eq_none_int (cj I q (by simp))
  | str j => obtain ⟨t', rfl⟩ := ry; exact PySem.EqNone.eq_none_str (cj I q (by simp))
  | _ => exact absurd (show false = true from hs) Bool.false_ne_true
 | bl i =>
  cases rx
  cases y with
  | non => cases ry; exact PySem.EqNone.eq_bool_none (cj I q (by simp))
  | bl j => cases ry; exact eq_bool (cj I q alv)
  | str j => obtain ⟨t', rfl⟩ := ry; exact PySem.EqMixed.eq_bool_str (cj I q (by simp))
  | _ => exact absurd (show false = true from hs) Bool.false_ne_true
 | int i =>
  obtain ⟨t, rfl⟩ := rx
  cases y with
  | non => cases ry; exact PySem.EqNone.eq_int_none (cj I q (by simp))
  | int j => obtain ⟨t', rfl⟩ := ry; exact eq_int (cj I q ai1)
  | str j => obtain ⟨t', rfl⟩ := ry; exact PySem.EqMixed.eq_int_str (cj I q (by simp))
  | _ => exact absurd (show false = true from hs) Bool.false_ne_true
 | str i =>
  obtain ⟨t, rfl⟩ := rx
  cases y with
  | non => cases ry; exact PySem.EqNone.eq_str_none (cj I q (by simp))
  | bl j => cases ry; exact PySem.EqMixed.eq_str_bool (cj I q (by simp))
  | int j => obtain ⟨t', rfl⟩ := ry; exact PySem.EqMixed.eq_str_int (cj I q (by simp))
  | str j => obtain ⟨t', rfl⟩ := ry; exact eq_str (cj I q ai8)
  | _ => exact absurd (show false = true from hs) Bool.false_ne_true
 | byt i =>
  obtain ⟨t, rfl⟩ := rx
  cases y with
  | byt j => obtain ⟨t', rfl⟩ := ry; exact PySem.W.eq_bytes (cj I q ai0)
  | _ => exact absurd (show false = true from hs) Bool.false_ne_true
 | _ => cases y <;> exact absurd (show false = true from hs) Bool.false_ne_true
theorem axk : OpR X (compareOp .NotEq) rNe := by
 intro pins s σ H x y v u Q I rx ry h
 obtain ⟨hs, q⟩ := h
 cases x with
 | non =>
  cases rx
  cases y with
  | non => cases ry; exact PySem.EqNone.ne_none_none (cj I q (by simp))
  | bl j => cases ry; exact PySem.EqNone.ne_none_bool (cj I q (by simp))
  | int j => obtain ⟨t', rfl⟩ := ry; exact PySem.EqNone.ne_none_int (cj I q (by simp))
  | str j => obtain ⟨t', rfl⟩ := ry; exact PySem.EqNone.ne_none_str (cj I q (by simp))
  | _ => exact absurd (show false = true from hs) Bool.false_ne_true
 | bl i =>
  cases rx
  cases y with
  | non => cases ry; exact PySem.EqNone.ne_bool_none (cj I q (by simp))
  | bl j => cases ry; exact ne_bool (cj I q (congrArg not alv))
  | str j => obtain ⟨t', rfl⟩ := ry; exact PySem.EqMixed.ne_bool_str (cj I q (by simp))
  | _ => exact absurd (show false = true from hs) Bool.false_ne_true
 | int i =>
  obtain ⟨t, rfl⟩ := rx
  cases y with
  | non => cases ry; exact PySem.EqNone.ne_int_none (cj I q (by simp))
  | int j => obtain ⟨t', rfl⟩ := ry; exact ne_int (cj I q (congrArg not ai1))
  | str j => obtain ⟨t', rfl⟩ := ry; exact PySem.EqMixed.ne_int_str (cj I q (by simp))
  | _ => exact absurd (show false = true from hs) Bool.false_ne_true
 | str i =>
  obtain ⟨t, rfl⟩ := rx
  cases y with
  | non => cases ry; exact PySem.EqNone.ne_str_none (cj I q (by simp))
  | bl j => cases ry; exact PySem.EqMixed.ne_str_bool (cj I q (by simp))
  | int j => obtain ⟨t', rfl⟩ := ry; exact PySem.EqMixed.ne_str_int (cj I q (by simp))
  | str j => obtain ⟨t', rfl⟩ := ry; exact ne_str (cj I q (congrArg not ai8))
  | _ => exact absurd (show false = true from hs) Bool.false_ne_true
 | byt i =>
  obtain ⟨t, rfl⟩ := rx
  cases y with
  | byt j => obtain ⟨t', rfl⟩ := ry; exact PySem.W.ne_bytes (cj I q (congrArg not ai0))
  | _ => exact absurd (show false = true from hs) Bool.false_ne_true
 | _ => cases y <;> exact absurd (show false = true from hs) Bool.false_ne_true
theorem ax0 : OpR X (compareOp .Lt) (rI0 fun i j => .bl (decide (i < j))) := aj4 fun _ _ _ _ _ _ _ q => lt_int q
theorem axy : OpR X (compareOp .LtE) (rI0 fun i j => .bl (decide (i <= j))) := aj4 fun _ _ _ _ _ _ _ q => le_int q
theorem axt : OpR X (compareOp .Gt) (rI0 fun i j => .bl (decide (j < i))) := aj4 fun _ _ _ _ _ _ _ q => gt_int q
theorem ax7 : OpR X (compareOp .GtE) (rI0 fun i j => .bl (decide (j <= i))) := aj4 fun _ _ _ _ _ _ _ q => ge_int q
theorem OpR.or {f : Value -> Value -> Sem Value} {r r' : R2} (h : OpR X f r) (h' : OpR X f r') : OpR X f (fun x y H Q => r x y H Q \/ r' x y H Q) := by
 intro pins s σ H x y v u Q I rx ry q
 rcases q with q | q
 . exact h pins s σ H x y v u Q I rx ry q
 . exact h' pins s σ H x y v u Q I rx ry q
theorem aqa {op : CmpOp} {r : R2} (ho : OpR X (compareOp op) r) (ha : PE X a ta) (hb : PE X b tb) (hm : behindInMarks op b = false) : PE X (.Compare a [op] [b] pos) (tOp r ta tb) := by
 intro pins s σ H Q I h
 exact wpAny_Compare1 (aoh ha hb I h fun v u s2 x y H2 I2 rx ry q => ho pins s2 σ H2 x y v u Q I2 rx ry q) hm
def ap7 (t : TE) : TT := fun σ H Q => t σ H fun x H' => ∃ k, x = .bl k /\ Q k H'
theorem aqh {op : CmpOp} {r : R2} (ho : OpR X (compareOp op) r) (ha : PE X a ta) (hb : PE X b tb) (hm : behindInMarks op b = false) : PT X (.Compare a [op] [b] pos) (ap7 (tOp r ta tb)) := by
 intro pins s σ H Q I h
 refine wpAny_isTrue_Compare1 (thn (ha pins s σ H _ I h) fun v s1 ⟨x, H1, I1, r1, q1⟩ => thn (hb pins s1 σ H1 _ I1 q1) fun u s2 ⟨y, H2, I2, r2, q2⟩ =>
  thn (ho pins s2 σ H2 x y v u _ I2 r1 r2 q2) fun c s3 ⟨z, H3, I3, r3, k, e, q3⟩ => ?_) hm
 subst e
 cases r3
 exact wpAny_truthy_bool ⟨H3, I3, q3⟩
def aei (r r' : R2) (ta tb tc : TE) : TE := fun σ H Q => ta σ H fun x H1 => tb σ H1 fun y H2 => r x y H2 fun z H3 => ∃ k, z = .bl k /\
 (if k = true then tc σ H3 fun w' H4 => r' y w' H4 Q else Q (.bl false) H3)
theorem aok {op op' : CmpOp} {r r' : R2} (ho : OpR X (compareOp op) r) (ho' : OpR X (compareOp op') r') (ha : PE X a ta) (hb : PE X b tb) (hc : PE X c tc)
 (hm : lastMarks [op, op'] [b, c] = false := by with_unfolding_all rfl) : PE X (.Compare a [op, op'] [b, c] pos) (aei r r' ta tb tc) := by
 intro pins s σ H Q I h
 refine Compare_chain (thn (ha pins s σ H _ I h) fun v s1 ⟨x, H1, I1, r1, q1⟩ => chain_link (thn (hb pins s1 σ H1 _ I1 q1) fun u s2 ⟨y, H2, I2, r2, q2⟩ =>
  thn (ho pins s2 σ H2 x y v u _ I2 r1 r2 q2) fun d s3 ⟨z, H3, I3, r3, k, e, q3⟩ => ?_)) hm
 subst e
 cases r3
 refine wpAny_truthy_bool ?_
 cases k with
 | false => exact ite_ff ⟨.bl false, H3, I3, rfl, q3⟩
 | true => exact ite_tt (chain_last (thn (hc pins s3 σ H3 _ I3 q3) fun w' s4 ⟨z', H4, I4, r4, q4⟩ => ho' pins s4 σ H4 y z' u w' Q I4 r2 r4 q4))
theorem ao6 {op op' : CmpOp} {r r' : R2} (ho : OpR X (compareOp op) r) (ho' : OpR X (compareOp op') r') (ha : PE X a ta) (hb : PE X b tb) (hc : PE X c tc)
 (hm : lastMarks [op, op'] [b, c] = false := by with_unfolding_all rfl) : PT X (.Compare a [op, op'] [b, c] pos) (ap7 (aei r r' ta tb tc)) := by
 intro pins s σ H Q I h
 refine isTrue_chain (thn (ha pins s σ H _ I h) fun v s1 ⟨x, H1, I1, r1, q1⟩ => test_link (thn (hb pins s1 σ H1 _ I1 q1) fun u s2 ⟨y, H2, I2, r2, q2⟩ =>
  thn (ho pins s2 σ H2 x y v u _ I2 r1 r2 q2) fun d s3 ⟨z, H3, I3, r3, k, e, q3⟩ => ?_)) hm
 subst e
 cases r3
 refine wpAny_truthy_bool ?_
 cases k with
 | false =>
  obtain ⟨k', e', q'⟩ := q3
  cases e'
  exact ite_ff ⟨H3, I3, q'⟩
 | true =>
  refine ite_tt (test_last (thn (hc pins s3 σ H3 _ I3 q3) fun w' s4 ⟨z', H4, I4, r4, q4⟩ => thn (ho' pins s4 σ H4 y z' u w' _ I4 r2 r4 q4) fun d' s5 ⟨z2, H5, I5, r5, k2, e2, q5⟩ => ?_))
  subst e2
  cases r5
  exact wpAny_truthy_bool ⟨H5, I5, q5⟩
theorem aeg : (sizeLine : Nat) < 2 ^ 63 := by rw [sizeLine_eq]; decide
theorem vals1 {x : V} {us : List Value} (r : Vals [x] us) : ∃ u, us = [u] /\ RelV x u := by
 cases r with
 | cons r1 r2 => cases r2; exact ⟨_, rfl, r1⟩
theorem vals2 {x y : V} {us : List Value} (r : Vals [x, y] us) : ∃ u w', us = [u, w'] /\ RelV x u /\ RelV y w' := by
 cases r with
 | cons r1 r2 =>
  cases r2 with
  | cons r3 r4 => cases r4; exact ⟨_, _, rfl, r1, r3⟩
theorem amo (hc : X.calm = true) : CallR X (.builtin "max") (fun xs H Q => ∃ i j, xs = [.int i, .int j] /\ Q (.int (if j > i then j else i)) H) := by
 intro pins s σ H xs us Q I r h
 obtain ⟨i, j, rfl, q⟩ := h
 obtain ⟨u, w', rfl, ⟨t, rfl⟩, ⟨t', rfl⟩⟩ := vals2 r
 refine max_two_ints (I.ok.hd hc) fun h' tk k => ⟨_, H, I.kept k, ?_, q⟩
 by_cases hj : j > i
 . rw [if_pos hj, if_pos hj]; exact ⟨_, rfl⟩
 . rw [if_neg hj, if_neg hj]; exact ⟨_, rfl⟩
theorem amx (hc : X.calm = true) : CallR X (.builtin "min") (fun xs H Q => ∃ i j, xs = [.int i, .int j] /\ Q (.int (if j < i then j else i)) H) := by
 intro pins s σ H xs us Q I r h
 obtain ⟨i, j, rfl, q⟩ := h
 obtain ⟨u, w', rfl, ⟨t, rfl⟩, ⟨t', rfl⟩⟩ := vals2 r
 refine min_two_ints (I.ok.hd hc) fun h' tk k => ⟨_, H, I.kept k, ?_, q⟩
 by_cases hj : j < i
 . rw [if_pos hj, if_pos hj]; exact ⟨_, rfl⟩
 . rw [if_neg hj, if_neg hj]; exact ⟨_, rfl⟩
end
end L2
namespace L2
open PySem PySem.Spec PyProof.Rows
structure ObjM (h : Heap) (x dx C : Addr) (mA : Str -> Option Value) : Prop where
 obj : h.get? x = some (PySem.W.instObj C dx)
 ns : h.Ns1 dx mA
 ne : dx ≠ x
theorem amb {h : Heap} {dx : Addr} {mA : Str -> Option Value} (n : h.Ns1 dx mA) : ∃ od, h.get? dx = some od /\ ∀ name, PySem.W.lookIn name od = some (mA name) := by
 obtain ⟨o, es, ep, ho, hd, hk, _, hm⟩ := n
 refine ⟨o, ho, fun name => ?_⟩
 have e := hm name
 unfold nsFind findBy at e
 rw [<- Array.find?_toList] at e
 unfold PySem.W.lookIn
 rw [hd]
 dsimp only
 split
 . rename_i y q
   rw [q] at e
   exact congrArg some e
 . rename_i q
   rw [q] at e
   have a : es.toList.any (·.refKey) = false := by
    rw [List.any_eq_false]
    intro y hy
    obtain ⟨z, t, hkey⟩ := hk y (Array.mem_toList_iff.mp hy)
    simp [DictEntry.refKey, hkey]
   have a' : ¬ es.toList.any (·.refKey) = true := by rw [a]; exact Bool.false_ne_true
   rw [if_neg a']
   exact congrArg some e
theorem ObjM.look {h : Heap} {x dx C : Addr} {mA : Str -> Option Value} (I : ObjM h x dx C mA) : ∃ od, PySem.W.InstAt h x (PySem.W.instObj C dx) C (some od) /\ ∀ name, PySem.W.lookIn name od = some (mA name) :=
 let ⟨od, ho, hl⟩ := amb I.ns
 ⟨od, ⟨I.obj, rfl, rfl, ho⟩, hl⟩
section
variable {prog : Program} {w : World} {A : Around} {E : Value -> Shared -> Prop} {s : Shared} {K : Fg} {x dx C f : Addr} {mA : Str -> Option Value} {name : Str} {v : Value}
theorem asd {expr : Bool} {Q : Value -> Shared -> Prop} (X : K.In s.heap) (I : ObjM s.heap x dx C mA) (hg : PySem.W.plainGet K C name = true) (hh : PySem.W.hasDictIn K C = true)
 (ha : PySem.W.findIn K (.ref C) name = some none) (hv : mA name = some v) (hv' : PySem.W.handedIn v = true) (h : Q v { s with toks := s.toks + 1 }) :
 wpAny (model prog w) A (getAttr (.ref x) name expr) Q E s := by
 obtain ⟨od, J, hl⟩ := I.look
 exact PySem.W.get_value X J (PySem.W.plainGet_of hg).1 (PySem.W.findObj_own hh ha rfl (by rw [hl, hv])) hv' h
theorem anm {pl : Sem Bool} {Q : Value × List Value -> Shared -> Prop} (X : K.In s.heap) (I : ObjM s.heap x dx C mA) (hg : PySem.W.plainGet K C name = true)
 (hf : PySem.W.findIn K (.ref C) name = some (some (.ref f))) (ht : PySem.W.isFn K (.ref f) = true) (hv : mA name = none) (h : Q (.ref f, [.ref x]) s) :
 wpAny (model prog w) A (getMethod (.ref x) name pl) Q E s := by
 obtain ⟨od, J, hl⟩ := I.look
 exact PySem.W.method_fn X J (PySem.W.plainGet_of hg).1 (PySem.W.plainGet_of hg).2 hf (beq_iff_eq.mp ht) (by show (PySem.W.lookIn name od).map (·.isSome) = some false; rw [hl, hv]; rfl) h
theorem atb {ns : List Str} {Q : Unit -> Shared -> Prop} (X : K.In s.heap) (I : ObjM s.heap x dx C mA)
 (hs : PySem.W.findIn K (.ref C) "__setattr__" = some (some (.builtin "object.__setattr__"))) (hp : PySem.W.plainOver K C = true) (ht : PySem.W.takerIn K C name = some none) (hh : PySem.W.hasDictIn K C = true)
 (hw : PySem.Within mA ns) (hsz : ns.length <= sizeLine)
 (h : ∀ h', ObjM h' x dx C (fun y => if y = name then some v else mA y) -> Heap.SameBut dx s.heap h' -> Q () { s with heap := h', toks := s.toks + 2 }) :
 wpAny (model prog w) A (setAttr (.ref x) name v) Q E s := by
 obtain ⟨od, J, hl⟩ := I.look
 refine PySem.W.set_plain X J hs (PySem.W.osa_open (s := { s with toks := s.toks + 1 }) (r := none) X J hp ht fun b => ?_)
 obtain ⟨cd, hc, hd'⟩ := PySem.W.any_some hh
 have hx : s.heap.get? x = some ⟨.ref C, some dx, .plain, #[]⟩ := I.obj
 refine wpAny_bind (wpAny_pure (wpAny_bind (wpAny_bind (wpAny_loadPart hx (wpAny_bind (PySem.W.Looks.here (s := { s with toks := s.toks + 1 }) (PySem.W.looks_clsIn X hc) ?_))))))
 rw [hd']
 refine wpAny_pure (a := some dx) (wpAny_bind (wpAny_pure (wpAny_bind ?_)))
 refine wpAny_nsSet1 (s := { s with toks := s.toks + 1 }) I.ns fun h' hn2 hs2 => ?_
 obtain ⟨oD, esD, epD, hoD, hdD, hcD⟩ := hn2.count (PySem.Within.cons name v hw)
 refine wpAny_bind (wpAny_lookBehind hoD (by rw [hdD]; exact pastItsLine_dict (Nat.le_trans hcD (by rw [List.length_cons]; omega))) ?_)
 exact wpAny_pure (h _ ⟨(hs2.2 _ (Ne.symm I.ne)).trans I.obj, hn2, I.ne⟩ hs2)
theorem aoo {R : Result -> Shared -> Prop} {vs : List Value} {kw : List (Str × Value)} (X : K.In s.heap) (hm : PySem.W.makesIn K C = true)
 (hi : PySem.W.findIn K (.ref C) "__init__" = some (some (.ref f))) (hf : PySem.W.typeIn K (.ref f) = some (.type "function"))
 (h : codeAny (model prog w) (A.under (.builtin "type.__call__" ⟨.ref C :: vs, kw⟩)) (.call (.ref f) ⟨.ref (s.heap.objs.size + 1) :: vs, kw⟩) (PySem.W.InitBack (s.heap.objs.size + 1) R)
  { s with heap := (s.heap.push PySem.W.emptyDict).push (PySem.W.instObj C s.heap.objs.size) }) :
 codeAny (model prog w) A (.call (.ref C) ⟨vs, kw⟩) R s := by
 obtain ⟨hh, g, d, t, os⟩ := s
 exact PySem.W.make_core (PySem.W.makes_of X hm) (PySem.W.looks_findIn X hi) (fun self => PySem.W.bind_fn X self hf) (.inl rfl) h
end
def putF (f : Str) (v : V) : List (Str × V) -> List (Str × V)
 | [] => [(f, v)]
 | (g, x) :: r => if g = f then (g, v) :: r else (g, x) :: putF f v r
theorem acw (f g : Str) (v : V) : ∀ fs : List (Str × V), (putF f v fs).lookup g = if g = f then some v else fs.lookup g
 | [] => by
  show List.lookup g [(f, v)] = _
  by_cases h : g = f
  . have hb : (g == f) = true := beq_iff_eq.mpr h
    simp only [List.lookup, hb, if_pos h]
  . have hb : (g == f) = false := beq_eq_false_iff_ne.mpr h
    simp only [List.lookup, hb, if_neg h]
 | (k, x) :: r => by
  have ih := acw f g v r
  rw [show putF f v ((k, x) :: r) = (if k = f then (k, v) :: r else (k, x) :: putF f v r) from rfl]
  by_cases hk : k = f
  . rw [if_pos hk]
    by_cases h : g = k
    . have hb : (g == k) = true := beq_iff_eq.mpr h
      simp only [List.lookup, hb, if_pos (h.trans hk)]
    . have hb : (g == k) = false := beq_eq_false_iff_ne.mpr h
      simp only [List.lookup, hb, if_neg (fun e : g = f => h (e.trans hk.symm))]
  . rw [if_neg hk]
    by_cases h : g = k
    . have hb : (g == k) = true := beq_iff_eq.mpr h
      simp only [List.lookup, hb, if_neg (fun e : g = f => hk (h.symm.trans e))]
    . have hb : (g == k) = false := beq_eq_false_iff_ne.mpr h
      simp only [List.lookup, hb]
      exact ih
theorem abq (f : Str) (v : V) : ∀ fs : List (Str × V), f ∈ (putF f v fs).map (·.1) /\ ∀ g, g ∈ fs.map (·.1) -> g ∈ (putF f v fs).map (·.1)
 | [] => ⟨by simp [putF], fun g h => by simp at h⟩
 | (k, x) :: r => by
  obtain ⟨i1, i2⟩ := abq f v r
  rw [show putF f v ((k, x) :: r) = (if k = f then (k, v) :: r else (k, x) :: putF f v r) from rfl]
  by_cases hk : k = f
  . rw [if_pos hk]
    subst hk
    exact ⟨by simp, fun g h => by simpa using h⟩
  . rw [if_neg hk]
    refine ⟨?_, fun g h => ?_⟩
    . rw [List.map_cons]
      exact List.mem_cons_of_mem _ i1
    . rw [List.map_cons] at h ⊢
      rcases List.mem_cons.mp h with e | e
      . exact List.mem_cons.mpr (.inl e)
      . exact List.mem_cons_of_mem _ (i2 g e)
theorem ac1 (f : Str) (v : V) : ∀ fs : List (Str × V), (putF f v fs).length <= fs.length + 1
 | [] => by simp [putF]
 | (k, x) :: r => by
  have ih := ac1 f v r
  rw [show putF f v ((k, x) :: r) = (if k = f then (k, v) :: r else (k, x) :: putF f v r) from rfl]
  by_cases hk : k = f
  . rw [if_pos hk, List.length_cons, List.length_cons]; omega
  . rw [if_neg hk, List.length_cons, List.length_cons]; omega
theorem RelO.some_of {v : V} {o : Option Value} (r : RelO (some v) o) : ∃ u, o = some u /\ RelV v u := by
 cases o with
 | none => exact (show False from r).elim
 | some u => exact ⟨u, rfl, r⟩
theorem RelO.none_of {o : Option Value} (r : RelO none o) : o = none := by
 cases o with
 | none => rfl
 | some u => exact (show False from r).elim
theorem ak9 {v : V} {u : Value} (r : RelV v u) : PySem.W.handedIn u = true := by
 cases v with
 | non => cases (show u = Value.none from r); rfl
 | bl b => cases (show u = Value.bool b from r); rfl
 | int i => obtain ⟨t, e⟩ := (show ∃ t, u = Value.int i t from r); cases e; rfl
 | str x => obtain ⟨t, e⟩ := (show ∃ t, u = Value.str x t from r); cases e; rfl
 | byt b => obtain ⟨t, e⟩ := (show ∃ t, u = Value.bytes b t from r); cases e; rfl
 | flt b => obtain ⟨t, e⟩ := (show ∃ t, u = Value.float b t from r); cases e; rfl
 | ref a => cases (show u = Value.ref a from r); rfl
 | ty n => cases (show u = Value.type n from r); rfl
section
variable {P : Program} {w : World} {H H' : Hp} {h h' : Heap} {a C dx : Addr} {fs fs' : List (Str × V)}
theorem qu (hok : HOk P w H h) (e : H a = some (.ins C dx fs)) : ∃ mA, ObjM h a dx C mA /\ (∀ f, RelO (fs.lookup f) (mA f)) /\ PySem.Within mA (fs.map (·.1)) /\ fs.length <= 1000 /\ H dx = some (.own a) := by
 obtain ⟨d, z, ne, ob, mA, n, r, q⟩ := (show ObjOk P w H h a (.ins C dx fs) from hok a _ e)
 exact ⟨mA, ⟨ob, n, ne⟩, r, q, z, d⟩
end
structure Cls (K : Fg) (C : Addr) : Prop where
 pg : PySem.W.plainGet K C Str.empty = true
 hd : PySem.W.hasDictIn K C = true
 po : PySem.W.plainOver K C = true
 sa : PySem.W.findIn K (.ref C) "__setattr__" = some (some (.builtin "object.__setattr__"))
theorem Cls.get {K : Fg} {C : Addr} (c : Cls K C) (f : Str) : PySem.W.plainGet K C f = true := c.pg
def NoAttr (K : Fg) (C : Addr) (f : Str) : Prop := PySem.W.findIn K (.ref C) f = some none
theorem NoAttr.taker {K : Fg} {C : Addr} {f : Str} (n : NoAttr K C f) : PySem.W.takerIn K C f = some none := by
 unfold PySem.W.takerIn
 rw [show PySem.W.findIn K (.ref C) f = some none from n]
 rfl
structure Meth (K : Fg) (C : Addr) (m : Str) (f : Addr) : Prop where
 at_ : PySem.W.findIn K (.ref C) m = some (some (.ref f))
 fn : PySem.W.isFn K (.ref f) = true
 kp : PySem.W.keepIn K (.ref f) = true
section
variable {X : Cx} {pins : List (Addr × Obj)} {σ : St} {H : Hp} {s : Shared} {a C dx : Addr} {fs : List (Str × V)} {f : Str} {v : V} {A : Around} {E : Value -> Shared -> Prop}
theorem aju {b : Bool} {Q : Value -> Shared -> Prop} (I : Inv X pins σ H s) (e : H a = some (.ins C dx fs)) (c : Cls X.K C) (n : NoAttr X.K C f) (l : fs.lookup f = some v)
 (h : ∀ u s', Inv X pins σ H s' -> RelV v u -> Q u s') : wpAny (model X.prog X.w) A (getAttr (.ref a) f b) Q E s := by
 obtain ⟨mA, O, r, _, _, _⟩ := qu I.hok e
 obtain ⟨u, hu, ru⟩ := RelO.some_of (v := v) (o := mA f) (by rw [<- l]; exact r f)
 exact asd I.kIn O (c.get f) c.hd n hu (ak9 ru) (h u _ (I.tok _) ru)
theorem ad6 {m : Str} {g : Addr} {pl : Sem Bool} {Q : Value × List Value -> Shared -> Prop} (I : Inv X pins σ H s) (e : H a = some (.ins C dx fs)) (c : Cls X.K C) (k : Meth X.K C m g) (l : fs.lookup m = none)
 (h : Q (.ref g, [.ref a]) s) : wpAny (model X.prog X.w) A (getMethod (.ref a) m pl) Q E s := by
 obtain ⟨mA, O, r, _, _, _⟩ := qu I.hok e
 have hn : mA m = none := RelO.none_of (by rw [<- l]; exact r m)
 exact anm I.kIn O (c.get m) k.at_ k.fn hn h
theorem aky {y : V} {u : Value} {Q : Unit -> Shared -> Prop} (I : Inv X pins σ H s) (e : H a = some (.ins C dx fs)) (c : Cls X.K C) (n : NoAttr X.K C f) (hl : fs.length < 1000) (ry : RelV y u)
 (h : ∀ s', Inv X pins σ (upd H a (.ins C dx (putF f y fs))) s' -> Q () s') : wpAny (model X.prog X.w) A (setAttr (.ref a) f u) Q E s := by
 obtain ⟨mA, O, r, wi, _, ho⟩ := qu I.hok e
 have hz : (fs.map (·.1)).length <= sizeLine := by rw [List.length_map, sizeLine_eq]; omega
 refine atb I.kIn O c.sa c.po n.taker c.hd wi hz fun h' O' sb => h _ ?_
 have hd : ∃ o, h'.get? dx = some o := let ⟨o, _, _, e', _⟩ := O'.ns; ⟨o, e'⟩
 refine I.write (x := a) (e := dx) (by rw [e]; exact True.intro) (.inr ho) (fun b q hb z => (sb.2 b hb).trans z) hd ?_
 refine ⟨by rw [au O.ne]; exact ho, ?_, O.ne, O'.obj, _, O'.ns, fun g => ?_, fun g hg => ?_⟩
 . have := ac1 f y fs; omega
 . show RelO ((putF f y fs).lookup g) (if g = f then some u else mA g)
   rw [acw]
   by_cases q : g = f
   . rw [if_pos q, if_pos q]; exact ry
   . rw [if_neg q, if_neg q]; exact r g
 . by_cases q : g = f
   . rw [q]; exact (abq f y fs).1
   . refine (abq f y fs).2 g (wi g fun z => hg ?_)
     show (if g = f then some u else mA g) = none
     rw [if_neg q]; exact z
theorem Inv.made (I : Inv X pins σ H s) : Inv X pins σ (upd (upd H s.heap.objs.size (.own (s.heap.objs.size + 1))) (s.heap.objs.size + 1) (.ins C s.heap.objs.size []))
 { s with heap := (s.heap.push PySem.W.emptyDict).push (PySem.W.instObj C s.heap.objs.size) } := by
 have e1 : (s.heap.push PySem.W.emptyDict).get? s.heap.objs.size = some PySem.W.emptyDict := Heap.get?_push_size s.heap rfl
 have e2 : ((s.heap.push PySem.W.emptyDict).push (PySem.W.instObj C s.heap.objs.size)).get? (s.heap.objs.size + 1) = some (PySem.W.instObj C s.heap.objs.size) := by
  have := Heap.get?_push_size (s.heap.push PySem.W.emptyDict) (o := PySem.W.instObj C s.heap.objs.size) rfl
  rwa [Heap.size_push] at this
 have e3 : (s.heap.push PySem.W.emptyDict).Ns s.heap.objs.size (fun _ => none) := ⟨PySem.W.emptyDict, #[], _, e1, rfl, (fun e he => absurd he (by simp)), fun _ => rfl⟩
 have I1 := I.laid (a := s.heap.objs.size) (o := .own (s.heap.objs.size + 1)) (h' := s.heap.push PySem.W.emptyDict) (t' := s.toks) (fun b u q => Heap.get?_push_of_some _ q) (Nat.le_refl _) ⟨_, e1⟩
 refine I1.laid (a := s.heap.objs.size + 1) (o := .ins C s.heap.objs.size []) (t' := s.toks) (fun b u q => Heap.get?_push_of_some _ q) (Nat.le_of_eq (Heap.size_push _ _)) ?_
 have ne : s.heap.objs.size ≠ s.heap.objs.size + 1 := Nat.ne_of_lt (Nat.lt_succ_self _)
 refine ⟨by rw [au ne, cg], Nat.zero_le _, ne, e2, fun _ => none, (Heap.Ns1.of_empty e3).at fun o q => Heap.get?_push_of_some _ q, fun _ => True.intro, fun y hy => absurd rfl hy⟩
theorem aq5 {prog : Program} {w : World} {env : Env} {e : Expr} {f : Str} {pos : Pos} {s : Shared} {Q : Value -> Shared -> Prop} (hb : attributeBase e f env (eval e env) = eval e env)
 (h : wpAny (model prog w) A (eval e env) (fun o s₁ => wpAny (model prog w) A (getAttr o f true) Q E s₁) E s) : wpAny (model prog w) A (eval (.Attribute e f pos) env) Q E s :=
 Attribute_any_ h (by rw [arm_eval_Attribute, hb])
end
def azo (K : Fg) (ta : TE) (f : Str) : TE := fun σ H Q => ta σ H fun x H1 => ∃ a C dx fs v, x = .ref a /\ H1 a = some (.ins C dx fs) /\ Cls K C /\ NoAttr K C f /\ fs.lookup f = some v /\ Q v H1
def a0n (K : Fg) (ta tv : TE) (f : Str) : TS := fun D σ H => tv σ H fun y H1 => ta σ H1 fun x H2 => ∃ a C dx fs, x = .ref a /\ H2 a = some (.ins C dx fs) /\ Cls K C /\ NoAttr K C f /\ fs.length < 1000 /\
 D.nx σ (upd H2 a (.ins C dx (putF f y fs)))
section
variable {X : Cx} {o e value : Expr} {f : Str} {pos pos' tpos : Pos} {ta tv : TE}
theorem auk (he : PE X e ta) (hb : attributeBase e f X.env (eval e X.env) = eval e X.env) : PE X (.Attribute e f pos) (azo X.K ta f) := by
 intro pins s σ H Q I h
 refine aq5 hb (thn (he pins s σ H _ I h) fun u s1 ⟨x, H1, I1, rx, a, C, dx, fs, v, ex, ea, c, n, l, q⟩ => ?_)
 subst ex
 obtain rfl : u = Value.ref a := rx
 exact aju I1 ea c n l fun u' s2 I2 ru => ⟨v, H1, I2, ru, q⟩
theorem aud (ha : PE X o ta) (hv : PE X value tv) (hs : swapsWith value (some (.Attribute o f pos')) pos.line X.env = pure false) : PS X (.Assign [.Attribute o f pos'] value pos) (a0n X.K ta tv f) := by
 intro pins s σ H D I h
 refine plainObj_wpAny_Assign_Attribute (thn (hv pins s σ H _ I h) fun u s1 ⟨y, H1, I1, ry, q⟩ => thn (ha pins s1 σ H1 _ I1 q) fun ov s2 ⟨x, H2, I2, rx, a, C, dx, fs, ex, ea, c, n, l, q2⟩ => ?_) hs
 subst ex
 obtain rfl : ov = Value.ref a := rx
 exact aky I2 ea c n l ry fun s3 I3 => ⟨σ, _, I3, q2⟩
end
section
variable {X : Cx} {pins : List (Addr × Obj)} {σ : St} {H : Hp} {s : Shared} {A : Around} {E : Value -> Shared -> Prop} {Q : Value -> Shared -> Prop} {c : Value} {b : Bool}
inductive nq (K : Fg) (H : Hp) : V -> Value -> Prop where
 | non : nq K H .non (.type "NoneType")
 | bl (x : Bool) : nq K H (.bl x) (.type "bool")
 | int (i : Int) : nq K H (.int i) (.type "int")
 | str (x : Str) : nq K H (.str x) (.type "str")
 | flt (x : UInt64) : nq K H (.flt x) (.type "float")
 | lst {a : Addr} {xs : List V} (e : H a = some (.lst xs)) : nq K H (.ref a) (.type "list")
 | frz {a : Addr} {o : Obj} {xs : List V} (e : H a = some (.frz o (.lst xs))) : nq K H (.ref a) (.type "list")
 | tup {a : Addr} {xs : List V} (e : H a = some (.tup xs)) : nq K H (.ref a) (.type "tuple")
 | dK {a : Addr} {kvs : List (Key × V)} (e : H a = some (.dK kvs)) : nq K H (.ref a) (.type "dict")
 | dT {a : Addr} {kvs : List (List Key × V)} (e : H a = some (.dT kvs)) : nq K H (.ref a) (.type "dict")
 | ins {a C dx : Addr} {fs : List (Str × V)} (e : H a = some (.ins C dx fs)) (cl : Cls K C) (ha : PySem.W.findIn K (.ref C) "__class__" = some (some (.builtin "object.__class__")))
  (hn : PySem.W.specialIn K (.builtin "object.__class__") "__get__" = some (some (.builtin "getset_descriptor.__get__"))) (htk : PySem.W.takesIn K (.builtin "object.__class__") = some true)
  (hm : PySem.W.mroIn K C (.type "object") = some true) : nq K H (.ref a) (.ref C)
theorem ala {x : V} {u t : Value} (I : Inv X pins σ H s) (rx : RelV x u) (ty : nq X.K H x t) (e : PySem.W.kitOne X.K t c = some b) (h : ∀ tk, Q (.bool b) { s with toks := tk }) :
 wpAny (model X.prog X.w) A (call (.builtin "isinstance") [u, c]) Q E s := by
 cases ty with
 | non => cases (show u = Value.none from rx); exact PySem.W.kia_one PySem.W.kitx_none I.kIn True.intro e (fun z => nomatch z) h
 | bl y => cases (show u = Value.bool y from rx); exact PySem.W.kia_one PySem.W.kitx_bool I.kIn True.intro e (fun z => nomatch z) h
 | int i => obtain ⟨t, q⟩ := (show ∃ t, u = Value.int i t from rx); cases q; exact PySem.W.kia_one PySem.W.kitx_int I.kIn True.intro e (fun z => nomatch z) h
 | str y => obtain ⟨t, q⟩ := (show ∃ t, u = Value.str y t from rx); cases q; exact PySem.W.kia_one PySem.W.kitx_str I.kIn True.intro e (fun z => nomatch z) h
 | flt y => obtain ⟨t, q⟩ := (show ∃ t, u = Value.float y t from rx); cases q; exact PySem.W.kia_one PySem.W.kitx_float I.kIn True.intro e (fun z => nomatch z) h
 | @lst a xs ea =>
  cases (show u = Value.ref a from rx)
  obtain ⟨_, _, n, _, h1⟩ := (show ObjOk X.prog X.w H s.heap a (.lst xs) from I.hok a _ ea)
  exact PySem.W.kia_one PySem.W.kitx_list I.kIn ⟨_, h1, rfl⟩ e (fun z => nomatch z) h
 | @frz a ob xs ea =>
  cases (show u = Value.ref a from rx)
  obtain ⟨_, _, _, n, _, h1⟩ := (show ObjOk X.prog X.w H s.heap a (.frz ob (.lst xs)) from I.hok a _ ea)
  exact PySem.W.kia_one PySem.W.kitx_list I.kIn ⟨_, h1, rfl⟩ e (fun z => nomatch z) h
 | @tup a xs ea =>
  cases (show u = Value.ref a from rx)
  obtain ⟨_, _, _, p⟩ := (show ObjOk X.prog X.w H s.heap a (.tup xs) from I.hok a _ ea)
  obtain ⟨o, h1, h2, _⟩ := p
  exact PySem.W.kia_one PySem.W.kitx_tuple I.kIn ⟨o, h1, h2⟩ e (fun z => nomatch z) h
 | @dK a kvs ea =>
  cases (show u = Value.ref a from rx)
  obtain ⟨_, _, vs, _, p⟩ := (show ObjOk X.prog X.w H s.heap a (.dK kvs) from I.hok a _ ea)
  obtain ⟨o, es, ep, h1, h2, _⟩ := p
  exact PySem.W.kia_one PySem.W.kitx_dict I.kIn ⟨o, h1, h2.1⟩ e (fun z => nomatch z) h
 | @dT a kvs ea =>
  cases (show u = Value.ref a from rx)
  obtain ⟨_, _, xs, _, o, es, ep, h1, h2, _⟩ := (show ObjOk X.prog X.w H s.heap a (.dT kvs) from I.hok a _ ea)
  exact PySem.W.kia_one PySem.W.kitx_dict I.kIn ⟨o, h1, h2.1⟩ e (fun z => nomatch z) h
 | @ins a C dx fs ea cl ha hn htk hm =>
  cases (show u = Value.ref a from rx)
  obtain ⟨mA, O, _⟩ := qu I.hok ea
  obtain ⟨od, J, _⟩ := O.look
  exact PySem.W.kia_one (PySem.W.kitx_own (cl.get _) cl.hd ha hn htk hm) I.kIn J e (fun z => nomatch z) h
end
end L2
namespace L2
open PySem PySem.Spec PyProof.Rows
structure Room (k : Nat) (A : Around) : Prop where
 hd : A.handled = none
 dp : A.depth + 3 * k + 5 < recursionLimit
 un : A.units + 16 * k + 200 < cLine
theorem Room.mono {j k : Nat} {A : Around} (r : Room k A) (h : j <= k) : Room j A := ⟨r.hd, by have := r.dp; omega, by have := r.un; omega⟩
theorem Room.deeper {k : Nat} {A : Around} (r : Room (k + 1) A) (env : Env) : Room k (A.deeper env) :=
 ⟨r.hd, by have := r.dp; show A.depth + 1 + 3 * k + 5 < _; omega, by have := r.un; show A.units + 3 + 16 * k + 200 < _; omega⟩
theorem Room.in1 {k : Nat} {A : Around} (r : Room (k + 1) A) : Room k A.in1 :=
 ⟨r.hd, by have := r.dp; show A.depth + 3 * k + 5 < _; omega, by have := r.un; show A.units + 1 + 16 * k + 200 < _; omega⟩
theorem akb {A : Around} {C : Addr} {us : List Value} {kw : List (Str × Value)} : (A.under (.builtin "type.__call__" ⟨.ref C :: us, kw⟩)).depth = A.depth + 1 := by
 first | rfl | simp [Around.under, Code.weight, Code.isCreation, Code.isGuard, Code.isCaller, Code.frames, Code.isFrame, guardIds]
theorem akn {A : Around} {C : Addr} {us : List Value} {kw : List (Str × Value)} : (A.under (.builtin "type.__call__" ⟨.ref C :: us, kw⟩)).units = A.units + 1 := by
 first | rfl | simp [Around.under, Code.cUnits, Code.frames, Code.isFrame]
theorem Room.make {k : Nat} {A : Around} (r : Room (k + 1) A) (C : Addr) (us : List Value) (kw : List (Str × Value)) : Room k (A.under (.builtin "type.__call__" ⟨.ref C :: us, kw⟩)) :=
 ⟨r.hd, by have := r.dp; rw [akb]; omega, by have := r.un; rw [akn]; omega⟩
theorem Room.depth {k : Nat} {A : Around} (r : Room k A) : A.depth < recursionLimit := by have := r.dp; omega
theorem Room.units {k : Nat} {A : Around} (r : Room k A) : A.units + 64 < cLine := by have := r.un; omega
theorem Room.units0 {k : Nat} {A : Around} (r : Room k A) : A.units < cLine := by have := r.un; omega
def ava : TA := fun _ H Q => Q [] H
def ayg (ta : TE) (tr : TA) : TA := fun σ H Q => ta σ H fun x H1 => tr σ H1 fun xs H2 => Q (x :: xs) H2
section
variable {X : Cx} {e : Expr} {es : List Expr} {te : TE} {t : TA} {pos : Pos}
theorem av0 : PA X [] ava := fun _ _ _ _ H Q I h => Calls.spliced_nil ⟨[], H, I, .nil, h⟩
theorem ash (ha : PE X e te) (hr : PA X es t) (hs : starEach (e :: es) X.env = (false, eval e X.env) :: starEach es X.env := by rfl) : PA X (e :: es) (ayg te t) := by
 intro pos pins s σ H Q I h
 rw [hs]
 show wpAny _ _ (spliced ((false, eval e X.env) :: backTo pos (starEach es X.env))) _ _ s
 refine Calls.spliced_cons (thn (ha pins s σ H _ I h) fun u s1 ⟨x, H1, I1, r1, q1⟩ => ?_)
 exact thn (hr pos pins s1 σ H1 _ I1 q1) fun us s2 ⟨xs, H2, I2, r2, q2⟩ => ⟨x :: xs, H2, I2, .cons r1 r2, q2⟩
def az6 (t : TA) : TE := fun σ H Q => t σ H fun xs H1 => xs.length <= sizeLine /\ ∀ p, H1 p = none -> Q (.ref p) (upd H1 p (.tup xs))
def azt (t : TA) : TE := fun σ H Q => t σ H fun xs H1 => xs.length <= sizeLine /\ ∀ p, H1 p = none -> Q (.ref p) (upd H1 p (.lst xs))
theorem awi {x1} (h : PA X es t) : PE X (.Tuple es x1 pos) (az6 t) := by
 intro pins s σ H Q I hq
 refine wpAny_Tuple_spliced (thn (h pos pins s σ H _ I hq) fun us s1 ⟨xs, H1, I1, r, z, q⟩ => ⟨by rw [<- r.length]; exact z, ?_⟩)
 have hf : H1 s1.heap.objs.size = none := I1.hok.fresh (Nat.le_refl _)
 refine ⟨.ref s1.heap.objs.size, upd H1 s1.heap.objs.size (.tup xs), I1.laid (t' := s1.toks) (fun b u e => Heap.get?_push_of_some _ e) (Nat.le_refl _) ?_, rfl, q _ hf⟩
 exact ⟨z, us, r, ⟨_, Heap.get?_push_size _ rfl, rfl, _, rfl⟩⟩
theorem ak0 (h : PA X es t) : PE X (.List es pos) (azt t) := by
 intro pins s σ H Q I hq
 refine wpAny_List_spliced (thn (h pos pins s σ H _ I hq) fun us s1 ⟨xs, H1, I1, r, z, q⟩ => ⟨by rw [<- r.length]; exact z, ?_⟩)
 have hf : H1 s1.heap.objs.size = none := I1.hok.fresh (Nat.le_refl _)
 refine ⟨.ref s1.heap.objs.size, upd H1 s1.heap.objs.size (.lst xs), I1.laid (t' := s1.toks) (fun b u e => Heap.get?_push_of_some _ e) (Nat.le_refl _) ?_, rfl, q _ hf⟩
 exact ⟨z, us, 0, r, Heap.get?_push_size _ rfl⟩
end
abbrev Sp := List V -> Hp -> VK -> XK -> Prop
abbrev CXT := List Env -> Hp -> Shared -> XK -> Value -> Shared -> Prop
structure Env0 (P : Program) (w : World) (K : Fg) (mg : Str -> Option Value) (base : Heap) (A : Around) (outer : List Env) (s : Shared) (H : Hp) : Prop where
 frames : A.frames = some outer
 mod : Mod K mg base
 bs : ∀ b o, base.get? b = some o -> s.heap.get? b = some o /\ H b = none
 bsz : base.objs.size <= s.heap.objs.size
 funs : s.heap.FunFrames base outer
 frf : ∀ b ∈ frs outer, H b = none
 hok : HOk P w H s.heap
 bare : AllBare s.gens
def CE (outer : List Env) (P : Program) (w : World) (H : Hp) (s : Shared) (Q : VK) (u : Value) (s' : Shared) : Prop :=
 ∃ v H', s'.os = s.os /\ AllBare s'.gens /\ Un (frs outer) [] H H' s.heap s'.heap /\ HOk P w H' s'.heap /\ RelV v u /\ Q v H'
def CR (CX : CXT) (outer : List Env) (P : Program) (w : World) (H : Hp) (s : Shared) (Q : VK) (E : XK) (r : Result) (s' : Shared) : Prop :=
 match r with
 | .ok (.ret u) => CE outer P w H s Q u s'
 | .ok _ => False
 | .error e => CX outer H s E e s'
structure FnOk (P : Program) (w : World) (K : Fg) (mg : Str -> Option Value) (base : Heap) (CX : CXT) (k : Nat) (f : Addr) (fd : FuncData) (ps : List Str) (sp : Sp) : Prop where
 len : ∀ vs H Q E, sp vs H Q E -> vs.length = ps.length
 run : ∀ (A : Around) (outer : List Env) (s : Shared) (H : Hp) (args : Args) (us : List Value) (vs : List V) (Q : VK) (E : XK), Room k A -> Env0 P w K mg base A outer s H -> BindsTo s fd args (ps.zip us) -> Vals vs us -> sp vs H Q E ->
  codeAny (model P w) A (.call (.ref f) args) (CR CX outer P w H s Q E) s
theorem FnOk.imp {P : Program} {w : World} {K : Fg} {mg : Str -> Option Value} {base : Heap} {CX : CXT} {k : Nat} {f : Addr} {fd : FuncData} {ps : List Str} {sp sp' : Sp} (F : FnOk P w K mg base CX k f fd ps sp)
 (h : ∀ vs H Q E, sp' vs H Q E -> sp vs H Q E) : FnOk P w K mg base CX k f fd ps sp' :=
 ⟨fun vs H Q E q => F.len vs H Q E (h _ _ _ _ q), fun A outer s H args us vs Q E hr he hb hv hs => F.run A outer s H args us vs Q E hr he hb hv (h _ _ _ _ hs)⟩
theorem Env0.make {P : Program} {w : World} {K : Fg} {mg : Str -> Option Value} {base : Heap} {A : Around} {outer : List Env} {s : Shared} {H : Hp} (e : Env0 P w K mg base A outer s H) (C : Addr) (us : List Value) (kw : List (Str × Value)) :
 Env0 P w K mg base (A.under (.builtin "type.__call__" ⟨.ref C :: us, kw⟩)) outer s H := ⟨by first | exact e.frames | (simpa [Around.under, Code.envs, Code.isFrame, pushEnvs] using e.frames), e.mod, e.bs, e.bsz, e.funs, e.frf, e.hok, e.bare⟩
section
variable {X : Cx} {pins : List (Addr × Obj)} {σ : St} {H : Hp} {s s' : Shared}
theorem Inv.env0 (I : Inv X pins σ H s) : Env0 X.prog X.w X.K X.mg X.base X.A X.stack s H :=
 ⟨I.ok.frames, I.ok.mod, I.bs, Nat.le_trans I.ok.bsz I.sz, I.stack, I.stkFree, I.hok, I.bare⟩
theorem Inv.after {Q : VK} {u : Value} (I : Inv X pins σ H s) (h : CE X.stack X.prog X.w H s Q u s') : EP X pins σ Q u s' := by
 obtain ⟨v, H', os, bare, un, hok, r, q⟩ := h
 obtain ⟨hh, g, d, t, os'⟩ := s'
 obtain rfl : os' = s.os := os
 exact ⟨v, H', I.call (h' := hh) (g' := g) (d' := d) (t' := t) (ch := []) un hok bare (fun b z => absurd z (by simp)), r, q⟩
end
def ayx (sp : Sp) (dvs : List V) (E : XK) (t : TA) : TE := fun σ H Q => t σ H fun vs H1 => sp (vs ++ dvs) H1 Q E
def ap4 (C : Addr) (m : Str) (sp : Sp) (dvs : List V) (E : XK) (ta : TE) (t : TA) : TE := fun σ H Q => ta σ H fun x H1 => ∃ a dx fs, x = .ref a /\ H1 a = some (.ins C dx fs) /\ fs.lookup m = none /\
 t σ H1 fun vs H2 => sp (x :: (vs ++ dvs)) H2 Q E
def axi (C : Addr) (sp : Sp) (dvs : List V) (E : XK) (t : TA) : TE := fun σ H Q => t σ H fun vs H1 => ∀ x dx, H1 x = none -> H1 dx = none -> dx ≠ x ->
 sp (.ref x :: (vs ++ dvs)) (upd (upd H1 dx (.own x)) x (.ins C dx [])) (fun v H2 => v = .non /\ Q (.ref x) H2) E
def Binds (K : Fg) (fd : FuncData) (ps : List Str) (ds : List Value) : Prop :=
 ∀ (s : Shared) (us : List Value), K.In s.heap -> (us ++ ds).length = ps.length -> BindsTo s fd ⟨us, []⟩ (ps.zip (us ++ ds))
theorem Binds.all {K : Fg} {fd : FuncData} {ps : List Str} (h : ∀ us : List Value, us.length = ps.length -> bindArgs fd ⟨us, []⟩ = pure (ps.zip us)) : Binds K fd ps [] := fun s us _ hl => by
 rw [List.append_nil] at hl ⊢
 exact .of_eq (h us hl)
def w6 (CX : CXT) (X : Cx) (E : XK) : Prop := ∀ (pins : List (Addr × Obj)) (σ : St) (H : Hp) (s : Shared) (e : Value) (s' : Shared), Inv X pins σ H s -> CX X.stack H s E e s' -> X.xe e s'
section
variable {X : Cx} {CX : CXT} {k : Nat} {f C : Addr} {fd : FuncData} {ps : List Str} {sp : Sp} {dvs : List V} {ds : List Value} {E : XK} {x m : Str} {p pos apos : Pos} {e o : Expr} {es : List Expr} {ta : TE} {t : TA}
theorem ah0 {pins : List (Addr × Obj)} {σ : St} {H : Hp} {s : Shared} {Q : VK} {us : List Value} {vs : List V} (F : FnOk X.prog X.w X.K X.mg X.base CX k f fd ps sp) (hr : Room k X.A) (hb : Binds X.K fd ps ds) (hd : Vals dvs ds) (hx : w6 CX X E)
 (I : Inv X pins σ H s) (r : Vals vs us) (h : sp (vs ++ dvs) H Q E) : wpAny (model X.prog X.w) X.A (call (.ref f) us) (EP X pins σ Q) X.xe s := by
 have r2 : Vals (vs ++ dvs) (us ++ ds) := r.append hd
 have hl : (us ++ ds).length = ps.length := by rw [<- r2.length]; exact F.len _ _ _ _ h
 refine wpAny_call (codeAny_mono (F.run X.A X.stack s H ⟨us, []⟩ (us ++ ds) (vs ++ dvs) Q E hr I.env0 (hb s us I.kIn hl) r2 h) fun r s' hq => ?_)
 cases r with
 | error e => exact hx pins σ H s e s' I hq
 | ok fl =>
  cases fl with
  | ret u => exact I.after hq
  | next => exact False.elim hq
  | brk => exact False.elim hq
  | cont => exact False.elim hq
theorem aqm (F : FnOk X.prog X.w X.K X.mg X.base CX k f fd ps sp) (hr : Room k X.A) (hg : Gl X x) (hm : X.mg x = some (.ref f)) (hk : PySem.W.keepIn X.K (.ref f) = true) (hb : Binds X.K fd ps ds) (hd : Vals dvs ds) (hx : w6 CX X E)
 (ha : PA X (e :: es) t) (hdb : (x == ("__debug__" : Str)) = false := by decide) (he : starEach (e :: es) X.env = (false, eval e X.env) :: starEach es X.env := by rfl) (hpl : (backTo pos (starEach es X.env)).any (·.1) = false := by rfl) :
 PE X (.Call (.Name x p) (e :: es) [] pos) (ayx sp dvs E t) := by
 intro pins s σ H Q I h
 refine wpAny_Call_Name_kw (afc I hg hm ?_ hdb)
 refine PySem.W.callWith_K (h₀ := X.base) I.ok.mod.kin hk (thn (ha pos pins s σ H _ I h) fun us s1 ⟨vs, H1, I1, r, q⟩ => ⟨I1.kIn, ?_⟩) he hpl
 exact ah0 F hr hb hd hx I1 r q
theorem aqr {pl : Sem Bool} (he : PE X o ta) (c : Cls X.K C) (hm : Meth X.K C m f) (F : FnOk X.prog X.w X.K X.mg X.base CX k f fd ps sp) (hr : Room k X.A) (hb : Binds X.K fd ps ds) (hd : Vals dvs ds) (hx : w6 CX X E) (ha : PA X (e :: es) t)
 (hst : starEach (e :: es) X.env = (false, eval e X.env) :: starEach es X.env := by rfl) (hpl : (backTo pos (starEach es X.env)).any (·.1) = false := by rfl)
 (ht : eval (.Call (.Attribute o m apos) (e :: es) [] pos) X.env = (do
  let ov <- eval o X.env
  standAt apos.atName
  let (f, first) <- holding [ov] (getMethod ov m pl)
  callWith pos f first (backTo pos (starEach (e :: es) X.env)) (backToKw pos (keywordEach [] X.env))) := by rfl) :
 PE X (.Call (.Attribute o m apos) (e :: es) [] pos) (ap4 C m sp dvs E ta t) := by
 intro pins s σ H Q I h
 refine PySem.W.methodCall_KW (pl := pl) (thn (he pins s σ H _ I h) fun u s1 ⟨x, H1, I1, rx, a, dx, fs, ex, ea, l, q⟩ => ?_) ht
 subst ex
 obtain rfl : u = Value.ref a := rx
 refine ad6 I1 ea c hm l ?_
 refine PySem.W.callWith_K (first := [.ref a]) (h₀ := X.base) I.ok.mod.kin hm.kp (thn (ha pos pins s1 σ H1 _ I1 q) fun us s2 ⟨vs, H2, I2, r, q2⟩ => ⟨I2.kIn, ?_⟩) hst hpl
 exact ah0 (us := .ref a :: us) (vs := .ref a :: vs) F hr hb hd hx I2 (.cons rfl r) q2
theorem anl {pl : Sem Bool} (he : PE X o ta) (c : Cls X.K C) (hm : Meth X.K C m f) (F : FnOk X.prog X.w X.K X.mg X.base CX k f fd ps sp) (hr : Room k X.A) (hb : Binds X.K fd ps ds) (hd : Vals dvs ds) (hx : w6 CX X E)
 (ht : eval (.Call (.Attribute o m apos) [] [] pos) X.env = (do
  let ov <- eval o X.env
  standAt apos.atName
  let (f, first) <- holding [ov] (getMethod ov m pl)
  callWith pos f first (backTo pos (starEach [] X.env)) (backToKw pos (keywordEach [] X.env))) := by rfl) :
 PE X (.Call (.Attribute o m apos) [] [] pos) (ap4 C m sp dvs E ta ava) := by
 intro pins s σ H Q I h
 refine PySem.W.methodCall_KW (pl := pl) (thn (he pins s σ H _ I h) fun u s1 ⟨x, H1, I1, rx, a, dx, fs, ex, ea, l, q⟩ => ?_) ht
 subst ex
 obtain rfl : u = Value.ref a := rx
 refine ad6 I1 ea c hm l ?_
 exact PySem.W.callWith_K0 (first := [.ref a]) I1.kIn hm.kp (ah0 (us := [.ref a]) (vs := [.ref a]) F hr hb hd hx I1 (.cons rfl .nil) q)
structure Mk (K : Fg) (C f : Addr) : Prop where
 makes : PySem.W.makesIn K C = true
 init : PySem.W.findIn K (.ref C) "__init__" = some (some (.ref f))
 fn : PySem.W.isFn K (.ref f) = true
 kp : PySem.W.keepIn K (.ref C) = true
theorem aoy {pins : List (Addr × Obj)} {σ : St} {H : Hp} {s : Shared} {Q : VK} {us : List Value} {vs : List V} (M : Mk X.K C f) (F : FnOk X.prog X.w X.K X.mg X.base CX k f fd ps sp) (hr : Room (k + 1) X.A) (hb : Binds X.K fd ps ds) (hd : Vals dvs ds)
 (hx : w6 CX X E) (I : Inv X pins σ H s) (r : Vals vs us)
 (h : ∀ x dx, H x = none -> H dx = none -> dx ≠ x -> sp (.ref x :: (vs ++ dvs)) (upd (upd H dx (.own x)) x (.ins C dx [])) (fun v H2 => v = .non /\ Q (.ref x) H2) E) :
 wpAny (model X.prog X.w) X.A (call (.ref C) us) (EP X pins σ Q) X.xe s := by
 have hq := h (s.heap.objs.size + 1) s.heap.objs.size (I.hok.fresh (Nat.le_succ _)) (I.hok.fresh (Nat.le_refl _)) (Nat.ne_of_lt (Nat.lt_succ_self _))
 have I2 := Inv.made (C := C) I
 have r2 : Vals (V.ref (s.heap.objs.size + 1) :: (vs ++ dvs)) (Value.ref (s.heap.objs.size + 1) :: (us ++ ds)) := .cons rfl (r.append hd)
 have hl : (Value.ref (s.heap.objs.size + 1) :: us ++ ds).length = ps.length := by
  have e := r2.length
  rw [F.len _ _ _ _ hq] at e
  exact e.symm
 refine wpAny_call (aoo (f := f) I.kIn M.makes M.init (beq_iff_eq.mp M.fn) (codeAny_mono (F.run _ X.stack _ _ ⟨Value.ref (s.heap.objs.size + 1) :: us, []⟩ (Value.ref (s.heap.objs.size + 1) :: (us ++ ds)) _ _ E (hr.make C us [])
  (I2.env0.make C us []) (hb _ (Value.ref (s.heap.objs.size + 1) :: us) I2.kIn hl) r2 hq) fun r s' hq' => ?_))
 cases r with
 | error e => exact hx pins σ _ _ e s' I2 hq'
 | ok fl =>
  cases fl with
  | ret u =>
   obtain ⟨v, H', I3, rv, ev, q3⟩ := I2.after hq'
   subst ev
   exact ⟨rv, ⟨V.ref (s.heap.objs.size + 1), H', I3, rfl, q3⟩⟩
  | next => exact False.elim hq'
  | brk => exact False.elim hq'
  | cont => exact False.elim hq'
theorem aq6 (M : Mk X.K C f) (F : FnOk X.prog X.w X.K X.mg X.base CX k f fd ps sp) (hr : Room (k + 1) X.A) (hg : Gl X x) (hm : X.mg x = some (.ref C)) (hb : Binds X.K fd ps ds) (hd : Vals dvs ds) (hx : w6 CX X E)
 (ha : PA X (e :: es) t) (hdb : (x == ("__debug__" : Str)) = false := by decide) (he : starEach (e :: es) X.env = (false, eval e X.env) :: starEach es X.env := by rfl) (hpl : (backTo pos (starEach es X.env)).any (·.1) = false := by rfl) :
 PE X (.Call (.Name x p) (e :: es) [] pos) (axi C sp dvs E t) := by
 intro pins s σ H Q I h
 refine wpAny_Call_Name_kw (afc I hg hm ?_ hdb)
 refine PySem.W.callWith_K (h₀ := X.base) I.ok.mod.kin M.kp (thn (ha pos pins s σ H _ I h) fun us s1 ⟨vs, H1, I1, r, q⟩ => ⟨I1.kIn, ?_⟩) he hpl
 exact aoy M F hr hb hd hx I1 r q
end
section
variable {X : Cx} {CX : CXT} {k : Nat} {f C : Addr} {fd : FuncData} {ps ks : List Str} {sp : Sp} {E : XK} {x m : Str} {p pos apos kpos : Pos} {e o : Expr} {es : List Expr} {kws : List Keyword} {te ta : TE} {t tk : TA} {nm : Option Str}
variable {g : List Value -> List Value -> List Value} {gV : List V -> List V -> List V}
end
structure ab2 (N P : List Str) (sc : Scope) : Prop where
 kind : sc.kind = .function
 co : sc.isCoroutine = false
 gen : sc.isGenerator = false
 nd : N.Nodup
 pre : N.take P.length = P
 par : ∀ x ∈ P, sc.names.lookup x = some .local \/ sc.names.lookup x = some .cell
 nofree : ∀ y ∈ sc.names, y.2 ≠ .free
theorem afj {kindOf : Str -> Option NameKind} {x : Str} : ∀ {binds : List (Str × Value)} {m : Str -> Option Value}, (∀ v, (x, v) ∉ binds) -> bindL kindOf binds m x = m x
 | [], _, _ => rfl
 | (n, v) :: r, m, h => by
  unfold bindL
  rw [afj fun w hw => h w (List.mem_cons_of_mem _ hw)]
  split
  . have : x ≠ n := by rintro rfl; exact h v List.mem_cons_self
    simp [this]
  . rfl
theorem afp {kindOf : Str -> Option NameKind} {x : Str} : ∀ {binds : List (Str × Value)} {m : Str -> Option Value}, (∀ v, (x, v) ∉ binds) -> bindC kindOf binds m x = m x
 | [], _, _ => rfl
 | (n, v) :: r, m, h => by
  unfold bindC
  rw [afp fun w hw => h w (List.mem_cons_of_mem _ hw)]
  split
  . rfl
  . have : x ≠ n := by rintro rfl; exact h v List.mem_cons_self
    simp [this]
theorem af4 {kindOf : Str -> Option NameKind} {x : Str} {v : Value} : ∀ {P : List Str} {vs : List Value} {i : Nat} {m : Str -> Option Value}, P.Nodup -> P[i]? = some x -> vs[i]? = some v -> kindOf x = some .local ->
 bindL kindOf (P.zip vs) m x = some v
 | [], _, _, _, _, h, _, _ => by simp at h
 | _ :: _, [], _, _, _, _, h, _ => by simp at h
 | p :: P, w :: vs, 0, m, nd, h1, h2, hk => by
  simp at h1 h2; subst h1; subst h2
  show bindL kindOf ((p, w) :: P.zip vs) m p = _
  unfold bindL
  rw [afj fun v hv => (List.nodup_cons.mp nd).1 (List.of_mem_zip hv).1, if_pos hk]
  simp
 | p :: P, w :: vs, i + 1, m, nd, h1, h2, hk => by
  show bindL kindOf ((p, w) :: P.zip vs) m x = _
  unfold bindL
  exact af4 (i := i) (List.nodup_cons.mp nd).2 (by simpa using h1) (by simpa using h2) hk
theorem afr {kindOf : Str -> Option NameKind} {x : Str} {v : Value} : ∀ {P : List Str} {vs : List Value} {i : Nat} {m : Str -> Option Value}, P.Nodup -> P[i]? = some x -> vs[i]? = some v -> kindOf x ≠ some .local ->
 bindC kindOf (P.zip vs) m x = some v
 | [], _, _, _, _, h, _, _ => by simp at h
 | _ :: _, [], _, _, _, _, h, _ => by simp at h
 | p :: P, w :: vs, 0, m, nd, h1, h2, hk => by
  simp at h1 h2; subst h1; subst h2
  show bindC kindOf ((p, w) :: P.zip vs) m p = _
  unfold bindC
  rw [afp fun v hv => (List.nodup_cons.mp nd).1 (List.of_mem_zip hv).1, if_neg hk]
  simp
 | p :: P, w :: vs, i + 1, m, nd, h1, h2, hk => by
  show bindC kindOf ((p, w) :: P.zip vs) m x = _
  unfold bindC
  exact afr (i := i) (List.nodup_cons.mp nd).2 (by simpa using h1) (by simpa using h2) hk
def start (N : List Str) (vs : List V) : St := vs.map some ++ List.replicate (N.length - vs.length) none
def adh (CX : CXT) (P : Program) (w : World) (K : Fg) (mg : Str -> Option Value) (base : Heap) (N : List Str) (qual : Str) (scope : Scope) (f : Addr) (cd : Value) (A : Around) (outer : List Env) (s : Shared) (H : Hp) (E : XK) : Cx where
 prog := P
 w := w
 K := K
 mg := mg
 base := base
 A := A.deeper (envOfC qual scope s.heap.objs.size f cd)
 N := N
 s₀ := s
 H₀ := H
 env := envOfC qual scope s.heap.objs.size f cd
 outer := outer
 stack := envOfC qual scope s.heap.objs.size f cd :: outer
 ex := []
 calm := true
 fn := fun _ => true
 pn := []
 xe := fun e s' => wpAny (model P w) (A.deeper (envOfC qual scope s.heap.objs.size f cd)) (leaving (envOfC qual scope s.heap.objs.size f cd) e) (fun _ s'' => CX outer H s E e s'') (fun e' s'' => CX outer H s E e' s'') s'
theorem agy {sc : Scope} {n : Nat} {x : Str} (h : sc.names.lookup x = some .cell) : ∃ c, (cellsFrom n sc.names []).lookup x = some c := by
 have q := PySem.W.cellsFrom_some sc.names n [] (.inl h)
 exact Option.isSome_iff_exists.mp q
theorem alk {CX : CXT} {P : Program} {w : World} {K : Fg} {mg : Str -> Option Value} {base : Heap} {N ps : List Str} {qual : Str} {scope : Scope} {f : Addr} {cd : Value} {A : Around} {outer : List Env} {s s1 : Shared} {H : Hp} {E : XK} {us : List Value} {vs : List V}
 (S : ab2 N ps scope) (hd : A.handled = none) (e0 : Env0 P w K mg base A outer s H) (hl : vs.length = ps.length) (r : Vals vs us)
 (x : InCallC s s.heap.objs.size (bindL (envOfC qual scope s.heap.objs.size f cd).kindOf (ps.zip us) fun _ => none) (cellsFrom (s.heap.objs.size + 1) scope.names []) (bindC (envOfC qual scope s.heap.objs.size f cd).kindOf (ps.zip us) fun _ => none) s1) :
 Inv (adh CX P w K mg base N qual scope f cd A outer s H E) [] (start N vs) H s1 := by
 have hpl : ps.length <= N.length := by have := congrArg List.length S.pre; rw [List.length_take] at this; omega
 obtain ⟨h1, tk, rfl, hk⟩ := x.done
 have noA : ∀ b : Addr, b ∉ (adh CX P w K mg base N qual scope f cd A outer s H E).ex := fun b z => absurd (show b ∈ ([] : List Addr) from z) (by simp)
 refine ⟨⟨e0.mod, S.kind, rfl, rfl, Nat.le_refl _, fun y z c h1 h2 => ?_, fun y hy => ?_, fun y c _ h => ?_, fun _ => hd, Around.frames_deeper e0.frames, .inr ⟨rfl, rfl⟩, fun b z => absurd z (noA b), e0.bs, e0.bsz, fun b _ _ => noA b, fun b z => absurd z (noA b), e0.funs, e0.frf⟩,
  rfl, e0.bare, Un.kept hk, ⟨_, x.toInCall.ns, fun i y v h1 h2 h3 => ?_⟩, fun y c h => ⟨_, x.cell y c h⟩, e0.hok.fresh (Nat.le_refl _), fun y c h => ?_, fun p hp => absurd (show p ∈ ([] : List (Addr × Obj)) from hp) (by simp), e0.hok.kept hk, ?_⟩
 . exact name_of_addr x.apart (PySem.mem_of_lookup h1) (PySem.mem_of_lookup h2)
 . have hy : scope.names.lookup y = some .cell \/ scope.names.lookup y = some .free := hy
   rcases hy with hy | hy
   . exact agy hy
   . exact absurd rfl (S.nofree _ (PySem.mem_of_lookup hy))
 . exact Nat.le_of_lt (x.above y c (PySem.mem_of_lookup h))
 . have hi : i < vs.length := by
    unfold start at h2
    by_cases hi : i < vs.length
    . exact hi
    . rw [List.getElem?_append_right (by simpa using hi)] at h2
      rw [List.getElem?_replicate] at h2
      split at h2 <;> cases h2
   have ha : vs[i]? = some v := by
    unfold start at h2
    rw [List.getElem?_append_left (by simpa using hi), List.getElem?_map] at h2
    cases e : vs[i]? with
    | none => rw [e] at h2; cases h2
    | some a => rw [e] at h2; cases h2; rfl
   obtain ⟨u, hu, rv⟩ := r.get ha
   have hp : ps[i]? = some y := by
    rw [<- S.pre, List.getElem?_take_of_lt (by omega)]; exact h1
   have ndP : ps.Nodup := by rw [<- S.pre]; exact S.nd.sublist (List.take_sublist _ _)
   refine ⟨u, rv, ?_⟩
   rcases S.par y (List.mem_of_getElem? hp) with k | k
   . exact .inl ⟨k, af4 ndP hp hu k⟩
   . obtain ⟨c, e⟩ := agy (n := s.heap.objs.size + 1) k
     refine .inr ⟨.inl k, c, e, ?_⟩
     have q := x.cell y c e
     rw [afr ndP hp hu (by show scope.names.lookup y ≠ _; rw [k]; decide)] at q
     exact q
 . exact e0.hok.fresh (Nat.le_of_lt (x.above y c (PySem.mem_of_lookup h)))
 . unfold start
   show _ = N.length
   rw [List.length_append, List.length_map, List.length_replicate]
   omega
theorem axw {CX : CXT} {P : Program} {w : World} {K : Fg} {mg : Str -> Option Value} {base : Heap} {k : Nat} {f : Addr} {name qual : Str} {params : Arguments} {body : List Stmt} {scope : Scope} {dV kV doc pm cdv ct oc : Value} {an od : Option Addr}
 {osl : Array (Option Value)} {N ps : List Str} {sp : Sp} (lk : K.lookup f = some ⟨oc, od, .func (PySem.W.fnOf name qual params body scope dV kV doc pm an cdv ct), osl⟩) (hcd : PySem.W.codeIn K cdv qual = true) (S : ab2 N ps scope)
 (len : ∀ vs H Q E, sp vs H Q E -> vs.length = ps.length)
 (hbody : ∀ (A : Around) (outer : List Env) (s : Shared) (H : Hp) (vs : List V) (Q : VK) (E : XK), Room k (A.deeper (envOfC qual scope s.heap.objs.size f cdv)) -> sp vs H Q E ->
  ∃ t, PSs (adh CX P w K mg base N qual scope f cdv A outer s H E) body t /\ t { nx := fun _ H' => Q .non H', rt := Q } (start N vs) H) :
 FnOk P w K mg base CX (k + 1) f (PySem.W.fnOf name qual params body scope dV kV doc pm an cdv ct) ps sp := by
 refine ⟨len, fun A outer s H args us vs Q E hr e0 hb r hsp => ?_⟩
 have hl := len _ _ _ _ hsp
 have KX : K.In s.heap := e0.mod.kin.keeps fun b o e => (e0.bs b o e).1
 have lim : s.heap.NoLimit := e0.mod.nolimit.keeps fun b o e => (e0.bs b o e).1
 have hkind : ∀ y ∈ ps.zip us, scope.names.lookup y.1 = some .local \/ (scope.names.lookup y.1 = some .cell /\ ((cellsFrom (s.heap.objs.size + 1) scope.names []).lookup y.1).isSome = true) := fun ⟨n, v⟩ hy => by
  rcases S.par n (List.of_mem_zip hy).1 with q | q
  . exact .inl q
  . exact .inr ⟨q, PySem.W.cellsFrom_some _ _ _ (.inl q)⟩
 refine codeAny_call_function hr.depth (KX _ _ lk) rfl S.co S.gen rfl (PySem.W.codeRec_of KX hcd) (hb _ _ _ _ ?_)
 refine wpAny_newFunctionEnv_cells S.kind hkind fun env he s1 x => ?_
 subst he
 refine ⟨lim.keeps x.toInCall.keep, codeAny_func ?_⟩
 obtain ⟨t, ht, hq⟩ := hbody A outer s H vs Q E (hr.deeper _) hsp
 have I : Inv (adh CX P w K mg base N qual scope f cdv A outer s H E) [] (start N vs) H s1 := alk S hr.hd e0 hl r x
 refine wpAny_mono (ht [] s1 (start N vs) H _ I hq) (fun fl s' hs => ?_) fun e s' hs => hs
 have fin : ∀ {σ' : St} {H' : Hp} {v : V} {u : Value}, Inv (adh CX P w K mg base N qual scope f cdv A outer s H E) [] σ' H' s' -> RelV v u -> Q v H' -> CE outer P w H s Q u s' :=
  fun {σ' H' v u} J rv q => ⟨v, H', J.os, J.bare, J.base, J.hok, rv, q⟩
 cases fl with
 | ret u =>
  obtain ⟨v, σ', H', J, rv, q⟩ := hs
  exact fin J rv q
 | next =>
  obtain ⟨σ', H', J, q⟩ := hs
  exact fin (v := V.non) (u := Value.none) J rfl q
 | brk =>
  obtain ⟨_, _, _, q⟩ := hs
  exact False.elim q
 | cont =>
  obtain ⟨_, _, _, q⟩ := hs
  exact False.elim q
end L2
namespace L2
open PySem PySem.Spec PyProof.Rows
section
variable {X : Cx} {x : Str} {p pos : Pos} {e : Expr} {es : List Expr} {t : TA} {id T : String} {r : List V -> Hp -> VK -> Prop}
def tCB (r : List V -> Hp -> VK -> Prop) (t : TA) : TE := fun σ H Q => t σ H fun vs H1 => r vs H1 Q
theorem anf (hc : CallR X (.builtin id) r) (hg : Gl X x) (hm : X.mg x = none) (hv : bootBuiltins x = some (.builtin id)) (ha : PA X (e :: es) t) (hn : x ≠ "__name__" := by decide) (hdb : (x == ("__debug__" : Str)) = false := by decide)
 (he : starEach (e :: es) X.env = (false, eval e X.env) :: starEach es X.env := by rfl) (hpl : (backTo pos (starEach es X.env)).any (·.1) = false := by rfl) : PE X (.Call (.Name x p) (e :: es) [] pos) (tCB r t) := by
 intro pins s σ H Q I h
 refine wpAny_Call_Name_kw (j5 I hg hm hv ?_ hn hdb)
 exact PyProof.Rows.callWith_builtin1 (thn (ha pos pins s σ H _ I h) fun us s1 ⟨vs, H1, I1, r1, q1⟩ => hc pins s1 σ H1 vs us Q I1 r1 q1) he hpl
theorem al9 (hc : CallR X (.type T) r) (hg : Gl X x) (hm : X.mg x = none) (hv : bootBuiltins x = some (.type T)) (ha : PA X (e :: es) t) (hn : x ≠ "__name__" := by decide) (hdb : (x == ("__debug__" : Str)) = false := by decide)
 (he : starEach (e :: es) X.env = (false, eval e X.env) :: starEach es X.env := by rfl) (hpl : (backTo pos (starEach es X.env)).any (·.1) = false := by rfl) : PE X (.Call (.Name x p) (e :: es) [] pos) (tCB r t) := by
 intro pins s σ H Q I h
 refine wpAny_Call_Name_kw (j5 I hg hm hv ?_ hn hdb)
 exact PyProof.Rows.callWith_type1 (thn (ha pos pins s σ H _ I h) fun us s1 ⟨vs, H1, I1, r1, q1⟩ => hc pins s1 σ H1 vs us Q I1 r1 q1) he hpl
end
end L2
namespace HT
open PySem PyProof.Rows
section
open PySem.SeqAt
open PySem.AutoSeq1 (wpAny_loadPart')
open PySem.MeetsSeq PySem.MeetsSeq2 PySem.MeetsSeq3
end
section
variable {prog : Program} {w : World} {A : Around} {E : Value -> Shared -> Prop} {s : Shared}
theorem aqg {t b : Addr} {vs ws : List Value} {Q : Value -> Shared -> Prop} (ht : IsTup s.heap t vs.toArray) (hb : IsTup s.heap b ws.toArray) (hv : vs ≠ [])
 (h1 : ws = [] -> Q (.ref t) s) (h2 : ws ≠ [] -> Q (.ref s.heap.objs.size) { s with heap := s.heap.push { cls := .type "tuple", data := .seq (vs ++ ws).toArray } })
 (hsz : vs.length + ws.length <= sizeLine) : wpAny (model prog w) A (binaryOp .Add (.ref t) (.ref b)) Q E s := by
 obtain ⟨⟨cls, dd, data, sl⟩, ho, hc, n, hd⟩ := id ht
 obtain ⟨⟨cls2, dd2, data2, sl2⟩, ho2, hc2, n2, hd2⟩ := id hb
 simp only at hc hd hc2 hd2
 subst hc hd hc2 hd2
 have e : vs.toArray ++ ws.toArray = (vs ++ ws).toArray := by simp
 by_cases hw : ws = []
 . exact concat_meets ⟨_, ho, rfl⟩ ⟨_, ho2, rfl⟩ noFill_tuple_add seq_tuple_add PySem.F.slot_tuple_add PySem.F.entry_tuple_add (PySem.F.args_tuple_add_2 _ _)
    (tuple_addW1 t b vs.toArray ws.toArray n n2 dd dd2 sl sl2 (by simpa using hv) (by simp [hw])) ⟨ho, ho2, h1 hw⟩
 . refine concat_meets ⟨_, ho, rfl⟩ ⟨_, ho2, rfl⟩ noFill_tuple_add seq_tuple_add PySem.F.slot_tuple_add PySem.F.entry_tuple_add (PySem.F.args_tuple_add_2 _ _)
    (tuple_addW2 t b vs.toArray ws.toArray n n2 dd dd2 sl sl2 (by simpa using hv) (by simpa using hw) (by rw [List.size_toArray, List.size_toArray]; exact hsz)) ⟨ho, ho2, ?_⟩
   rw [e]
   exact h2 hw
def sIx (n d : Nat) : Option Int -> Nat
 | none => d
 | some v => if v < 0 then (v + (n : Int)).toNat else min v.toNat n
theorem aws (n d : Nat) (hd : d <= n) (o : Option Int) : sIx n d o <= n := by
 cases o with
 | none => exact hd
 | some v =>
  show (if v < 0 then (v + (n : Int)).toNat else min v.toNat n) <= n
  by_cases hv : v < 0
  . rw [if_pos hv]; omega
  . rw [if_neg hv]; exact Nat.min_le_right _ _
theorem ajh (v : Int) (n d : Nat) : (if v < 0 then max (v + (n : Int)) 0 else min v (n : Int)) = ((sIx n d (some v) : Nat) : Int) := by
 show (if v < 0 then max (v + (n : Int)) 0 else min v (n : Int)) = (((if v < 0 then (v + (n : Int)).toNat else min v.toNat n) : Nat) : Int)
 by_cases hv : v < 0
 . simp only [if_pos hv]; omega
 . simp only [if_neg hv]; omega
theorem aj5 (lo hi : Option Int) (n : Nat) : Builtin.Slice.sliceAdjust lo hi 1 (n : Int) = (((sIx n 0 lo : Nat) : Int), ((sIx n n hi : Nat) : Int)) := by
 have h1 : ¬ ((1 : Int) < 0) := by omega
 unfold Builtin.Slice.sliceAdjust
 simp only [h1, if_false]
 refine Prod.ext ?_ ?_
 . cases lo with
   | none => rfl
   | some v => exact ajh v n 0
 . cases hi with
   | none => rfl
   | some v => exact ajh v n n
theorem akr (i j : Nat) : Builtin.Slice.slicePlaces (i : Int) (j : Int) 1 = j - i := by
 unfold Builtin.Slice.slicePlaces
 have h1 : (1 : Int) > 0 := by omega
 simp only [h1, if_true, Int.ediv_one]
 split <;> omega
theorem ad2 {v : Value} {o : Option Int} {Q : Option Int -> Shared -> Prop} (p : IsPart v o) (h : Q o s) : wpAny (model prog w) A (Builtin.Slice.slicePartIndex v) Q E s := by
 cases p with
 | none => exact slicePart_none h
 | int i t => exact slicePart_int h
theorem ac7 {sl : Addr} {vl vu : Value} {lo hi : Option Int} {n : Nat} {Q : Int × Int × Nat -> Shared -> Prop} (hs : s.heap.IsSliceOf sl vl vu .none) (pl : IsPart vl lo) (pu : IsPart vu hi)
 (h : Q (((sIx n 0 lo : Nat) : Int), 1, sIx n n hi - sIx n 0 lo) s) : wpAny (model prog w) A (Builtin.Slice.sliceApplied (.ref sl) (pure (n : Int))) Q E s := by
 obtain ⟨os, hos, hcs, hds⟩ := id hs
 unfold Builtin.Slice.sliceApplied Builtin.Slice.sliceFields
 refine wpAny_bind (wpAny_bind (wpAny_field hos hds (x := vl) rfl (wpAny_bind (wpAny_field hos hds (x := vu) rfl (wpAny_bind (wpAny_field hos hds (x := .none) rfl (wpAny_pure ?_)))))))
 refine wpAny_bind (slicePart_none ?_)
 show wpAny _ _ (if ((1 : Int) == 0) = true then _ else _) _ _ s
 rw [if_neg (by decide)]
 refine wpAny_bind (ad2 pl (wpAny_bind (ad2 pu (wpAny_bind (wpAny_pure ?_)))))
 show wpAny _ _ (match Builtin.Slice.sliceAdjust lo hi 1 (n : Int) with | (lo, hi) => pure (lo, (1 : Int), Builtin.Slice.slicePlaces lo hi 1)) _ _ s
 rw [aj5 lo hi n]
 show wpAny _ _ (pure (((sIx n 0 lo : Nat) : Int), (1 : Int), Builtin.Slice.slicePlaces ((sIx n 0 lo : Nat) : Int) ((sIx n n hi : Nat) : Int) 1)) _ _ s
 rw [akr]
 exact wpAny_pure h
theorem apb (xs : Array Value) (i k : Nat) : ((List.range k).filterMap fun (m : Nat) => xs[((i : Int) + (m : Int) * 1).toNat]?).toArray = ((xs.toList.drop i).take k).toArray := by
 have e : (fun (m : Nat) => xs[((i : Int) + (m : Int) * 1).toNat]?) = fun m => xs[i + m]? := by
  funext m
  have : ((i : Int) + (m : Int) * 1).toNat = i + m := by omega
  rw [this]
 rw [e]
 have := pick_run xs i k
 rw [List.filterMap_map] at this
 have e2 : ((fun x => xs[x]?) ∘ fun x => i + x) = fun m => xs[i + m]? := rfl
 rw [e2] at this
 rw [this]
theorem aci {t sl : Addr} {items : Array Value} {vl vu : Value} {lo hi : Option Int} {Q : Value -> Shared -> Prop} (ht : IsTup s.heap t items) (hs : s.heap.IsSliceOf sl vl vu .none) (pl : IsPart vl lo) (pu : IsPart vu hi)
 (hw : ¬ (sIx items.size 0 lo = 0 /\ sIx items.size items.size hi = items.size))
 (h : Q (.ref s.heap.objs.size) { s with heap := s.heap.push { cls := .type "tuple", data := .seq ((items.toList.drop (sIx items.size 0 lo)).take (sIx items.size items.size hi - sIx items.size 0 lo)).toArray } })
 (hsz : items.size <= sizeLine) : wpAny (model prog w) A (getItem (.ref t) (.ref sl)) Q E s := by
 have htake : sizeOk (.seq ((items.toList.drop (sIx items.size 0 lo)).take (sIx items.size items.size hi - sIx items.size 0 lo)).toArray) := by
  show ((items.toList.drop (sIx items.size 0 lo)).take (sIx items.size items.size hi - sIx items.size 0 lo)).toArray.size <= sizeLine
  rw [List.size_toArray, List.length_take, List.length_drop, Array.length_toList]
  omega
 have hj : sIx items.size items.size hi <= items.size := aws _ _ (Nat.le_refl _) hi
 obtain ⟨os, hos, hcs, hds⟩ := id hs
 have hTs : s.TypeIs (.ref sl) "slice" := ⟨os, hos, hcs⟩
 unfold getItem
 try with_reducible refine wpAny_holding ?_
 first | refine wpAny_bind (wpAny_pure ?_) | skip
 refine wpAny_bind (wpAny_sequenceKey ht.typeIs (by decide) ?_)
 refine wpAny_bind (wpAny_callSpecial?_slot (name := Str.ofString "__getitem__") ht.typeIs PyProof.Rows.slot_tuple_getitem
  (wpAny_call_entry PyProof.Rows.slot_tuple_getitem ht.typeIs entry_tuple_getitem ?_ (args_tuple_getitem _ _)))
 show wpAny _ _ (Builtin.Tuple.tupleItemsOf (.ref t) >>= _) _ _ s
 refine wpAny_bind (tupleItemsOf_ ht ?_)
 refine wpAny_bind (wpAny_typeOf hTs ?_)
 rw [if_pos (by decide)]
 refine wpAny_bind (ac7 hs pl pu ?_)
 have hno : ¬ ((((sIx items.size 0 lo : Nat) : Int) == 0 && (1 : Int) == 1 && (sIx items.size items.size hi - sIx items.size 0 lo) == items.size) = true) := by
  intro q
  rw [Bool.and_eq_true, Bool.and_eq_true] at q
  have q1 : ((sIx items.size 0 lo : Nat) : Int) = 0 := eq_of_beq q.1.1
  have q2 : sIx items.size items.size hi - sIx items.size 0 lo = items.size := eq_of_beq q.2
  exact hw ⟨by omega, by omega⟩
 show wpAny _ _ (if (((sIx items.size 0 lo : Nat) : Int) == 0 && (1 : Int) == 1 && (sIx items.size items.size hi - sIx items.size 0 lo) == items.size) = true then _ else _) _ _ s
 rw [if_neg hno, apb]
 first
  | exact wpAny_bind (m := Builtin.Tuple.tupleExact _) (wpAny_newObj_type (wpAny_pure ⟨_, rfl, wpAny_pure h⟩) htake)
  | exact wpAny_bind (m := Builtin.Tuple.tupleExact _) (wpAny_newObj_type (wpAny_bind (wpAny_pure (wpAny_pure ⟨_, rfl, wpAny_pure h⟩))) htake)
  | exact wpAny_bind (wpAny_bind (m := Builtin.Tuple.tupleExact _) (wpAny_newObj_type (wpAny_pure (wpAny_pure ⟨_, rfl, wpAny_pure h⟩)) htake))
  | exact wpAny_bind (wpAny_bind (m := Builtin.Tuple.tupleExact _) (wpAny_newObj_type (wpAny_pure ⟨_, rfl, wpAny_pure h⟩) htake))
end
end HT
namespace L2
open PySem PySem.Spec PyProof.Rows
abbrev TO := St -> Hp -> (Option Int -> Hp -> Prop) -> Prop
def PO (X : Cx) (e : Option Expr) (t : TO) : Prop :=
 ∀ (pins : List (Addr × Obj)) (s : Shared) (σ : St) (H : Hp) (Q : Option Int -> Hp -> Prop), Inv X pins σ H s -> t σ H Q ->
  wpAny (model X.prog X.w) X.A (evalPart e X.env) (fun u s' => ∃ o H', Inv X pins σ H' s' /\ IsPart u o /\ Q o H') X.xe s
def aq2 : TO := fun _ H Q => Q none H
def ayj (t : TE) : TO := fun σ H Q => t σ H fun x H1 => ∃ i, x = .int i /\ Q (some i) H1
section
variable {X : Cx} {e : Expr} {te : TE} {lo hi : Option Expr} {tl th : TO} {pos p2 : Pos}
theorem asl : PO X none aq2 := by
 intro pins s σ H Q I h
 rw [evalPart_none]
 exact wpAny_pure ⟨none, H, I, .none, h⟩
theorem ar7 (h : PE X e te) : PO X (some e) (ayj te) := by
 intro pins s σ H Q I hw
 rw [evalPart_some]
 refine thn (h pins s σ H _ I hw) fun u s1 ⟨x, H1, I1, r1, q1⟩ => ?_
 obtain ⟨i, rfl, q⟩ := q1
 obtain ⟨t, rfl⟩ := r1
 exact ⟨some i, H1, I1, .int i t, q⟩
def SlR (X : Cx) (r : V -> Option Int -> Option Int -> Hp -> VK -> Prop) : Prop :=
 ∀ (pins : List (Addr × Obj)) (s : Shared) (σ : St) (H : Hp) (x : V) (v vl vu : Value) (lo hi : Option Int) (sl : Addr) (Q : VK), Inv X pins σ H s -> RelV x v -> s.heap.IsSliceOf sl vl vu .none -> IsPart vl lo -> IsPart vu hi -> r x lo hi H Q ->
  ∃ T id, typeLookup (.type T) "__getitem__" = pure (some (.builtin id)) /\ s.TypeIs v T /\ wpAny (model X.prog X.w) X.A (getItem v (.ref sl)) (EP X pins σ Q) X.xe s
theorem SlR.or {r r' : V -> Option Int -> Option Int -> Hp -> VK -> Prop} (h : SlR X r) (h' : SlR X r') : SlR X (fun x lo hi H Q => r x lo hi H Q \/ r' x lo hi H Q) := by
 intro pins s σ H x v vl vu lo hi sl Q I rx hs pl pu q
 rcases q with q | q
 . exact h pins s σ H x v vl vu lo hi sl Q I rx hs pl pu q
 . exact h' pins s σ H x v vl vu lo hi sl Q I rx hs pl pu q
def tSl (r : V -> Option Int -> Option Int -> Hp -> VK -> Prop) (te : TE) (tl th : TO) : TE := fun σ H Q => te σ H fun x H1 => tl σ H1 fun l H2 => th σ H2 fun u H3 => r x l u H3 Q
theorem anj {r : V -> Option Int -> Option Int -> Hp -> VK -> Prop} (hr : SlR X r) (he : PE X e te) (hl : PO X lo tl) (hu : PO X hi th) : PE X (.Subscript e (.Slice lo hi none p2) pos) (tSl r te tl th) := by
 intro pins s σ H Q I h
 refine Subscript_ (thn (he pins s σ H _ I h) fun v s1 ⟨x, H1, I1, r1, q1⟩ => ?_)
 refine wpAny_Slice (thn (hl pins s1 σ H1 _ I1 q1) fun vl s2 ⟨l, H2, I2, pl, q2⟩ => thn (hu pins s2 σ H2 _ I2 q2) fun vu s3 ⟨u, H3, I3, pu, q3⟩ => ?_)
 rw [evalPart_none]
 refine wpAny_pure ?_
 have I4 : Inv X pins σ H3 { s3 with heap := s3.heap.push { cls := .type "slice", data := .fields #[vl, vu, .none] } } := I3.kept (t' := s3.toks) fun b ob q => Heap.get?_push_of_some _ q
 obtain ⟨T, id, hT, ht, hg⟩ := hr pins { s3 with heap := s3.heap.push { cls := .type "slice", data := .fields #[vl, vu, .none] } } σ H3 x v vl vu l u s3.heap.objs.size Q I4 r1 (Heap.IsSliceOf.new ..) pl pu q3
 show wpAny (model X.prog X.w) X.A (subscriptTail e (.Slice lo hi none p2) v (.ref s3.heap.objs.size)) (EP X pins σ Q) X.xe { s3 with heap := s3.heap.push { cls := .type "slice", data := .fields #[vl, vu, .none] } }
 exact tail_any (ops := [.ref s3.heap.objs.size, v]) ht hT hg (by with_unfolding_all rfl)
def yu (xs : List V) (lo hi : Option Int) : List V := (xs.drop (HT.sIx xs.length 0 lo)).take (HT.sIx xs.length xs.length hi - HT.sIx xs.length 0 lo)
theorem acr (xs : List V) (lo hi : Option Int) : (yu xs lo hi).length <= xs.length := by
 unfold yu
 rw [List.length_take, List.length_drop]
 omega
def azv (K : Fg) : V -> Option Int -> Option Int -> Hp -> VK -> Prop := fun x lo hi H Q => ∃ a xs, x = .ref a /\ SqT K H a xs /\
 ¬ (HT.sIx xs.length 0 lo = 0 /\ HT.sIx xs.length xs.length hi = xs.length) /\ ∀ p, H p = none -> Q (.ref p) (upd H p (.tup (yu xs lo hi)))
theorem avs : SlR X (azv X.K) := by
 intro pins s σ H x v vl vu lo hi sl Q I rx hs pl pu h
 obtain ⟨a, xs, rfl, hx, hw, q⟩ := h
 cases rx
 obtain ⟨its, r, ht, hz⟩ := I.tuple hx
 have hlen : its.toArray.size = xs.length := by rw [List.size_toArray]; exact r.length.symm
 refine ⟨"tuple", _, PyProof.Rows.slot_tuple_getitem.lookup, ht.typeIs, ?_⟩
 refine HT.aci ht hs pl pu (by rw [hlen]; exact hw) ?_ (by rw [hlen]; exact hz)
 rw [hlen]
 refine ⟨.ref s.heap.objs.size, _, I.laid (t' := s.toks) (o := .tup (yu xs lo hi)) (fun b ob q => Heap.get?_push_of_some _ q) (Nat.le_refl _) ?_, rfl, q _ (I.hok.fresh (Nat.le_refl _))⟩
 exact ⟨Nat.le_trans (acr xs lo hi) hz, _, (r.drop (HT.sIx xs.length 0 lo)).take (HT.sIx xs.length xs.length hi - HT.sIx xs.length 0 lo), IsTup.new _ _⟩
def ax8 (K : Fg) : R2 := fun x y H Q => ∃ a b xs ys, x = .ref a /\ y = .ref b /\ SqT K H a xs /\ SqT K H b ys /\ xs ≠ [] /\ xs.length + ys.length <= sizeLine /\
 (ys = [] -> Q (.ref a) H) /\ (ys ≠ [] -> ∀ p, H p = none -> Q (.ref p) (upd H p (.tup (xs ++ ys))))
theorem Vals.nil_iff {xs : List V} {us : List Value} (r : Vals xs us) : us = [] ↔ xs = [] := by
 cases r with
 | nil => simp
 | cons _ _ => simp
theorem aqv : OpR X (binaryOp .Add) (ax8 X.K) := by
 intro pins s σ H x y v u Q I rx ry h
 obtain ⟨a, b, xs, ys, rfl, rfl, ha, hb, hx, hz, q1, q2⟩ := h
 cases rx
 cases ry
 obtain ⟨its, r1, p1, _⟩ := I.tuple ha
 obtain ⟨its2, r2, p2, _⟩ := I.tuple hb
 refine HT.aqg p1 p2 (fun z => hx (r1.nil_iff.mp z)) (fun z => ⟨.ref a, H, I, rfl, q1 (r2.nil_iff.mp z)⟩) (fun z => ?_) (by rw [<- r1.length, <- r2.length]; exact hz)
 refine ⟨.ref s.heap.objs.size, _, I.laid (t' := s.toks) (o := .tup (xs ++ ys)) (fun b ob q => Heap.get?_push_of_some _ q) (Nat.le_refl _) ?_, rfl, q2 (fun w => z (r2.nil_iff.mpr w)) _ (I.hok.fresh (Nat.le_refl _))⟩
 exact ⟨by rw [List.length_append]; exact hz, _, r1.append r2, IsTup.new _ _⟩
end
end L2
namespace L2
open PySem PySem.Spec PyProof.Rows
def ixN (n : Nat) (i : Int) : Option Nat := if 0 <= i then (if i < n then some i.toNat else none) else if -(n : Int) <= i then some (i + n).toNat else none
def atI {α : Type} (xs : List α) (i : Int) : Option α := (ixN xs.length i).bind fun j => xs[j]?
theorem ajf {n : Nat} {i : Int} {j : Nat} (h : ixN n i = some j) : seqIndex? i n = some j /\ j < n /\ -(n : Int) <= i /\ i < n := by
 unfold ixN at h
 by_cases h0 : 0 <= i
 . rw [if_pos h0] at h
   by_cases h1 : i < n
   . rw [if_pos h1] at h
     have e : i.toNat = j := Option.some.inj h
     exact ⟨by rw [seqIndex_of h0 h1, e], by omega, by omega, h1⟩
   . rw [if_neg h1] at h; cases h
 . rw [if_neg h0] at h
   by_cases h1 : -(n : Int) <= i
   . rw [if_pos h1] at h
     have e : (i + n).toNat = j := Option.some.inj h
     exact ⟨by rw [seqIndex_neg (by omega) h1, e], by omega, h1, by omega⟩
   . rw [if_neg h1] at h; cases h
theorem ajj {α : Type} {xs : List α} {i : Int} {v : α} (h : atI xs i = some v) : ∃ j, seqIndex? i xs.length = some j /\ xs[j]? = some v /\ j < xs.length /\ -(xs.length : Int) <= i /\ i < xs.length := by
 unfold atI at h
 cases e : ixN xs.length i with
 | none => rw [e] at h; cases h
 | some j =>
  rw [e] at h
  obtain ⟨h1, h2, h3, h4⟩ := ajf e
  exact ⟨j, h1, h, h2, h3, h4⟩
def aew (b : Expr) : Prop := ∀ o i, subscripted b false o i = operate [o, i] (getItem o i)
def IxR (X : Cx) (r : R2) : Prop :=
 ∀ (value slice : Expr) (pins : List (Addr × Obj)) (s : Shared) (σ : St) (H : Hp) (x y : V) (v u : Value) (Q : VK), Inv X pins σ H s -> RelV x v -> RelV y u -> r x y H Q ->
  subscripted slice false v u = operate [v, u] (getItem v u) -> wpAny (model X.prog X.w) X.A (subscriptTail value slice v u) (EP X pins σ Q) X.xe s
def MtR (X : Cx) (id : String) (r : V -> List V -> Hp -> VK -> Prop) : Prop :=
 ∀ (pins : List (Addr × Obj)) (s : Shared) (σ : St) (H : Hp) (x : V) (xs : List V) (v : Value) (us : List Value) (Q : VK), Inv X pins σ H s -> RelV x v -> Vals xs us -> r x xs H Q ->
  wpAny (model X.prog X.w) X.A (call (.builtin id) (v :: us)) (EP X pins σ Q) X.xe s
section
variable {X : Cx} {a b : Expr} {ta tb : TE} {pos : Pos}
theorem aza {r : R2} (hr : IxR X r) (ha : PE X a ta) (hb : PE X b tb) (hs : aew b) : PE X (.Subscript a b pos) (tOp r ta tb) := by
 intro pins s σ H Q I h
 exact Subscript_ (aoh ha hb I h fun v u s2 x y H2 I2 rx ry q => hr a b pins s2 σ H2 x y v u Q I2 rx ry q (hs _ _))
def a0p (K : Fg) : R2 := fun x y H Q => ∃ p xs i v, x = .ref p /\ y = .int i /\ SqL K H p xs /\ atI xs i = some v /\ Q v H
def az8 (K : Fg) : R2 := fun x y H Q => ∃ p xs i v, x = .ref p /\ y = .int i /\ SqT K H p xs /\ atI xs i = some v /\ Q v H
theorem m6 : IxR X (a0p X.K) := by
 intro value slice pins s σ H x y v u Q I rx ry h hs
 obtain ⟨p, xs, i, z, rfl, rfl, hq, he, q⟩ := h
 cases rx
 obtain ⟨t, rfl⟩ := ry
 obtain ⟨its, r, pl, hz⟩ := I.list hq
 obtain ⟨j, h1, h2, h3, h4, h5⟩ := ajj he
 obtain ⟨w, ew, rw'⟩ := r.get h2
 have hl := r.length
 have hn := aeg
 have fin : EP X pins σ Q w s := ⟨z, H, I, rw', q⟩
 by_cases h0 : 0 <= i
 . have hj : i.toNat = j := by
    rw [seqIndex_of h0 h5] at h1
    exact Option.some.inj h1
   exact item_listR pl.isList h0 (by omega) (by rw [hj]; simpa using ew) fin hs
 . have hj : (i + (its.toArray.size : Int)).toNat = j := by
    rw [seqIndex_neg (by omega) h4] at h1
    rw [List.size_toArray, <- hl]
    exact Option.some.inj h1
   exact subscriptTail_builtinR (x := w) pl.isList.typeIs slot_list_getitem.lookup
    (wpAny_getItem_list_neg (Q := fun r s' => r = w /\ EP X pins σ Q r s') pl.isList (by omega) (by rw [List.size_toArray] <;> omega) (by omega) (by rw [hj]; simpa using ew) ⟨rfl, fin⟩) hs
theorem vo : IxR X (az8 X.K) := by
 intro value slice pins s σ H x y v u Q I rx ry h hs
 obtain ⟨p, xs, i, z, rfl, rfl, hq, he, q⟩ := h
 cases rx
 obtain ⟨t, rfl⟩ := ry
 obtain ⟨its, r, pl, hz⟩ := I.tuple hq
 obtain ⟨j, h1, h2, h3, h4, h5⟩ := ajj he
 obtain ⟨w, ew, rw'⟩ := r.get h2
 have hl := r.length
 have hn := aeg
 have fin : EP X pins σ Q w s := ⟨z, H, I, rw', q⟩
 exact subscriptTail_builtinR (x := w) pl.typeIs slot_tuple_getitem.lookup
  (getItem_tuple (j := j) (Q := fun r s' => r = w /\ EP X pins σ Q r s') pl (by omega) (by omega) (by rw [List.size_toArray, <- hl]; exact h1) (by simpa using ew) ⟨rfl, fin⟩) hs
theorem ajr (its : List Value) (n j : Nat) (u : Value) : Obj.mapSeq (·.setIfInBounds j u) { cls := .type "list", data := .seq its.toArray n } = { cls := .type "list", data := .seq (its.set j u).toArray n } := by
 simp [Obj.mapSeq]
theorem Inv.lst {pins : List (Addr × Obj)} {σ : St} {H : Hp} {s : Shared} {p : Addr} {xs : List V} (I : Inv X pins σ H s) (h : H p = some (.lst xs)) :
 ∃ (its : List Value) (n : Nat), Vals xs its /\ s.heap.get? p = some { cls := .type "list", data := .seq its.toArray n } /\ xs.length <= sizeLine := by
 obtain ⟨z, its, n, r, e⟩ := I.hok p _ h
 exact ⟨its, n, r, e, z⟩
theorem Inv.lstUpd {pins : List (Addr × Obj)} {σ : St} {H : Hp} {s : Shared} {p : Addr} {xs ys : List V} {its its' : List Value} {n n' : Nat} {f : Obj -> Obj} (I : Inv X pins σ H s) (h : H p = some (.lst xs))
 (ho : s.heap.get? p = some { cls := .type "list", data := .seq its.toArray n }) (hf : f { cls := .type "list", data := .seq its.toArray n } = { cls := .type "list", data := .seq its'.toArray n' }) (r : Vals ys its') (hz : ys.length <= sizeLine) (t : Nat) :
 Inv X pins σ (upd H p (.lst ys)) { s with heap := s.heap.update p f, toks := t } := by
 have e : (s.heap.update p f).get? p = some { cls := .type "list", data := .seq its'.toArray n' } := by
  rw [Heap.get?_update_self f ho (by rw [hf] <;> rfl), hf]
 refine I.write (x := p) (e := p) (by rw [h]; trivial) (.inl rfl) (fun b u hb q => (Heap.get?_update_other _ _ (Ne.symm hb)).trans q) ⟨_, e⟩ ?_
 exact ⟨hz, its', n', r, e⟩
def ay4 : V -> V -> V -> Hp -> (Hp -> Prop) -> Prop := fun o i v H Q => ∃ p xs k j, o = .ref p /\ i = .int k /\ H p = some (.lst xs) /\ ixN xs.length k = some j /\ Q (upd H p (.lst (xs.set j v)))
theorem set_list : aoq X ay4 := by
 intro pins s σ H o i v ov iv u Q I ro ri rv h
 obtain ⟨p, xs, k, j, rfl, rfl, hp, hj, q⟩ := h
 cases ro
 obtain ⟨t, rfl⟩ := ri
 obtain ⟨its, n, r, ho, hz⟩ := I.lst hp
 obtain ⟨h1, h2, h3, h4⟩ := ajf hj
 have hl := r.length
 have hn := aeg
 have I' : Inv X pins σ (upd H p (.lst (xs.set j v))) { s with heap := s.heap.update p (Obj.mapSeq (·.setIfInBounds j u)) } :=
  I.lstUpd hp ho (ajr its n j u) (r.set rv j) (by rw [List.length_set]; exact hz) s.toks
 by_cases h0 : 0 <= k
 . have hk : k.toNat = j := by
    rw [seqIndex_of h0 h4] at h1
    exact Option.some.inj h1
   exact PySem.W.ki_setAt ho h0 (by omega) (by rw [List.size_toArray, <- hl]; exact h4) (by rw [hk]; exact ⟨_, I', q⟩)
 . have hk : (k + (its.toArray.size : Int)).toNat = j := by
    rw [seqIndex_neg (by omega) h3] at h1
    rw [List.size_toArray, <- hl]
    exact Option.some.inj h1
   exact PySem.W.ki_setBack ho (by omega) (by rw [List.size_toArray, <- hl]; exact h3) (by omega) (by rw [hk]; exact ⟨_, I', q⟩)
theorem ah4 (lo hi : Option Int) (n : Nat) : (sliceBounds lo hi none n).1 = ((HT.sIx n 0 lo : Nat) : Int) /\ (sliceBounds lo hi none n).2.1 = ((HT.sIx n n hi : Nat) : Int) /\ (sliceBounds lo hi none n).2.2 = 1 := by
 refine ⟨?_, ?_, rfl⟩
 . cases lo with
   | none => simp [sliceBounds, HT.sIx]
   | some i =>
    simp only [sliceBounds, HT.sIx, Option.getD_none, show (1 : Int) > 0 by decide, if_true]
    by_cases h : i < 0
    . simp only [h, if_true] <;> omega
    . simp only [h, if_false] <;> omega
 . cases hi with
   | none => simp [sliceBounds, HT.sIx]
   | some i =>
    simp only [sliceBounds, HT.sIx, Option.getD_none, show (1 : Int) > 0 by decide, if_true]
    by_cases h : i < 0
    . simp only [h, if_true] <;> omega
    . simp only [h, if_false] <;> omega
theorem af6 (its : List Value) (lo hi : Option Int) : slicePick its.toArray lo hi none = ((its.drop (HT.sIx its.length 0 lo)).take (HT.sIx its.length its.length hi - HT.sIx its.length 0 lo)).toArray := by
 obtain ⟨h1, h2, h3⟩ := ah4 lo hi its.toArray.size
 unfold slicePick
 rw [h1, h2, h3]
 simp only [sliceRange_one, pick_run, List.size_toArray] <;> rfl
def avk (K : Fg) : V -> Option Int -> Option Int -> Hp -> VK -> Prop := fun x lo hi H Q => ∃ a xs, x = .ref a /\ SqL K H a xs /\ ∀ p, H p = none -> Q (.ref p) (upd H p (.lst (yu xs lo hi)))
theorem asn : SlR X (avk X.K) := by
 intro pins s σ H x v vl vu lo hi sl Q I rx hs pl pu h
 obtain ⟨a, xs, rfl, hx, q⟩ := h
 cases rx
 obtain ⟨its, r, ht, hz⟩ := I.list hx
 have hlen := r.length
 refine ⟨"list", _, slot_list_getitem.lookup, ht.isList.typeIs, ?_⟩
 refine wpAny_getItem_list_slice ht.isList hs pl pu .none (by simp) ?_ (by rw [List.size_toArray] <;> omega)
 rw [af6, <- hlen]
 refine ⟨.ref s.heap.objs.size, _, I.laid (t' := s.toks) (o := .lst (yu xs lo hi)) (fun b ob q => Heap.get?_push_of_some _ q) (Nat.le_refl _) ?_, rfl, q _ (I.hok.fresh (Nat.le_refl _))⟩
 exact ⟨Nat.le_trans (acr xs lo hi) hz, _, 0, (r.drop (HT.sIx xs.length 0 lo)).take (HT.sIx xs.length xs.length hi - HT.sIx xs.length 0 lo), Heap.get?_push_size _ rfl⟩
theorem aht : CallR X (.builtin "len") (fun xs H Q => ∃ p ys, xs = [.ref p] /\ (SqL X.K H p ys \/ SqT X.K H p ys) /\ Q (.int ys.length) H) := by
 intro pins s σ H xs us Q I r h
 obtain ⟨p, ys, rfl, hq, q⟩ := h
 obtain ⟨u, rfl, rx⟩ := vals1 r
 cases rx
 have hn := aeg
 rcases hq with hq | hq
 . obtain ⟨its, r', pl, hz⟩ := I.list hq
   have hlen := r'.length
   exact Calls.call_len_list pl.isList (by simp only [List.size_toArray] <;> omega) ⟨.int ys.length, H, I.tok _, ⟨s.toks + 1, by rw [List.size_toArray, hlen]⟩, q⟩
 . obtain ⟨its, r', pl, hz⟩ := I.tuple hq
   have hlen := r'.length
   exact len_tuple pl (by simp only [List.size_toArray] <;> omega) ⟨.int ys.length, H, I.tok _, ⟨s.toks + 1, by rw [List.size_toArray, hlen]⟩, q⟩
theorem ag0 : CallR X (.type "list") (fun xs H Q => ∃ p ys, xs = [.ref p] /\ (SqL X.K H p ys \/ SqT X.K H p ys) /\ ∀ l, H l = none -> Q (.ref l) (upd H l (.lst ys))) := by
 intro pins s σ H xs us Q I r h
 obtain ⟨p, ys, rfl, hq, q⟩ := h
 obtain ⟨u, rfl, rx⟩ := vals1 r
 cases rx
 have fin : ∀ (its : List Value), Vals ys its -> ys.length <= sizeLine -> ∀ (h' : Heap) (c' : Nat), (∀ b o', s.heap.get? b = some o' -> h'.get? b = some o') ->
  h'.get? s.heap.objs.size = some { cls := .type "list", dict := none, data := .seq its.toArray c', slots := #[] } -> EP X pins σ Q (.ref s.heap.objs.size) { s with heap := h' } := fun its r' hz h' c' kp e =>
  ⟨.ref s.heap.objs.size, _, I.laid (t' := s.toks) kp (Nat.le_refl _) (show ObjOk X.prog X.w _ h' _ (.lst ys) from ⟨hz, its, c', r', e⟩), rfl, q _ (I.hok.fresh (Nat.le_refl _))⟩
 rcases hq with hq | hq
 . obtain ⟨its, r', pl, hz⟩ := I.list hq
   have hlen := r'.length
   obtain ⟨o, ho, hc, n, hd⟩ := pl.isList
   exact call_list_seq p (.inl rfl) ho hc hd (fun h' c' kp e => fin its r' hz h' c' kp e) (by simp only [List.size_toArray] <;> omega)
 . obtain ⟨its, r', pl, hz⟩ := I.tuple hq
   have hlen := r'.length
   obtain ⟨o, ho, hc, n, hd⟩ := pl
   exact call_list_seq p (.inr rfl) ho hc hd (fun h' c' kp e => fin its r' hz h' c' kp e) (by simp only [List.size_toArray] <;> omega)
theorem af7 : CallR X (.type "tuple") (fun xs H Q => ∃ p ys, xs = [.ref p] /\ ((SqL X.K H p ys /\ ∀ l, H l = none -> Q (.ref l) (upd H l (.tup ys))) \/ (SqT X.K H p ys /\ Q (.ref p) H))) := by
 intro pins s σ H xs us Q I r h
 obtain ⟨p, ys, rfl, h⟩ := h
 obtain ⟨u, rfl, rx⟩ := vals1 r
 cases rx
 rcases h with ⟨hq, q⟩ | ⟨hq, q⟩
 . obtain ⟨its, r', pl, hz⟩ := I.list hq
   have hlen := r'.length
   refine call_tuple_list pl.isList (fun h' kp => ?_) (by simp only [List.size_toArray] <;> omega)
   have I1 : Inv X pins σ H { s with heap := h' } := I.kept (t' := s.toks) kp
   have I2 : Inv X pins σ (upd H h'.objs.size (.tup ys)) { s with heap := h'.push { cls := .type "tuple", data := .seq its.toArray } } :=
    I1.laid (t' := s.toks) (fun b o e => Heap.get?_push_of_some _ e) (Nat.le_refl _) (show ObjOk X.prog X.w _ _ _ (.tup ys) from ⟨hz, its, r', IsTup.new _ _⟩)
   exact ⟨.ref h'.objs.size, _, I2, rfl, q _ (I1.hok.fresh (Nat.le_refl _))⟩
 . obtain ⟨its, r', pl, hz⟩ := I.tuple hq
   exact call_tuple_same pl ⟨.ref p, H, I, rfl, q⟩
def tyV (K : Fg) (T : String) (x : V) (H : Hp) : Prop := match x with
 | .str _ => T = "str"
 | .int _ => T = "int"
 | .ref p => (T = "list" /\ ∃ xs, SqL K H p xs) \/ (T = "tuple" /\ ∃ o, K.lookup p = some o /\ o.cls = .type "tuple" /\ o.dict = none) \/
  (T = "dict" /\ ((∃ kvs, H p = some (.dK kvs)) \/ ∃ kvs, H p = some (.dT kvs))) \/ (T = "set" /\ ∃ S n, H p = some (.set S n))
 | _ => False
theorem au4 {pins : List (Addr × Obj)} {σ : St} {H : Hp} {s : Shared} {T : String} {x : V} {v : Value} (I : Inv X pins σ H s) (r : RelV x v) (ty : tyV X.K T x H) :
 s.TypeIs v T /\ ∀ a, v = .ref a -> ∃ ob, s.heap.get? a = some ob /\ ob.dict = none := by
 cases x with
 | str z =>
  obtain ⟨t, rfl⟩ := r
  cases (show T = "str" from ty)
  exact ⟨typeIs_str s z t, fun _ e => nomatch e⟩
 | int i =>
  obtain ⟨t, rfl⟩ := r
  cases (show T = "int" from ty)
  exact ⟨typeIs_int s i t, fun _ e => nomatch e⟩
 | ref p =>
  cases r
  rcases ty with ⟨rfl, xs, hq⟩ | ⟨rfl, o, hk, hc, hd⟩ | ⟨rfl, hk⟩ | ⟨rfl, S, n, hk⟩
  . obtain ⟨its, _, pl, _⟩ := I.list hq
    refine ⟨pl.isList.typeIs, fun a e => ?_⟩
    cases e
    obtain ⟨o, n, e, c, hd, _⟩ := pl
    exact ⟨o, e, hd⟩
  . refine ⟨⟨o, I.kIn p o hk, hc⟩, fun a e => ?_⟩
    cases e
    exact ⟨o, I.kIn _ o hk, hd⟩
  . have z : ∃ o, s.heap.get? p = some o /\ o.ExactDict := by
     rcases hk with ⟨kvs, hk⟩ | ⟨kvs, hk⟩
     . obtain ⟨_, _, _, _, o, _, _, e, ex, _⟩ := I.hok p _ hk
       exact ⟨o, e, ex⟩
     . obtain ⟨_, _, _, _, o, _, _, e, ex, _⟩ := I.hok p _ hk
       exact ⟨o, e, ex⟩
    obtain ⟨o, e, ex⟩ := z
    refine ⟨⟨o, e, ex.1⟩, fun a e2 => ?_⟩
    cases e2
    exact ⟨o, e, ex.2.1⟩
  . obtain ⟨o, _, _, _, e, ex, _⟩ := I.hok p _ hk
    refine ⟨⟨o, e, ex.1⟩, fun a e2 => ?_⟩
    cases e2
    exact ⟨o, e, ex.2.1⟩
 | _ => exact False.elim ty
def tBM (K : Fg) (T : String) (r : V -> List V -> Hp -> VK -> Prop) (to : TE) (t : TA) : TE := fun σ H Q => to σ H fun x H1 => tyV K T x H1 /\ t σ H1 fun xs H2 => r x xs H2 Q
variable {o e : Expr} {es : List Expr} {to : TE} {t : TA} {name : Str} {apos cpos : Pos} {T id : String} {r : V -> List V -> Hp -> VK -> Prop}
theorem ax6 (pa : PlainAttrs T) (slot : Slot T name id) (hty : typeOf (.builtin id) = pure (.type "method_descriptor")) (hm : MtR X id r) (ho : PE X o to) (ha : PA X (e :: es) t)
 (hbase : attributeBase o name X.env (eval o X.env) = eval o X.env := by rfl)
 (hfew : ((backTo cpos (starEach (e :: es) X.env)).all (fun x => !x.1) && (backToKw cpos (keywordEach [] X.env)).all (fun x => x.1.isSome)
  && decide ((e :: es).length + ([] : List Keyword).length + (if ([] : List Keyword).isEmpty then 0 else 1) < 30)) = true := by rfl)
 (hline : (apos.endLine == cpos.line) = true := by rfl) (hs : starEach (e :: es) X.env = (false, eval e X.env) :: starEach es X.env := by rfl) (hplain : (backTo cpos (starEach es X.env)).any (·.1) = false := by rfl) :
 PE X (.Call (.Attribute o name apos) (e :: es) [] cpos) (tBM X.K T r to t) := by
 intro pins s σ H Q I h
 refine wpAny_Call_method_late hbase hfew hline rfl (thn (ho pins s σ H _ I h) fun v s1 ⟨x, H1, I1, r1, ty, q1⟩ => ?_)
 obtain ⟨h1, h2⟩ := au4 I1 r1 ty
 refine ⟨T, id, pa, slot, hty, h1, h2, ?_⟩
 have hA := ha cpos pins s1 σ H1 _ I1 q1
 rw [hs] at hA ⊢
 refine Calls.callWith_builtin (by show (false || (backTo cpos (starEach es X.env)).any (·.1)) = false; rw [hplain] <;> rfl) (Calls.evalArgs_plain ?_)
 exact thn hA fun us s2 ⟨vs, H2, I2, r2, q2⟩ => hm pins s2 σ H2 x vs v us Q I2 r1 r2 q2
end
end L2
namespace L2
open PySem PySem.Spec PyProof.Rows
def MtM (X : Cx) (id : String) (r : V -> List V -> Hp -> VK -> Prop) : Prop :=
 ∀ (pins : List (Addr × Obj)) (s : Shared) (σ : St) (H : Hp) (x : V) (xs : List V) (v : Value) (us : List Value) (Q : VK), Inv X pins σ H s -> RelV x v -> Vals xs us -> r x xs H Q ->
  wpAny (model X.prog X.w) X.A (call (.builtin id) (v :: us)) (EP X pins σ Q) X.xe s
theorem Vals.one : ∀ {x : V} {us : List Value}, Vals [x] us -> ∃ u, us = [u] /\ RelV x u
 | _, _, .cons r .nil => ⟨_, rfl, r⟩
section
variable {X : Cx} {pins : List (Addr × Obj)} {σ : St} {H : Hp} {s : Shared} {l b : Addr} {xs ys zs : List V}
theorem Inv.lset {its its' : List Value} {n : Nat} {f : Array Value -> Array Value} {t' : Nat} (I : Inv X pins σ H s) (hH : H l = some (.lst xs))
 (e : s.heap.get? l = some { cls := .type "list", data := .seq its.toArray n }) (hf : f its.toArray = its'.toArray) (hv : Vals ys its') (hz : ys.length <= sizeLine) :
 Inv X pins σ (upd H l (.lst ys)) { s with heap := s.heap.update l (Obj.mapSeq f), toks := t' } := by
 have q := PySem.IsL.update e f
 rw [hf] at q
 refine I.write (x := l) (e := l) (by rw [hH]; exact trivial) (.inl rfl) (fun b' u hb hu => (Heap.get?_update_other s.heap (Obj.mapSeq f) (Ne.symm hb)).trans hu) ⟨_, q⟩ ?_
 exact ⟨hz, its', _, hv, q⟩
theorem Inv.lnew {its : List Value} {t' : Nat} (I : Inv X pins σ H s) (hv : Vals ys its) (hz : ys.length <= sizeLine) :
 Inv X pins σ (upd H s.heap.objs.size (.lst ys)) { s with heap := s.heap.push { cls := .type "list", data := .seq its.toArray }, toks := t' } :=
 I.laid (fun _ _ q => Heap.get?_push_of_some _ q) (Nat.le_refl _) ⟨hz, its, 0, hv, Heap.get?_push_size _ rfl⟩
theorem Inv.fresh (I : Inv X pins σ H s) : H s.heap.objs.size = none := I.hok.fresh (Nat.le_refl _)
theorem Inv.lstM (I : Inv X pins σ H s) (hH : H l = some (.lst xs)) : xs.length <= sizeLine /\ ∃ (its : List Value) (n : Nat), Vals xs its /\ xs.length = its.length /\ s.heap.get? l = some { cls := .type "list", data := .seq its.toArray n } := by
 obtain ⟨z, its, n, r, e⟩ := I.hok l _ hH
 exact ⟨z, its, n, r, r.length, e⟩
end
section
variable {X : Cx}
def asy : V -> List V -> Hp -> VK -> Prop := fun x vs H Q => ∃ l xs y, x = .ref l /\ vs = [y] /\ H l = some (.lst xs) /\ xs.length < sizeLine /\ Q .non (upd H l (.lst (xs ++ [y])))
theorem afk : MtM X "list.append" asy := by
 intro pins s σ H x vs v us Q I rx rv h
 obtain ⟨l, xs, y, rfl, rfl, hH, hz, q⟩ := h
 cases rx
 obtain ⟨u, rfl, ru⟩ := rv.one
 obtain ⟨z, its, n, r, hl, e⟩ := I.lstM hH
 refine call_meets F.slot_list_append ⟨_, e, rfl⟩ F.entry_list_append (F.args_list_append_2 _ _) (PySem.list_append l its.toArray n u (by rw [List.size_toArray]; omega)) ⟨e, ?_⟩
 refine ⟨.non, _, I.lset (its' := its ++ [u]) hH e (by simp) (r.append (.cons ru .nil)) ?_, rfl, q⟩
 rw [List.length_append, List.length_singleton]
 omega
def av2 : R2 := fun x y H Q => ∃ l b xs zs, x = .ref l /\ y = .ref b /\ H l = some (.lst xs) /\ H b = some (.lst zs) /\ xs.length + zs.length <= sizeLine /\ ∀ p, H p = none -> Q (.ref p) (upd H p (.lst (xs ++ zs)))
theorem op_cat : OpR X (binaryOp .Add) av2 := by
 intro pins s σ H x y v u Q I rx ry h
 obtain ⟨l, b, xs, zs, rfl, rfl, hH, hB, hz, q⟩ := h
 cases rx
 cases ry
 obtain ⟨z, its, n, r, hl, e⟩ := I.lstM hH
 obtain ⟨z2, its2, n2, r2, hl2, e2⟩ := I.lstM hB
 refine PySem.P.add_list e e2 ?_ (by rw [List.size_toArray, List.size_toArray]; omega)
 have ea : its.toArray ++ its2.toArray = (its ++ its2).toArray := by simp
 rw [ea]
 exact ⟨.ref _, _, I.lnew (t' := s.toks) (r.append r2) (by rw [List.length_append]; omega), rfl, q _ I.fresh⟩
end
section
variable {prog : Program} {w : World} {A : Around} {E : Value -> Shared -> Prop} {s : Shared}
end
section
variable {X : Cx}
end
end L2
namespace L2
open PySem PySem.Spec PyProof.Rows
section
variable {κ : Type} [DecidableEq κ]
def n6 (kvs : List (κ × V)) (k : κ) : Option V := (kvs.find? fun kv => decide (kv.1 = k)).map (·.2)
def putK (kvs : List (κ × V)) (k : κ) (v : V) : List (κ × V) :=
 if (kvs.any fun kv => decide (kv.1 = k)) = true then kvs.map (fun kv => if kv.1 = k then (kv.1, v) else kv) else kvs ++ [(k, v)]
theorem aap {p : κ × V} {r : List (κ × V)} {k : κ} (e : p.1 = k) : n6 (p :: r) k = some p.2 := by simp [n6, List.find?_cons, e]
theorem aaw {p : κ × V} {r : List (κ × V)} {k : κ} (e : ¬ p.1 = k) : n6 (p :: r) k = n6 r k := by simp [n6, List.find?_cons, e]
theorem ago (k : κ) : ∀ kvs : List (κ × V), (kvs.any fun kv => decide (kv.1 = k)) = (n6 kvs k).isSome
 | [] => rfl
 | p :: r => by
  rw [List.any_cons]
  by_cases e : p.1 = k
  . simp only [aap e, decide_eq_true e, Bool.true_or, Option.isSome_some]
  . rw [aaw e, decide_eq_false e, Bool.false_or]; exact ago k r
theorem acx (kvs : List (κ × V)) (k : κ) (v : V) : (putK kvs k v).length <= kvs.length + 1 := by
 unfold putK
 split
 . rw [List.length_map]; omega
 . rw [List.length_append, List.length_cons, List.length_nil]; omega
theorem RelO.isSome_eq {o : Option V} {u : Option Value} (r : RelO o u) : o.isSome = u.isSome := by
 cases o with
 | none => cases u with
  | none => rfl
  | some _ => exact (show False from r).elim
 | some _ => cases u with
  | none => exact (show False from r).elim
  | some _ => rfl
theorem KV.val {kvs : List (κ × V)} {vs : List (κ × Value)} (r : KV kvs vs) (k : κ) : RelO (n6 kvs k) (valueAt vs k) := by
 unfold KV at r
 induction r with
 | nil => exact True.intro
 | @cons p q ps qs h t ih =>
  obtain ⟨h1, h2⟩ := h
  by_cases e : p.1 = k
  . have e' : q.1 = k := h1.symm.trans e
    have b : valueAt (q :: qs) k = some q.2 := by simp [valueAt, List.find?_cons, e']
    rw [aap e, b]; exact h2
  . have e' : ¬ q.1 = k := fun z => e (h1.trans z)
    have b : valueAt (q :: qs) k = valueAt qs k := by simp [valueAt, List.find?_cons, e']
    rw [aaw e, b]; exact ih
theorem KV.any {kvs : List (κ × V)} {vs : List (κ × Value)} (r : KV kvs vs) (k : κ) : (kvs.any fun kv => decide (kv.1 = k)) = vs.any fun kv => decide (kv.1 = k) := by
 unfold KV at r
 induction r with
 | nil => rfl
 | cons h t ih => rw [List.any_cons, List.any_cons, ih, h.1]
theorem KV.repl {kvs : List (κ × V)} {vs : List (κ × Value)} (r : KV kvs vs) (k : κ) {y : V} {u : Value} (ry : RelV y u) :
 KV (kvs.map fun kv => if kv.1 = k then (kv.1, y) else kv) (vs.map fun kv => if kv.1 = k then (kv.1, u) else kv) := by
 unfold KV at r ⊢
 induction r with
 | nil => exact .nil
 | @cons p q ps qs h t ih =>
  rw [List.map_cons, List.map_cons]
  refine .cons ?_ ih
  obtain ⟨h1, h2⟩ := h
  by_cases e : p.1 = k
  . rw [if_pos e, if_pos (h1.symm.trans e)]; exact ⟨h1, ry⟩
  . rw [if_neg e, if_neg (fun z => e (h1.trans z))]; exact ⟨h1, h2⟩
theorem KV.put {kvs : List (κ × V)} {vs : List (κ × Value)} (r : KV kvs vs) (k : κ) {y : V} {u : Value} (ry : RelV y u) : KV (putK kvs k y) (stored vs k u) := by
 unfold putK stored
 rw [r.any k]
 by_cases e : (vs.any fun kv => decide (kv.1 = k)) = true
 . rw [if_pos e, if_pos e]; exact r.repl k ry
 . rw [if_neg e, if_neg e]; exact Paired.snoc r ⟨rfl, ry⟩
theorem KV.length {kvs : List (κ × V)} {vs : List (κ × Value)} (r : KV kvs vs) : kvs.length = vs.length := Paired.length r
end
theorem adp {P : Program} {w : World} {k : Key} {u : Value} (r : RelV (kV k) u) : (ak P w).is k u = true := by
 cases k with
 | inl i => obtain ⟨t, e⟩ := (show ∃ t, u = Value.int i t from r); subst e; exact ah7 P w i t
 | inr x => obtain ⟨t, e⟩ := (show ∃ t, u = Value.str x t from r); subst e; exact aig P w x t
theorem afl {P : Program} {w : World} : ∀ {ks : List Key} {us : List Value}, Vals (ks.map kV) us -> ItemsAre (ak P w) ks us
 | [], _, r => by rw [List.map_nil] at r; cases r; exact .nil
 | k :: ks, _, r => by
  rw [List.map_cons] at r
  cases r with
  | cons h t => exact .cons (adp h) (afl t)
abbrev KT (H : Hp) : List (List Key × V) -> List (List Key × Addr × Value) -> Prop := Paired fun p q => p.1 = q.1 /\ H q.2.1 = some (.tup (p.1.map kV)) /\ RelV p.2 q.2.2
theorem KT.val {H : Hp} {kvs : List (List Key × V)} {xs : List (List Key × Addr × Value)} (r : KT H kvs xs) (k : List Key) : RelO (n6 kvs k) ((atKey xs k).map (·.2)) := by
 induction r with
 | nil => exact True.intro
 | @cons p q ps qs h t ih =>
  obtain ⟨h1, _, h2⟩ := h
  by_cases e : p.1 = k
  . have e' : q.1 = k := h1.symm.trans e
    have b : atKey (q :: qs) k = some q.2 := by simp [atKey, List.find?_cons, e']
    rw [aap e, b]; exact h2
  . have e' : ¬ q.1 = k := fun z => e (h1.trans z)
    have b : atKey (q :: qs) k = atKey qs k := by simp [atKey, List.find?_cons, e']
    rw [aaw e, b]; exact ih
theorem KT.repl {H : Hp} {kvs : List (List Key × V)} {xs : List (List Key × Addr × Value)} (r : KT H kvs xs) (k : List Key) {y : V} {u : Value} (ry : RelV y u) :
 KT H (kvs.map fun kv => if kv.1 = k then (kv.1, y) else kv) (xs.map (putAt k u)) := by
 induction r with
 | nil => exact .nil
 | @cons p q ps qs h t ih =>
  rw [List.map_cons, List.map_cons]
  refine .cons ?_ ih
  obtain ⟨h1, h2, h3⟩ := h
  unfold putAt
  by_cases e : p.1 = k
  . rw [if_pos e, if_pos (h1.symm.trans e)]; exact ⟨h1, h2, ry⟩
  . rw [if_neg e, if_neg (fun z => e (h1.trans z))]; exact ⟨h1, h2, h3⟩
theorem KT.put {H : Hp} {kvs : List (List Key × V)} {xs : List (List Key × Addr × Value)} (r : KT H kvs xs) (k : List Key) {b : Addr} {y : V} {u : Value} (hb : H b = some (.tup (k.map kV))) (ry : RelV y u) :
 KT H (putK kvs k y) (storedH xs k b u) := by
 have e : (kvs.any fun kv => decide (kv.1 = k)) = (atKey xs k).isSome := by
  rw [ago, (r.val k).isSome_eq, Option.isSome_map]
 unfold putK storedH
 rw [e]
 by_cases q : (atKey xs k).isSome = true
 . rw [if_pos q, if_pos q]; exact r.repl k ry
 . rw [if_neg q, if_neg q]; exact Paired.snoc r ⟨rfl, hb, ry⟩
theorem KT.keeps {H H' : Hp} {kvs : List (List Key × V)} {xs : List (List Key × Addr × Value)} (r : KT H kvs xs) (ht : ∀ b ys, H b = some (.tup ys) -> H' b = some (.tup ys)) : KT H' kvs xs :=
 Paired.mapP r fun _ _ z => ⟨z.1, ht _ _ z.2.1, z.2.2⟩
section
variable {P : Program} {w : World} {H : Hp} {h : Heap} {a : Addr}
theorem ap1 {u : HO} (ok : HOk P w H h) (e : Rd H a u) : ObjOk P w H h a u := e.ok ok
theorem ach {kvs : List (Key × V)} (ok : HOk P w H h) (e : Rd H a (.dK kvs)) : kvs.length <= sizeLine /\ (a == sysModules) = false /\ ∃ vs, KV kvs vs /\ h.DictOf (ak P w) a vs :=
 show ObjOk P w H h a (.dK kvs) from ap1 ok e
theorem axz {kvs : List (Key × V)} (ok : HOk P w H h) (e : H a = some (.dK kvs)) : kvs.length <= sizeLine /\ (a == sysModules) = false /\ ∃ vs, KV kvs vs /\ h.DictOf (ak P w) a vs := ach ok (.inl e)
theorem xq {ks : List Key} (ok : HOk P w H h) (e : H a = some (.tup (ks.map kV))) : (tupleKind (ak P w)).is h ks a := by
 obtain ⟨_, its, r, o, h1, h2, n, h3⟩ := (show ObjOk P w H h a (.tup (ks.map kV)) from ok a _ e)
 exact ⟨o, its.toArray, n, h1, h2, h3, by simpa using afl r⟩
theorem adu {kvs : List (List Key × V)} (ok : HOk P w H h) (e : Rd H a (.dT kvs)) : kvs.length <= sizeLine /\ (a == sysModules) = false /\
 ∃ xs, KT H kvs xs /\ h.DictOfH (tupleKind (ak P w)) a xs := by
 obtain ⟨z, y, xs, r, o, es, ep, h1, h2, h3, h4, h5⟩ := (show ObjOk P w H h a (.dT kvs) from ap1 ok e)
 refine ⟨z, y, xs, r, o, es, ep, h1, h2, h3, h4, fun x hx => ?_, h5⟩
 have all : ∀ {l : List (List Key × V)} {m : List (List Key × Addr × Value)}, KT H l m -> ∀ x ∈ m, (tupleKind (ak P w)).is h x.1 x.2.1 := by
  intro l m q
  induction q with
  | nil => intro x hx; exact nomatch hx
  | @cons p q ps qs hq t ih =>
   intro x hx
   rcases List.mem_cons.mp hx with e | hx
   . subst e
     exact xq ok (by rw [<- hq.1]; exact hq.2.1)
   . exact ih x hx
 exact all r x hx
theorem adq {kvs : List (List Key × V)} (ok : HOk P w H h) (e : H a = some (.dT kvs)) : kvs.length <= sizeLine /\ (a == sysModules) = false /\
 ∃ xs, KT H kvs xs /\ h.DictOfH (tupleKind (ak P w)) a xs := adu ok (.inl e)
end
def DGet (H : Hp) (a : Addr) (y : V) (r : Option V) : Prop :=
 (∃ kvs k, Rd H a (.dK kvs) /\ y = kV k /\ r = n6 kvs k) \/ ∃ kvs k b, Rd H a (.dT kvs) /\ y = .ref b /\ H b = some (.tup (k.map kV)) /\ r = n6 kvs k
def DPut (H : Hp) (a : Addr) (y v : V) (H' : Hp) : Prop :=
 (∃ kvs k, H a = some (.dK kvs) /\ y = kV k /\ kvs.length < sizeLine /\ H' = upd H a (.dK (putK kvs k v))) \/
 ∃ kvs k b, H a = some (.dT kvs) /\ y = .ref b /\ H b = some (.tup (k.map kV)) /\ kvs.length < sizeLine /\ H' = upd H a (.dT (putK kvs k v))
theorem DGet.k {H : Hp} {a : Addr} {kvs : List (Key × V)} {k : Key} (e : H a = some (.dK kvs)) : DGet H a (kV k) (n6 kvs k) := .inl ⟨kvs, k, .inl e, rfl, rfl⟩
theorem DGet.t {H : Hp} {a b : Addr} {kvs : List (List Key × V)} {k : List Key} (e : H a = some (.dT kvs)) (eb : H b = some (.tup (k.map kV))) : DGet H a (.ref b) (n6 kvs k) := .inr ⟨kvs, k, b, .inl e, rfl, eb, rfl⟩
theorem DPut.k {H : Hp} {a : Addr} {kvs : List (Key × V)} {k : Key} {v : V} (e : H a = some (.dK kvs)) (hl : kvs.length < sizeLine) : DPut H a (kV k) v (upd H a (.dK (putK kvs k v))) := .inl ⟨kvs, k, e, rfl, hl, rfl⟩
theorem DPut.t {H : Hp} {a b : Addr} {kvs : List (List Key × V)} {k : List Key} {v : V} (e : H a = some (.dT kvs)) (eb : H b = some (.tup (k.map kV))) (hl : kvs.length < sizeLine) :
 DPut H a (.ref b) v (upd H a (.dT (putK kvs k v))) := .inr ⟨kvs, k, b, e, rfl, eb, hl, rfl⟩
section
variable {X : Cx} {pins : List (Addr × Obj)} {σ : St} {H : Hp} {s : Shared} {a : Addr} {y v : V} {u r : Value} {o : Option V} {A : Around} {E : Value -> Shared -> Prop}
theorem Inv.big (I : Inv X pins σ H s) : sysModules < s.heap.objs.size := by
 have h : mainGlobals < s.heap.objs.size := (I.mod.glob.keeps I.bk).lt
 exact Nat.lt_trans (by decide) h
theorem alh {Q : Value -> Shared -> Prop} (hu : A.units + 1 < cLine) (I : Inv X pins σ H s) (g : DGet H a y (some v)) (ry : RelV y u) (h : ∀ w' s', Inv X pins σ H s' -> RelV v w' -> Q w' s') :
 wpAny (model X.prog X.w) A (getItem (.ref a) u) Q E s := by
 rcases g with ⟨kvs, k, e, ey, l⟩ | ⟨kvs, k, b, e, ey, eb, l⟩
 . subst ey
   obtain ⟨z, hd, vs, rel, dd⟩ := ach I.hok e
   obtain ⟨w', hw, rw'⟩ := RelO.some_of (v := v) (o := valueAt vs k) (by rw [l]; exact rel.val k)
   exact wpAny_getItem_of (adp ry) dd.mapOf hw (h w' _ (I.tok _) rw')
 . subst ey
   cases (show u = Value.ref b from ry)
   obtain ⟨z, hd, xs, rel, dd⟩ := adu I.hok e
   obtain ⟨w', hw, rw'⟩ := RelO.some_of (v := v) (o := (atKey xs k).map (·.2)) (by rw [l]; exact rel.val k)
   obtain ⟨p, hp, hp2⟩ := Option.map_eq_some_iff.mp hw
   refine wpAny_getItem_heap (tupleKind_room_in1 hu) (xq I.hok eb) dd hp ?_
   rw [hp2]
   exact h w' _ (I.tok _) rw'
theorem av7 {Q : Value -> Shared -> Prop} (hu : A.units + 1 < cLine) (I : Inv X pins σ H s) (g : DGet H a y o) (ry : RelV y u) (h : ∀ s', Inv X pins σ H s' -> Q (.bool o.isSome) s') :
 wpAny (model X.prog X.w) A (compareOp .In u (.ref a)) Q E s := by
 rcases g with ⟨kvs, k, e, ey, l⟩ | ⟨kvs, k, b, e, ey, eb, l⟩
 . subst ey
   obtain ⟨z, hd, vs, rel, dd⟩ := ach I.hok e
   refine wpAny_in_of (adp ry) hd dd.mapOf ?_
   rw [<- (rel.val k).isSome_eq, <- l]
   exact h _ (I.tok _)
 . subst ey
   cases (show u = Value.ref b from ry)
   obtain ⟨z, hd, xs, rel, dd⟩ := adu I.hok e
   refine wpAny_in_heap (tupleKind_room_in1 hu) (xq I.hok eb) hd dd ?_
   have q := (rel.val k).isSome_eq
   rw [Option.isSome_map] at q
   rw [<- q, <- l]
   exact h _ (I.tok _)
theorem ai7 {Q : Value -> Shared -> Prop} (hu : A.units + 1 < cLine) (I : Inv X pins σ H s) (g : DGet H a y o) (ry : RelV y u) (h : ∀ s', Inv X pins σ H s' -> Q (.bool (!o.isSome)) s') :
 wpAny (model X.prog X.w) A (compareOp .NotIn u (.ref a)) Q E s := by
 rcases g with ⟨kvs, k, e, ey, l⟩ | ⟨kvs, k, b, e, ey, eb, l⟩
 . subst ey
   obtain ⟨z, hd, vs, rel, dd⟩ := ach I.hok e
   refine wpAny_notIn_of (adp ry) hd dd.mapOf ?_
   rw [<- (rel.val k).isSome_eq, <- l]
   exact h _ (I.tok _)
 . subst ey
   cases (show u = Value.ref b from ry)
   obtain ⟨z, hd, xs, rel, dd⟩ := adu I.hok e
   refine wpAny_notIn_heap (tupleKind_room_in1 hu) (xq I.hok eb) hd dd ?_
   have q := (rel.val k).isSome_eq
   rw [Option.isSome_map] at q
   rw [<- q, <- l]
   exact h _ (I.tok _)
theorem ajc {h' : Heap} {t' : Nat} {ob : HO} (I : Inv X pins σ H s) (mu : Mut (H a)) (hs : Heap.SameBut a s.heap h') (he : ∃ q, h'.get? a = some q) (new : ObjOk X.prog X.w (upd H a ob) h' a ob) :
 Inv X pins σ (upd H a ob) { s with heap := h', toks := t' } :=
 I.write (x := a) (e := a) mu (.inl rfl) (fun b q hb z => (hs.2 b hb).trans z) he new
theorem alq {P : Program} {w : World} {H' : Hp} {h' : Heap} {kvs : List (Key × V)} {vs : List (Key × Value)} (z : kvs.length <= sizeLine) (hd : (a == sysModules) = false) (rel : KV kvs vs) (dd : h'.DictOf (ak P w) a vs) :
 ObjOk P w H' h' a (.dK kvs) := ⟨z, hd, vs, rel, dd⟩
theorem af1 {H' : Hp} {Q : Unit -> Shared -> Prop} (hu : A.units + 1 < cLine) (I : Inv X pins σ H s) (g : DPut H a y v H') (ry : RelV y u) (rv : RelV v r) (h : ∀ s', Inv X pins σ H' s' -> Q () s') :
 wpAny (model X.prog X.w) A (setItem (.ref a) u r) Q E s := by
 rcases g with ⟨kvs, k, e, ey, l, eH⟩ | ⟨kvs, k, b, e, ey, eb, l, eH⟩
 . subst ey eH
   obtain ⟨z, hd, vs, rel, dd⟩ := axz I.hok e
   have hz : vs.length <= sizeLine := by rw [<- rel.length]; exact z
   have hl : (putK kvs k v).length <= sizeLine := by have := acx kvs k v; omega
   refine wpAny_setItem_pairs (hsz := hz) (adp ry) dd fun h' dd' hs => h _ ?_
   have he : ∃ q, h'.get? a = some q := let ⟨q, _, _, hq, _⟩ := dd'; ⟨q, hq⟩
   exact ajc I (by rw [e]; exact True.intro) hs he (alq hl hd (rel.put k rv) dd')
 . subst ey eH
   cases (show u = Value.ref b from ry)
   obtain ⟨z, hd, xs, rel, dd⟩ := adq I.hok e
   have hz : xs.length <= sizeLine := by rw [<- Paired.length rel]; exact z
   have hl : (putK kvs k v).length <= sizeLine := by have := acx kvs k v; omega
   refine wpAny_setItem_heap (hsz := hz) (tupleKind_room_in1 hu) (xq I.hok eb) dd fun h' dd' hs => h _ ?_
   obtain ⟨q, es, ep, hq, h2, h3, h4, _, h5⟩ := dd'
   refine ajc I (by rw [e]; exact True.intro) hs ⟨q, hq⟩ ⟨hl, hd, _, (rel.put k eb rv).keeps fun c ys ec => ?_, q, es, ep, hq, h2, h3, h4, h5⟩
   rw [au (aj9 ec e (fun z => nomatch z))]
   exact ec
end
section
variable {X : Cx} {pins : List (Addr × Obj)} {σ : St} {H : Hp} {s : Shared} {a : Addr} {kvs : List (Key × V)} {k : Key} {u : Value} {A : Around} {E : Value -> Shared -> Prop}
end
theorem aij {X : Cx} {pins : List (Addr × Obj)} {σ : St} {H : Hp} {s : Shared} {a : Addr} {y : V} {o : Option V} (I : Inv X pins σ H s) (g : DGet H a y o) : s.TypeIs (.ref a) "dict" := by
 rcases g with ⟨kvs, k, e, _, _⟩ | ⟨kvs, k, b, e, _, _, _⟩
 . obtain ⟨_, _, vs, _, dd⟩ := ach I.hok e
   exact dd.typeIs
 . obtain ⟨_, _, xs, _, dd⟩ := adu I.hok e
   exact dd.typeIs
section
variable {X : Cx} {o i e value : Expr} {pos pos' tpos : Pos} {td ty tv : TE}
end
theorem am8 {P : Program} {w : World} {H : Hp} (h : Heap) (hb : sysModules < h.objs.size) : ObjOk P w H (h.push { cls := .type "dict", data := .dict #[] }) h.objs.size (.dK []) :=
 ⟨Nat.zero_le _, beq_eq_false_iff_ne.mpr (Ne.symm (Nat.ne_of_lt hb)), [], .nil, Heap.DictOf.new h⟩
theorem apo {P : Program} {w : World} {H : Hp} (h : Heap) (hb : sysModules < h.objs.size) : ObjOk P w H (h.push { cls := .type "dict", data := .dict #[] }) h.objs.size (.dT []) :=
 ⟨Nat.zero_le _, beq_eq_false_iff_ne.mpr (Ne.symm (Nat.ne_of_lt hb)), [], .nil, _, #[], 0, Heap.get?_push_size _ rfl, ⟨rfl, rfl, rfl⟩, rfl, rfl, List.nodup_nil⟩
def avh : TE := fun _ H Q => ∀ p, H p = none -> Q (.ref p) (upd H p (.dK []))
def atm : TE := fun _ H Q => ∀ p, H p = none -> Q (.ref p) (upd H p (.dT []))
section
variable {X : Cx} {pos : Pos}
theorem am3 : PE X (.Dict [] [] pos) avh := fun pins s σ H Q I h =>
 wpAny_Dict_empty ⟨.ref s.heap.objs.size, _, I.laid (a := s.heap.objs.size) (o := .dK []) (t' := s.toks) (fun _ _ q => Heap.get?_push_of_some _ q) (Nat.le_refl _) (am8 s.heap I.big), rfl, h _ (I.hok.fresh (Nat.le_refl _))⟩
theorem ao2 : PE X (.Dict [] [] pos) atm := fun pins s σ H Q I h =>
 wpAny_Dict_empty ⟨.ref s.heap.objs.size, _, I.laid (a := s.heap.objs.size) (o := .dT []) (t' := s.toks) (fun _ _ q => Heap.get?_push_of_some _ q) (Nat.le_refl _) (apo s.heap I.big), rfl, h _ (I.hok.fresh (Nat.le_refl _))⟩
end
section
variable {X : Cx} {pins : List (Addr × Obj)} {σ : St} {H : Hp} {s : Shared} {a : Addr} {y d : V} {u r : Value} {o : Option V} {A : Around} {E : Value -> Shared -> Prop}
end
section
variable {X : Cx} {o e f : Expr} {apos cpos : Pos} {td ty tx : TE}
end
section
variable {X : Cx} {pins : List (Addr × Obj)} {σ : St} {H : Hp} {s : Shared} {a : Addr} {kvs : List (Key × V)} {A : Around} {E : Value -> Shared -> Prop}
theorem ao8 {Q : Value -> Shared -> Prop} (I : Inv X pins σ H s) (e : Rd H a (.dK kvs)) (h : ∀ p s', H p = none -> Inv X pins σ (upd H p (.dK kvs)) s' -> Q (.ref p) s') : wpAny (model X.prog X.w) A (call (.type "dict") [.ref a]) Q E s := by
 obtain ⟨z, hd, vs, rel, dd⟩ := ach I.hok e
 refine kt_call_dict hd dd (by rw [<- rel.length]; exact z) fun h' dd' hs => ?_
 refine h _ _ (I.hok.fresh (Nat.le_refl _)) (I.laid (a := s.heap.objs.size) (o := .dK kvs) (t' := s.toks) (fun b q hq => ?_) (Nat.le_refl _) (alq z (beq_eq_false_iff_ne.mpr (Ne.symm (Nat.ne_of_lt I.big))) rel dd'))
 exact (hs.2 b (Nat.ne_of_lt (Heap.lt_size hq))).trans (Heap.get?_push_of_some _ hq)
end
section
variable {X : Cx} {pins : List (Addr × Obj)} {σ : St} {H : Hp} {s : Shared} {a : Addr} {y : V} {u : Value} {A : Around} {E : Value -> Shared -> Prop}
end
end L2
namespace Att
open PySem PySem.W PySem.Calls PyProof.Rows
theorem aee {P : Params} {h : Heap} : ∀ (ns : List Int) (vs : List Value), WellAll P h vs (ns.map WData.int) -> IntsAre vs ns := by
 intro ns
 induction ns with
 | nil =>
  intro vs w
  rw [List.map_nil] at w
  cases w
  exact .nil
 | cons n ns ih =>
  intro vs w
  rw [List.map_cons] at w
  cases w with
  | cons a b =>
   cases a
   exact .cons _ _ (ih _ b)
theorem al0 {l : OpenLaw} {n : Nat} (hn : l.most = some n) {P : Params} {h : Heap} {args : List WData} {vals : List Value}
 (hpre : l.row.toRowW.claim.pre args = true) (hwl : WellAll P h vals args) :
 ∃ a vs ns, vals = [Value.ref a] /\ args = [WData.list (ns.map WData.int)] /\ h.get? a = some { cls := .type "list", data := .seq vs.toArray } /\ IntsAre vs ns /\ ns.length <= n := by
 have hsh : WShape.hasAll [] args [.list .int] = true := (pre_splitW hpre).1
 have hc : l.pre.holds [] { args := args } = true := (pre_splitW hpre).2
 obtain ⟨d, r, rfl, h1, h2⟩ := hasAllW_cons hsh
 obtain rfl := hasAllW_nil h2
 obtain ⟨xs, rfl, h3⟩ := hasW_list h1
 obtain ⟨ns, rfl⟩ := items_int h3
 have hlen : ns.length <= n := by
  unfold OpenLaw.pre at hc
  have h4 : (WTm.not (.lt (.lit (.int (n : Int))) (.len (.arg 0)))).holds [] { args := [.list (ns.map .int)] } = true := by
   have h4 := (holds_andW hc).1
   rw [hn] at h4
   exact h4
  have h5 := condW_of h4 (w_not (w_lt w_lit (w_len_list (w_arg rfl))))
  rw [List.length_map] at h5
  refine Nat.le_of_not_lt fun q => ?_
  have q' : (n : Int) < ((ns.length : Nat) : Int) := by omega
  first
   | (rw [decide_eq_true q'] at h5; exact absurd h5 (by decide))
   | (simp at h5; omega)
 cases hwl with
 | cons w1 w2 =>
  cases w2
  cases w1 with
  | list ho hall => exact ⟨_, _, ns, rfl, rfl, ho, aee ns _ hall, hlen⟩
theorem amn (l : OpenLaw) (args : List WData) : l.row.toRowW.claim.post args (.bool true) args = true :=
 postW_of (r := l.row.toRowW) (X := (true == true))
  (show WShape.has [] (.bool true) .bool = true by first | rfl | decide | simp [WShape.has, WShape.arms, WShape.armsAll])
  (show (WTm.eq .res (.lit (.bool true))).value [] { args := args, res := some (.bool true), after := args } = some (.bool (true == true)) from w_eq_bool (w_res rfl) w_lit) rfl
theorem ail {l : OpenLaw} {n : Nat} {q : Program} {loose : List Str} {XP : (Str -> Option Value) -> Heap -> Prop} {YP : World -> Heap -> Prop} {d : DefRec}
 (hn : l.most = some n) (hdf : d.params.defaults = [])
 (call : ∀ (w : World) (s₀ s₁ : Shared) (mg mb : Str -> Option Value) (fa : Addr) (o : Obj) (pm cd doc : Value) (a : Addr) (vs : List Value) (ns : List Int),
  Ground q loose [] XP w s₀ mg mb s₁.heap -> YP w s₁.heap ->
  s₁.heap.get? fa = some o -> o.data = .func (docDef d.name d.params d.body d.scope pm cd doc) -> s₁.heap.CodeRec cd d.name -> mg d.name = some (.ref fa) ->
  s₁.heap.get? a = some { cls := .type "list", data := .seq vs.toArray } -> IntsAre vs ns -> ns.length <= n -> s₁.gens = #[] ->
  codeAny (model l.prog w) callerA (.call (.ref fa) ⟨[.ref a], []⟩) (fun r s' => r = .ok (.ret (.bool true)) /\ OldK s₁.heap s'.heap /\ s'.os = s₁.os /\ AllBare s'.gens) s₁) :
 WalkO q loose XP YP l.row.toRowW d [] (fun f vs => PySem.call f vs) := by
 intro w s₀ s₁ mg mb G Y fa o pm cd doc dV kV ho hd hcd hD hmg hg args vals as hpre hlay hrd hwl hlo
 obtain rfl : dV = .none := Dflts.none hD hdf
 obtain rfl : kV = .none := Dflts.noKw hD
 obtain ⟨a, vs, ns, rfl, rfl, hobj, hints, hlen⟩ := al0 hn hpre hwl
 refine enter_call (codeAny_mono (call w s₀ s₁ mg mb fa o pm cd doc a vs ns G Y ho (fd_plain hd) hcd hmg hobj hints hlen hg) fun r s' hq => ?_)
 obtain ⟨rfl, h2, h3, h4⟩ := hq
 exact ⟨.inl ⟨.bool true, .bool true, [], rfl, fun _ => rfl, .bool true, amn l _, fun _ => ⟨List.Pairwise.nil, fun _ hm => (nomatch hm)⟩⟩, h2, h3, h4⟩
section
variable {prog : Program} {w : World} {A : Around} {E : Value -> Shared -> Prop} {s : Shared} {K : Frag}
end
end Att
namespace L2
open PySem PySem.Spec PyProof.Rows
theorem afs : ∀ {vs : List Value} {ns : List Int}, IntsAre vs ns -> Vals (ns.map V.int) vs
 | _, _, .nil => .nil
 | _, _, .cons n t h => .cons ⟨t, rfl⟩ (afs h)
def Only (H : Hp) : Prop := ∀ b, H b = none \/ ∃ o xs, H b = some (.frz o (.lst xs))
theorem aot {P : Program} {w : World} {K : Fg} {mg mb : Str -> Option Value} {CX : CXT} {k : Nat} {fa a : Addr} {fd : FuncData} {x : Str} {sp : Sp} {s₁ : Shared} {vs : List Value} {ns : List Int}
 (KX : K.In s₁.heap) (hns : s₁.heap.Ns mainGlobals mg) (hb : s₁.heap.Ns builtinsNs mb) (hbb : ∀ x : Str, x ≠ "__name__" -> mb x = bootBuiltins x) (hlim : s₁.heap.NoLimit) (hg : s₁.gens = #[])
 (ha : s₁.heap.get? a = some { cls := .type "list", data := .seq vs.toArray }) (hi : IntsAre vs ns) (hl : ns.length <= sizeLine) (hr : Room k callerA)
 (F : ∀ base : Heap, K.In base -> base.Ns mainGlobals mg -> FnOk P w K mg base CX k fa fd [x] sp) (hbind : ∀ (s : Shared) (u : Value), BindsTo s fd ⟨[u], []⟩ [(x, u)])
 (hsp : ∀ H : Hp, Only H -> SqL K H a (ns.map V.int) -> sp [.ref a] H (fun v _ => v = .bl true) fun _ _ _ => False)
 (hCX : ∀ H e s', CX [] H s₁ (fun _ _ _ => False) e s' -> False) :
 codeAny (model P w) callerA (.call (.ref fa) ⟨[.ref a], []⟩) (fun r s' => r = .ok (.ret (.bool true)) /\ OldK s₁.heap s'.heap /\ s'.os = s₁.os /\ AllBare s'.gens) s₁ := by
 have rv := afs hi
 have lenV := hi.length
 have core : ∀ H : Hp, Only H -> SqL K H a (ns.map V.int) -> HOk P w H s₁.heap -> (∀ b, H b ≠ none -> b = a) -> (H a ≠ none -> K.lookup a = none) ->
  codeAny (model P w) callerA (.call (.ref fa) ⟨[.ref a], []⟩) (fun r s' => r = .ok (.ret (.bool true)) /\ OldK s₁.heap s'.heap /\ s'.os = s₁.os /\ AllBare s'.gens) s₁ := by
  intro H hO hS hok hA hK
  have qm : ∀ {b : Addr} {o : Obj}, s₁.heap.get? b = some o -> H b = none -> (aax s₁.heap H).get? b = some o := fun e n => apm e n
  have noA : ∀ {b : Addr} {o : Obj} {es : Array DictEntry} {ep : Nat}, s₁.heap.get? b = some o -> o.data = .dict es ep -> H b = none := fun {b o es ep} e d => by
   cases q : H b with
   | none => rfl
   | some u =>
    have e' : b = a := hA b (by rw [q]; simp)
    subst e'
    rw [ha] at e; cases e
    have d' : Data.seq vs.toArray _ = Data.dict es ep := d
    cases d'
  have nsK : ∀ {b : Addr} {m : Str -> Option Value}, s₁.heap.Ns b m -> (aax s₁.heap H).Ns b m := fun {b m} ⟨o, es, ep, e, d, r⟩ => ⟨o, es, ep, qm e (noA e d), d, r⟩
  have hKb : K.In (aax s₁.heap H) := fun b o e => qm (KX b o e) (by
   cases q : H b with
   | none => rfl
   | some u =>
    have e' : b = a := hA b (by rw [q]; simp)
    subst e'
    rw [hK (by rw [q]; simp)] at e; cases e)
  have hM : Mod K mg (aax s₁.heap H) := ⟨hKb, nsK hns, ⟨mb, nsK hb, hbb⟩, let ⟨mc, h1, h2⟩ := hlim; ⟨mc, nsK h1, h2⟩⟩
  have e0 : Env0 P w K mg (aax s₁.heap H) callerA [] s₁ H := ⟨rfl, hM, fun b o e => arf e, Nat.le_of_eq (al2 _ _), trivial, fun b hb => absurd (show b ∈ ([] : List Addr) from hb) (by simp), hok, .of_eq hg⟩
  refine codeAny_mono ((F _ hKb (nsK hns)).run callerA [] s₁ H ⟨[.ref a], []⟩ [.ref a] [.ref a] _ _ hr e0 (hbind s₁ (.ref a)) (.cons rfl .nil) (hsp H hO hS)) fun r s' h => ?_
  cases r with
  | error e => exact (hCX H e s' h).elim
  | ok fl =>
   cases fl with
   | next => exact False.elim h
   | brk => exact False.elim h
   | cont => exact False.elim h
   | ret u =>
    obtain ⟨v, H', os, bare, un, hok', r', q⟩ := h
    have q' : v = .bl true := q
    subst q'
    obtain rfl : u = Value.bool true := r'
    refine ⟨rfl, OldK.of_keep fun b o e => ?_, os, bare⟩
    cases q : H b with
    | none => exact un.keep b o e q (by intro z; exact absurd (show b ∈ ([] : List Addr) from z) (by simp)) (by simp)
    | some u =>
     rcases hO b with z | ⟨ob, xs, z⟩
     . rw [q] at z; cases z
     . have z2 := un.frzs b ob _ z
       obtain ⟨e1, _⟩ := hok b _ z
       obtain ⟨e2, _⟩ := hok' b _ z2
       rw [e] at e1; cases e1
       exact e2
 cases hk : K.lookup a with
 | some o =>
  have e := KX a o hk
  rw [ha] at e
  cases e
  refine core (fun _ => none) (fun _ => .inl rfl) (.inr ⟨_, vs.toArray, _, hk, rfl, rfl, rfl, by rw [List.size_toArray, lenV]; exact hl, by simpa using rv⟩) (fun b u z => by have z' : (none : Option HO) = some u := z; cases z') (fun b z => absurd rfl z) fun z => absurd rfl z
 | none =>
  refine core (fun b => if b = a then some (.frz { cls := .type "list", data := .seq vs.toArray } (.lst (ns.map V.int))) else none) (fun b => ?_) (.inl (.inr ⟨{ cls := .type "list", data := .seq vs.toArray }, if_pos rfl⟩)) (fun b u z => ?_) (fun b z => ?_) fun _ => hk
  . by_cases hb : b = a
    . exact .inr ⟨_, _, if_pos hb⟩
    . exact .inl (if_neg hb)
  . by_cases hb : b = a
    . have z' := (if_pos hb).symm.trans z
      cases z'
      subst hb
      exact ⟨ha, by rw [List.length_map]; exact hl, vs, _, rv, ha⟩
    . have z' := (if_neg hb).symm.trans z
      cases z'
  . by_cases hb : b = a
    . exact hb
    . exact absurd (if_neg hb) z
end L2
namespace L2
open PySem PySem.Spec PyProof.Rows
theorem ase {l : PySem.W.OpenLaw} {n k : Nat} {q : Program} {loose : List Str} {XP : (Str -> Option Value) -> Heap -> Prop} {YP : World -> Heap -> Prop} {d : DefRec} {K : Params -> Fg} {CX : World -> CXT} {sp : World -> Sp} {x : Str}
 (hn : l.most = some n) (hn2 : n <= sizeLine) (hdf : d.params.defaults = []) (hr : Room k callerA)
 (hY : ∀ (w : World) (h : Heap), YP w h -> (K w.params).In h)
 (F : ∀ (w : World) (mg : Str -> Option Value) (fa : Addr) (h : Heap), (K w.params).In h -> h.Ns mainGlobals mg -> mg d.name = some (.ref fa) ->
  ∃ fd : FuncData, (∀ (s : Shared) (u : Value), BindsTo s fd ⟨[u], []⟩ [(x, u)]) /\
   ∀ base : Heap, (K w.params).In base -> base.Ns mainGlobals mg -> FnOk l.prog w (K w.params) mg base (CX w) k fa fd [x] (sp w))
 (hsp : ∀ (w : World) (H : Hp) (a : Addr) (ns : List Int), ns.length <= n -> Only H -> SqL (K w.params) H a (ns.map V.int) -> sp w [.ref a] H (fun v _ => v = .bl true) fun _ _ _ => False)
 (hCX : ∀ (w : World) (H : Hp) (s : Shared) (e : Value) (s' : Shared), CX w [] H s (fun _ _ _ => False) e s' -> False) :
 PySem.W.WalkO q loose XP YP l.row.toRowW d [] (fun f vs => PySem.call f vs) := by
 refine Att.ail hn hdf fun w s₀ s₁ mg mb fa o pm cd doc a vs ns G Y ho hd hcd hmg hobj hints hlen hg => ?_
 have KX := hY w _ Y
 obtain ⟨fd, hb, hF⟩ := F w mg fa _ KX G.T.g hmg
 exact aot KX G.T.g G.T.b G.T.builtins G.T.nolimit hg hobj hints (Nat.le_trans hlen hn2) hr hF hb (fun H hO hS => hsp w H a ns hlen hO hS) fun H e s' => hCX w H s₁ e s'
end L2
namespace L2
open PySem PySem.Spec PyProof.Rows
def inClass (s : Stmt) (j : Nat) : Stmt := match s with
 | .ClassDef _ _ _ body _ _ _ _ _ _ _ => body.getD j (.Pass ⟨0, 0, 0, 0⟩)
 | _ => .Pass ⟨0, 0, 0, 0⟩
def bz (s : Stmt) : Arguments := match s with
 | .FunctionDef _ a _ _ _ _ _ _ _ _ => a
 | _ => { posonlyargs := [], args := [], vararg := none, kwonlyargs := [], kw_defaults := [], kwarg := none, defaults := [] }
def bw (s : Stmt) : List Stmt := match s with
 | .FunctionDef _ _ b _ _ _ _ _ _ _ => b
 | _ => []
def bf (s : Stmt) : Scope := match s with
 | .FunctionDef _ _ _ _ _ _ sc _ _ _ => sc
 | _ => { kind := .function, names := [], isGenerator := false, isCoroutine := false }
abbrev CX0 : CXT := fun _ _ _ _ _ _ => False
abbrev E0 : XK := fun _ _ _ => False
theorem agb {X : Cx} : w6 CX0 X E0 := fun _ _ _ _ _ _ _ h => h.elim
structure Fun (K : Fg) (x qual : Str) (st : Stmt) (f : Addr) (fd : FuncData) : Prop where
 ex : ∃ (oc : Value) (od : Option Addr) (kV doc pm : Value) (an : Option Addr) (cdv ct : Value) (osl : Array (Option Value)),
  fd = PySem.W.fnOf x qual (bz st) (bw st) (bf st) .none kV doc pm an cdv ct /\ K.lookup f = some ⟨oc, od, .func fd, osl⟩ /\ PySem.W.codeIn K cdv qual = true
 kp : PySem.W.keepIn K (.ref f) = true
section
variable {P : Program} {w : World} {K : Fg} {mg : Str -> Option Value} {base : Heap}
theorem Fun.ok {x qual : Str} {st : Stmt} {f : Addr} {fd : FuncData} {N ps : List Str} {k : Nat} {sp : Sp} (F : Fun K x qual st f fd) (S : ab2 N ps (bf st)) (len : ∀ vs H Q E, sp vs H Q E -> vs.length = ps.length)
 (hbody : ∀ (cdv : Value) (A : Around) (outer : List Env) (s : Shared) (H : Hp) (vs : List V) (Q : VK) (E : XK), Room k (A.deeper (envOfC qual (bf st) s.heap.objs.size f cdv)) -> sp vs H Q E ->
  ∃ t, PSs (adh CX0 P w K mg base N qual (bf st) f cdv A outer s H E).nox (bw st) t /\ t { nx := fun _ H' => Q .non H', rt := Q } (start N vs) H) : FnOk P w K mg base CX0 (k + 1) f fd ps sp := by
 obtain ⟨oc, od, kV, doc, pm, an, cdv, ct, osl, rfl, lk, hcd⟩ := F.ex
 refine axw lk hcd S len fun A outer s H vs Q E hr hsp => ?_
 obtain ⟨t, h, q⟩ := hbody cdv A outer s H vs Q E hr hsp
 exact ⟨t, h.nox, q⟩
theorem Fun.binds {x qual : Str} {st : Stmt} {f : Addr} {fd : FuncData} {ps : List Str} (F : Fun K x qual st f fd)
 (h : ∀ (kV doc pm : Value) (an : Option Addr) (cdv ct : Value) (us : List Value), us.length = ps.length -> bindArgs (PySem.W.fnOf x qual (bz st) (bw st) (bf st) .none kV doc pm an cdv ct) ⟨us, []⟩ = pure (ps.zip us)) : Binds K fd ps [] := by
 obtain ⟨oc, od, kV, doc, pm, an, cdv, ct, osl, rfl, lk, hcd⟩ := F.ex
 exact .all (h kV doc pm an cdv ct)
theorem fc {x qual : Str} {st : Stmt} {f : Addr} {oc : Value} {od an : Option Addr} {osl : Array (Option Value)} {kV doc pm cdv ct : Value} (l : K.lookup f = some ⟨oc, od, .func (PySem.W.fnOf x qual (bz st) (bw st) (bf st) .none kV doc pm an cdv ct), osl⟩)
 (c : PySem.W.codeIn K cdv qual = true) (k : PySem.W.keepIn K (.ref f) = true) : Fun K x qual st f (PySem.W.fnOf x qual (bz st) (bw st) (bf st) .none kV doc pm an cdv ct) := ⟨⟨oc, od, kV, doc, pm, an, cdv, ct, osl, rfl, l, c⟩, k⟩
end
theorem af9 {A : Around} {k : Nat} (hr : Room k A) : A.units + 1 < cLine := Nat.lt_of_le_of_lt (Nat.add_le_add_left (by decide : 1 <= 64) _) hr.units
section
variable {X : Cx}
end
end L2
namespace MW
open PySem (Str)
inductive D where
 | non | bl (b : Bool) | int (i : Int) | str (s : Str) | tup (ds : List D) | vl (ds : List D) | fz (ds : List D) | ref (n : Nat)
noncomputable abbrev Kx := Sum Int Str
inductive MO where
 | lst (ds : List D) | dT (kvs : List (List Kx × D)) | dK (kvs : List (Kx × D)) | ins (c : Nat) (fs : List (Nat × D))
noncomputable abbrev Store := List MO
noncomputable abbrev Env := List (Option D)
inductive Res (α : Type) where
 | ok (a : α) (M : Store) | err (c : Nat) (M : Store) | bad
namespace Res
noncomputable def bind {α β : Type} (r : Res α) (f : α -> Store -> Res β) : Res β :=
 match r with | ok a M => f a M | err c M => err c M | bad => bad
@[simp] theorem iu {α β : Type} (a : α) (M : Store) (f : α -> Store -> Res β) : (ok a M).bind f = f a M := rfl
@[simp] theorem azl {α β : Type} (c : Nat) (M : Store) (f : α -> Store -> Res β) : (err c M : Res α).bind f = err c M := rfl
@[simp] theorem a0r {α β : Type} (f : α -> Store -> Res β) : (bad : Res α).bind f = bad := rfl
noncomputable def ofOpt {α : Type} (o : Option α) (M : Store) : Res α := match o with | some a => ok a M | none => bad
@[simp] theorem p7 {α : Type} (a : α) (M : Store) : ofOpt (some a) M = ok a M := rfl
@[simp] theorem aw0 {α : Type} (M : Store) : ofOpt (none : Option α) M = bad := rfl
end Res
inductive Op2 where | add | addL | sub | mul | fdiv | mod | pow
inductive Cp where | eq | ne | lt | le | gt | ge | is | isnot | inn | notin
inductive Blt where
 | len | tuple | list | max | min | sum | sorted | dict | all | isList | isTuple | isInt | isBool | sortset | isSeq
inductive Bm where | append | pop | index | get
inductive Tg where
 | name (i : Nat) | names (is : List Nat)
mutual
inductive Ex where
 | var (i : Nat) | cst (d : D)
 | bin (op : Op2) (a b : Ex) | neg (a : Ex)
 | cmp (op : Cp) (a b : Ex) | chain (o1 o2 : Cp) (a b c : Ex)
 | and (a b : Ex) | or (a b : Ex) | not (a : Ex) | ite (c a b : Ex)
 | tup (es : Exs) | lst (es : Exs) | vlst (es : Exs) | dicT | dicK
 | ix (a b : Ex) | cut (a : Ex) (lo hi : OEx)
 | call (f : Nat) (es : Exs) | make (c : Nat) (es : Exs) | meth (o : Ex) (m : Nat) (es : Exs) | fld (o : Ex) (f : Nat)
 | blt (b : Blt) (es : Exs) | bm (m : Bm) (o : Ex) (es : Exs)
 | comp (v : Bool) (k : Nat) (t : Tg) (it : Itr) (e : Ex) | compif (v : Bool) (k : Nat) (t : Tg) (it : Itr) (c : Ex) (e : Ex)
 | setne (a b : Ex) | rngT (e : Ex) | rngL (e : Ex)
inductive Exs where
 | nil | cons (e : Ex) (es : Exs)
inductive OEx where
 | none | some (e : Ex)
inductive Itr where
 | val (e : Ex) | rng (e : Ex) | enm (e : Ex) | zip (a b : Ex)
end
inductive Lv where
 | tg (t : Tg) | sub (o i : Ex) | fld (o : Ex) (f : Nat)
mutual
inductive Stm where
 | asg (l : Lv) (e : Ex) | expr (e : Ex) | iff (c : Ex) (a b : Stms) | whl (c : Ex) (b : Stms) | for_ (t : Tg) (it : Itr) (b : Stms)
 | ret (e : Ex) | retN | brk | cont | pass | raise (c : Nat) (es : Exs)
inductive Stms where
 | nil | cons (s : Stm) (r : Stms)
end
structure Fn where
 np : Nat
 ns : Nat
 body : Stms
structure Cl where
 init : Nat
 meths : List (Nat × Nat)
noncomputable def asList (M : Store) : D -> Option (List D)
 | .vl ds => some ds
 | .ref n => match M[n]? with | some (.lst ds) => some ds | _ => none
 | _ => none
noncomputable def cu (M : Store) : D -> Option (List D)
 | .tup ds => some ds
 | d => asList M d
noncomputable def za : D -> Option Kx
 | .int i => some (.inl i)
 | .str s => some (.inr s)
 | _ => none
noncomputable def aao : List D -> Option (List Kx)
 | [] => some []
 | d :: ds => match za d, aao ds with
  | some k, some ks => some (k :: ks)
  | _, _ => none
noncomputable def qt : D -> Option (List Kx)
 | .tup ds => aao ds
 | _ => none
noncomputable def ag7 : Kx -> D
 | .inl i => .int i
 | .inr s => .str s
noncomputable def agm (ks : List Kx) : D := .tup (ks.map ag7)
noncomputable def jc : List D -> Option (List (List Kx))
 | [] => some []
 | d :: ds => match qt d, jc ds with
  | some k, some ks => some (k :: ks)
  | _, _ => none
noncomputable def eqL (f : D -> D -> Option Bool) : List D -> List D -> Option Bool
 | [], [] => some true
 | a :: as, b :: bs => match f a b, eqL f as bs with
  | some x, some y => some (x && y)
  | _, _ => none
 | _, _ => some false
instance : DecidableEq Kx := inferInstanceAs (DecidableEq (Sum Int Str))
noncomputable def dq {κ : Type} [DecidableEq κ] (kvs : List (κ × D)) (k : κ) : Option D := (kvs.find? fun p => decide (p.1 = k)).map (·.2)
noncomputable def yc (kvs : List (List Kx × D)) : Bool := kvs.all fun p => p.1.all fun x => match x with | .inl _ => true | .inr _ => false
noncomputable def eqK (f : D -> D -> Option Bool) (kb : List (List Kx × D)) : List (List Kx × D) -> Option Bool
 | [] => some true
 | (k, v) :: r => match dq kb k with
  | none => some false
  | some y => match f v y, eqK f kb r with
   | some e, some b => some (e && b)
   | _, _ => none
noncomputable def aaz (f : D -> D -> Option Bool) (M : Store) (a b : D) : Option Bool :=
 match a, b with
 | .ref i, .ref j => match M[i]?, M[j]? with
  | some (.dT ka), some (.dT kb) => if yc ka && yc kb then (if i = j then some true else if ka.length = kb.length then eqK f kb ka else some false) else none
  | _, _ => none
 | _, _ => none
noncomputable def yl (M : Store) : D -> Bool
 | .ref n => match M[n]? with | some (.dT _) => true | _ => false
 | _ => false
noncomputable def eqD (M : Store) : Nat -> D -> D -> Option Bool
 | 0, _, _ => none
 | n + 1, a, b => match a, b with
  | .int i, .int j => some (decide (i = j))
  | .bl i, .bl j => some (i == j)
  | .str i, .str j => some (decide (i = j))
  | .non, .non => some true
  | .tup as, .tup bs => eqL (eqD M n) as bs
  | a, b => match asList M a, asList M b with
   | some as, some bs => if as.length = bs.length then eqL (eqD M n) as bs else some false
   | none, none => aaz (eqD M n) M a b
   | _, _ => none
noncomputable def dw (M : Store) (a b : D) : Option Bool := if yl M a then none else eqD M 6 a b
noncomputable def xf (M : Store) (x : D) : List D -> Option (List Bool)
 | [] => some []
 | y :: ys => match dw M y x, xf M x ys with
  | some a, some b => some (a :: b)
  | _, _ => none
noncomputable def memD (M : Store) (x : D) (ds : List D) : Option Bool := (xf M x ds).map (·.any id)
noncomputable def ae3 (M : Store) (x : D) (ds : List D) : Option Nat := (xf M x ds).bind (·.findIdx? id)
noncomputable def inL : List D -> Option (List Int)
 | [] => some []
 | .int i :: r => (inL r).map (i :: ·)
 | _ :: _ => none
noncomputable def vg (n : Nat) (i : Int) : Option Nat := if 0 <= i then (if i < n then some i.toNat else none) else if -(n : Int) <= i then some (i + n).toNat else none
noncomputable def clip (n : Nat) (d : Nat) : Option Int -> Nat
 | none => d
 | some i => if 0 <= i then min i.toNat n else (i + n).toNat
noncomputable def aa8 (ds : List D) (lo hi : Option Int) : List D := (ds.drop (clip ds.length 0 lo)).take (clip ds.length ds.length hi - clip ds.length 0 lo)
noncomputable def aos : List Int -> Option Int
 | [] => none
 | a :: r => some (r.foldl (fun m x => if m < x then x else m) a)
noncomputable def atn : List Int -> Option Int
 | [] => none
 | a :: r => some (r.foldl (fun m x => if x < m then x else m) a)
noncomputable def insI (x : Int) : List Int -> List Int
 | [] => [x]
 | y :: ys => if x < y then x :: y :: ys else y :: insI x ys
noncomputable def sortI (xs : List Int) : List Int := xs.foldr insI []
noncomputable def ahl : List Int -> List Int
 | [] => []
 | x :: xs => if x ∈ xs then ahl xs else x :: ahl xs
noncomputable def keysOf (M : Store) (d : D) : Option (List D) :=
 match d with
 | .ref n => match M[n]? with
  | some (.dT kvs) => some (kvs.map fun p => agm p.1)
  | _ => asList M d
 | _ => asList M d
noncomputable def jq {κ : Type} [DecidableEq κ] (kvs : List (κ × D)) (k : κ) (v : D) : List (κ × D) :=
 if (kvs.any fun kv => decide (kv.1 = k)) = true then kvs.map (fun kv => if kv.1 = k then (kv.1, v) else kv) else kvs ++ [(k, v)]
noncomputable def jh (xs : List (List Kx)) : Bool := decide (xs.length <= 30) && xs.all fun k => k.all fun x => match x with | .inl _ => true | .inr _ => false
noncomputable def m8 (xs ys : List (List Kx)) : Bool := xs.all (fun x => ys.any fun y => decide (y = x)) && ys.all (fun y => xs.any fun x => decide (x = y))
noncomputable def new (o : MO) (M : Store) : Res D := .ok (.ref M.length) (M ++ [o])
noncomputable def aj6 (a b : D) (M : Store) : Res D :=
 match a, b with
 | .int i, .int j => .ok (.int (i + j)) M
 | .tup xs, .tup ys => if xs.length + ys.length <= 100000 /\ xs.isEmpty = false then .ok (.tup (xs ++ ys)) M else .bad
 | x, y => match asList M x, asList M y with
  | some xs, some ys => if xs.length + ys.length <= 100000 then .ok (.vl (xs ++ ys)) M else .bad
  | _, _ => .bad
noncomputable def ags (x y : D) (M : Store) : Res D :=
 match asList M x, asList M y with
 | some xs, some ys => if xs.length + ys.length <= 100000 then new (.lst (xs ++ ys)) M else .bad
 | _, _ => .bad
noncomputable def ii {α : Type} (x y : D) (f : Int -> Int -> α) (z : α) : α := match x with | .int i => (match y with | .int j => f i j | _ => z) | _ => z
theorem ahd {α : Type} {x y : D} {f : Int -> Int -> α} {z r : α} (h : ii x y f z = r) (hz : z ≠ r) : ∃ i j, x = .int i /\ y = .int j /\ f i j = r := by
 cases x with
 | int i => cases y with
  | int j => exact ⟨i, j, rfl, rfl, h⟩
  | _ => exact absurd h hz
 | _ => exact absurd h hz
@[simp] theorem a1b {α : Type} (i j : Int) (f : Int -> Int -> α) (z : α) : ii (.int i) (.int j) f z = f i j := rfl
noncomputable def axg (a b : D) (M : Store) : Res D := ii a b (fun i j => .ok (.int (i - j)) M) .bad
noncomputable def aye (a b : D) (M : Store) : Res D := ii a b (fun i j => if (-(2 ^ 64) < i /\ i < 2 ^ 64) \/ (-(2 ^ 64) < j /\ j < 2 ^ 64) then .ok (.int (i * j)) M else .bad) .bad
noncomputable def avo (a b : D) (M : Store) : Res D := ii a b (fun i j => if 0 < j /\ j < 1073741824 then .ok (.int (i / j)) M else .bad) .bad
noncomputable def axa (a b : D) (M : Store) : Res D := ii a b (fun i j => if 0 < j then .ok (.int (i % j)) M else .bad) .bad
noncomputable def ap9 (a b : D) (M : Store) : Res D := ii a b (fun i j => if 0 <= j /\ j <= 64 /\ i.natAbs < 2 ^ 64 then .ok (.int (i ^ j.toNat)) M else .bad) .bad
noncomputable def iz (op : Op2) : D -> D -> Store -> Res D :=
 match op with
 | .add => aj6 | .addL => ags | .sub => axg | .mul => aye | .fdiv => avo | .mod => axa | .pow => ap9
noncomputable def ou (M : Store) (a b : D) : Option Bool :=
 match b with
 | .ref n => match M[n]? with
  | some (.dT kvs) => (qt a).map fun k => (dq kvs k).isSome
  | some (.dK kvs) => (za a).map fun k => (dq kvs k).isSome
  | _ => (cu M b).bind (memD M a)
 | _ => (cu M b).bind (memD M a)
noncomputable def awm : D -> D -> Option Bool
 | .non, .non => some true
 | .bl a, .bl b => some (a == b)
 | .non, _ => some false
 | _, .non => some false
 | .bl _, _ => some false
 | _, .bl _ => some false
 | _, _ => none
noncomputable def adi (f : Int -> Int -> Bool) (a b : D) : Option Bool := ii a b (fun i j => some (f i j)) none
noncomputable def ju (op : Cp) (a b : D) (M : Store) : Option Bool :=
 match op with
 | .lt => adi (fun i j => decide (i < j)) a b
 | .le => adi (fun i j => decide (i <= j)) a b
 | .gt => adi (fun i j => decide (j < i)) a b
 | .ge => adi (fun i j => decide (j <= i)) a b
 | .eq => dw M a b
 | .ne => (dw M a b).map not
 | .inn => ou M a b
 | .notin => (ou M a b).map not
 | .is => awm a b
 | .isnot => (awm a b).map not
noncomputable def dg (a b : D) (M : Store) : Option D :=
 match a with
 | .ref n => match M[n]? with
  | some (.dT kvs) => (qt b).bind (dq kvs)
  | some (.dK kvs) => (za b).bind (dq kvs)
  | _ => match asList M a, b with
   | some ds, .int i => (vg ds.length i).bind fun j => ds[j]?
   | _, _ => none
 | .fz ds => match b with
  | .int i => (vg ds.length i).bind fun j => ds[j]?
  | _ => none
 | _ => match cu M a, b with
  | some ds, .int i => (vg ds.length i).bind fun j => ds[j]?
  | _, _ => none
noncomputable def cutOp (a : D) (lo hi : Option Int) (M : Store) : Option D :=
 match a with
 | .tup ds => if clip ds.length 0 lo = 0 /\ clip ds.length ds.length hi = ds.length then none else some (.tup (aa8 ds lo hi))
 | _ => (asList M a).map fun ds => .vl (aa8 ds lo hi)
noncomputable def allB : List D -> Option Bool
 | [] => some true
 | .bl b :: r => (allB r).map (b && ·)
 | _ :: _ => none
noncomputable def isL (M : Store) : D -> Option Bool
 | .vl _ => some true
 | .fz _ => none
 | .ref n => match M[n]? with
  | some (.lst _) => some true
  | some (.dT _) => some false
  | some (.dK _) => some false
  | _ => none
 | _ => some false
noncomputable def adg (kvs : List (List Kx × D)) : Bool := kvs.all fun p => match p.1 with
 | [.inl i, .inl j] => decide (-1 <= i) && decide (i < 9) && decide (-1 <= j) && decide (j < 9)
 | _ => false
noncomputable def ad3 (M : Store) : D -> Res D
 | .ref n => match M[n]? with
  | some (.lst ds) => .ok (.int ds.length) M
  | _ => .bad
 | .fz ds => .ok (.int ds.length) M
 | .tup ds => .ok (.int ds.length) M
 | .vl ds => .ok (.int ds.length) M
 | _ => .bad
noncomputable def ajn (M : Store) : D -> Res D
 | .ref n => match M[n]? with
  | some (.dT kvs) => if adg kvs then new (.dT kvs) M else .bad
  | some (.dK kvs) => new (.dK kvs) M
  | _ => .bad
 | _ => .bad
noncomputable def isT (M : Store) : D -> Option Bool
 | .tup _ => some true
 | .fz _ => none
 | .ref n => match M[n]? with
  | some (.lst _) => some false
  | some (.dT _) => some false
  | some (.dK _) => some false
  | _ => none
 | _ => some false
noncomputable def isB : D -> Option Bool
 | .bl _ => some true
 | .fz _ => none
 | .ref _ => none
 | _ => some false
noncomputable def isS : D -> Option Bool
 | .tup _ => some true
 | .vl _ => some true
 | .fz _ => none
 | .ref _ => none
 | _ => some false
noncomputable def aun : D -> Option (List D)
 | .tup ds => some ds
 | .vl ds => some ds
 | _ => none
noncomputable def two (ds : List D) (f : Int -> Int -> Int) (g : D -> Option Int) (M : Store) : Res D :=
 match ds with
 | [a, b] => (match a, b with | .int i, .int j => .ok (.int (f i j)) M | _, _ => .bad)
 | [d] => Res.ofOpt ((g d).map D.int) M
 | _ => .bad
noncomputable def jz (ds : List D) (g : D -> Res D) : Res D :=
 match ds with
 | [d] => g d
 | _ => .bad
noncomputable def bx (b : Blt) (ds : List D) (M : Store) : Res D :=
 match b with
 | .len => jz ds (ad3 M)
 | .tuple => jz ds fun d => Res.ofOpt ((cu M d).map D.tup) M
 | .list => jz ds fun d => match cu M d with
  | some ds => new (.lst ds) M
  | none => .bad
 | .max => two ds (fun i j => if i < j then j else i) (fun d => ((asList M d).bind inL).bind aos) M
 | .min => two ds (fun i j => if j < i then j else i) (fun d => ((asList M d).bind inL).bind atn) M
 | .sum => jz ds fun d => Res.ofOpt (((cu M d).bind inL).map fun is => D.int is.sum) M
 | .sorted => jz ds fun d => Res.ofOpt (((cu M d).bind inL).map fun is => D.vl ((sortI is).map D.int)) M
 | .sortset => jz ds fun d => Res.ofOpt (((cu M d).bind inL).map fun is => D.vl ((sortI (ahl is)).map D.int)) M
 | .dict => jz ds (ajn M)
 | .all => jz ds fun d => Res.ofOpt (((asList M d).bind allB).map D.bl) M
 | .isList => jz ds fun d => Res.ofOpt ((isL M d).map D.bl) M
 | .isTuple => jz ds fun d => Res.ofOpt ((isT M d).map D.bl) M
 | .isInt => jz ds fun d => match d with
  | .int _ => .ok (.bl true) M
  | _ => .bad
 | .isBool => jz ds fun d => Res.ofOpt ((isB d).map D.bl) M
 | .isSeq => jz ds fun d => Res.ofOpt ((isS d).map D.bl) M
noncomputable def yz (m : Bm) (x : D) (M : Store) : Bool :=
 match m, x with
 | .append, .ref n => match M[n]? with | some (.lst _) => true | _ => false
 | .pop, .ref n => match M[n]? with | some (.lst _) => true | _ => false
 | .index, x => (asList M x).isSome
 | .get, .ref n => match M[n]? with | some (.dT _) => true | some (.dK _) => true | _ => false
 | _, _ => false
noncomputable def qj (m : Bm) (o : D) (ds : List D) (M : Store) : Res D :=
 match m, o, ds with
 | .append, .ref n, [d] => match M[n]? with
  | some (.lst xs) => if xs.length < 100000 then .ok .non (M.set n (.lst (xs ++ [d]))) else .bad
  | _ => .bad
 | .pop, .ref n, [.int i] => match M[n]? with
  | some (.lst xs) => match (vg xs.length i).bind fun j => (xs[j]?).map fun d => (j, d) with
   | some (j, d) => .ok d (M.set n (.lst (xs.eraseIdx j)))
   | none => .bad
  | _ => .bad
 | .index, o, [d] => Res.ofOpt (((cu M o).bind (ae3 M d)).map fun j => D.int (j : Int)) M
 | .get, .ref n, [k, d] => match M[n]? with
  | some (.dT kvs) => Res.ofOpt ((qt k).map fun q => (dq kvs q).getD d) M
  | some (.dK kvs) => Res.ofOpt ((za k).map fun q => (dq kvs q).getD d) M
  | _ => .bad
 | _, _, _ => .bad
noncomputable def setOp (o i v : D) (M : Store) : Option Store :=
 match o with
 | .ref n => match M[n]? with
  | some (.lst xs) => match i with
   | .int j => (vg xs.length j).map fun q => M.set n (.lst (xs.set q v))
   | _ => none
  | some (.dT kvs) => (qt i).bind fun k => if kvs.length < 100000 then some (M.set n (.dT (jq kvs k v))) else none
  | some (.dK kvs) => (za i).bind fun k => if kvs.length < 100000 then some (M.set n (.dK (jq kvs k v))) else none
  | _ => none
 | _ => none
noncomputable def yq (f : Nat) (v : D) : List (Nat × D) -> List (Nat × D)
 | [] => [(f, v)]
 | (g, x) :: r => if g = f then (g, v) :: r else (g, x) :: yq f v r
noncomputable def uv (o : D) (f : Nat) (M : Store) : Option D :=
 match o with
 | .ref n => match M[n]? with
  | some (.ins _ fs) => fs.lookup f
  | _ => none
 | _ => none
noncomputable def ux (o : D) (f : Nat) (v : D) (M : Store) : Option Store :=
 match o with
 | .ref n => match M[n]? with
  | some (.ins c fs) => if fs.length < 1000 then some (M.set n (.ins c (yq f v fs))) else none
  | _ => none
 | _ => none
inductive Src where
 | con (ds : List D) | live (n : Nat) (len : Nat)
noncomputable def Src.len : Src -> Nat
 | .con ds => ds.length
 | .live _ k => k
noncomputable def Src.item (s : Src) (i : Nat) (M : Store) : Option D :=
 match s with
 | .con ds => ds[i]?
 | .live n k => match M[n]? with
  | some (.lst ds) => if ds.length = k then ds[i]? else none
  | _ => none
noncomputable def Src.fin (s : Src) (M : Store) : Bool :=
 match s with
 | .con _ => true
 | .live n k => match M[n]? with
  | some (.lst ds) => ds.length == k
  | _ => false
noncomputable def srcOf (M : Store) (d : D) : Option Src :=
 match d with
 | .tup ds => some (.con ds)
 | .vl ds => some (.con ds)
 | .ref n => match M[n]? with
  | some (.lst ds) => some (.live n ds.length)
  | _ => none
 | _ => none
inductive Flow where
 | next | brk | cont | ret (d : D)
noncomputable def v8 : List Nat -> List D -> Env -> Env
 | i :: is, d :: ds, ρ => v8 is ds (ρ.set i (some d))
 | _, _, ρ => ρ
noncomputable def Tg.put (t : Tg) (d : D) (ρ : Env) : Option Env :=
 match t with
 | .name i => some (ρ.set i (some d))
 | .names is => match d with
  | .tup ds => if ds.length = is.length then some (v8 is ds ρ) else none
  | _ => none
structure Wld where
 call : Nat -> List D -> Store -> Res D
 cls : List Cl
noncomputable def iw (fin : Store -> Bool) (item : Nat -> Store -> Option D) (body : D -> Env -> Store -> Res (Flow × Env)) : Nat -> Nat -> Env -> Store -> Res (Flow × Env)
 | 0, _, ρ, M => if fin M then .ok (.next, ρ) M else .bad
 | k + 1, i, ρ, M => match item i M with
  | none => .bad
  | some d => (body d ρ M).bind fun r M1 => match r.1 with
   | .next => iw fin item body k (i + 1) r.2 M1
   | .cont => iw fin item body k (i + 1) r.2 M1
   | .brk => .ok (.next, r.2) M1
   | .ret v => .ok (.ret v, r.2) M1
noncomputable def jb (fin : Store -> Bool) (item : Nat -> Store -> Option D) (body : D -> Store -> Res (Option D)) : Nat -> Nat -> Store -> Res (List D)
 | 0, _, M => if fin M then .ok [] M else .bad
 | k + 1, i, M => match item i M with
  | none => .bad
  | some d => (body d M).bind fun o M1 => (jb fin item body k (i + 1) M1).bind fun ds M2 => .ok (match o with | some x => x :: ds | none => ds) M2
noncomputable def di (s : Src) (body : D -> Store -> Res (Option D)) (M : Store) : Res (List D) := if s.len <= 100000 then jb s.fin s.item body s.len 0 M else .bad
noncomputable def jo (c : Env -> Store -> Res D) (body : Env -> Store -> Res (Flow × Env)) : Nat -> Env -> Store -> Res (Flow × Env)
 | 0, _, _ => .bad
 | k + 1, ρ, M => (c ρ M).bind fun b M1 => match b with
  | .bl false => .ok (.next, ρ) M1
  | .bl true => (body ρ M1).bind fun r M2 => match r.1 with
   | .next => jo c body k r.2 M2
   | .cont => jo c body k r.2 M2
   | .brk => .ok (.next, r.2) M2
   | .ret v => .ok (.ret v, r.2) M2
  | _ => .bad
noncomputable def ae6 : Nat := 1000000
noncomputable def gq (ds : List D) : Nat -> List D := fun n => (ds.zipIdx n).map fun p => D.tup [.int p.2, p.1]
mutual
noncomputable def Ex.den (W : Wld) : Ex -> Env -> Store -> Res D
 | .var i, ρ, M => match ρ[i]? with
  | some (some d) => .ok d M
  | _ => .bad
 | .cst d, _, M => .ok d M
 | .bin op a b, ρ, M => (a.den W ρ M).bind fun x M1 => (b.den W ρ M1).bind fun y M2 => iz op x y M2
 | .neg a, ρ, M => (a.den W ρ M).bind fun x M1 => match x with | .int i => .ok (.int (-i)) M1 | _ => .bad
 | .cmp op a b, ρ, M => (a.den W ρ M).bind fun x M1 => (b.den W ρ M1).bind fun y M2 => Res.ofOpt ((ju op x y M2).map D.bl) M2
 | .chain o1 o2 a b c, ρ, M => (a.den W ρ M).bind fun x M1 => (b.den W ρ M1).bind fun y M2 => (Res.ofOpt (ju o1 x y M2) M2).bind fun q M2 => if q then (c.den W ρ M2).bind fun z M3 => Res.ofOpt ((ju o2 y z M3).map D.bl) M3 else .ok (.bl false) M2
 | .and a b, ρ, M => (a.den W ρ M).bind fun x M1 => match x with | .bl true => b.den W ρ M1 | .bl false => .ok (.bl false) M1 | _ => .bad
 | .or a b, ρ, M => (a.den W ρ M).bind fun x M1 => match x with | .bl true => .ok (.bl true) M1 | .bl false => b.den W ρ M1 | _ => .bad
 | .not a, ρ, M => (a.den W ρ M).bind fun x M1 => match x with | .bl b => .ok (.bl !b) M1 | _ => .bad
 | .ite c a b, ρ, M => (c.den W ρ M).bind fun x M1 => match x with | .bl true => a.den W ρ M1 | .bl false => b.den W ρ M1 | _ => .bad
 | .tup es, ρ, M => (es.den W ρ M).bind fun ds M1 => .ok (.tup ds) M1
 | .lst es, ρ, M => (es.den W ρ M).bind fun ds M1 => new (.lst ds) M1
 | .vlst es, ρ, M => (es.den W ρ M).bind fun ds M1 => .ok (.vl ds) M1
 | .dicT, _, M => new (.dT []) M
 | .dicK, _, M => new (.dK []) M
 | .ix a b, ρ, M => (a.den W ρ M).bind fun x M1 => (b.den W ρ M1).bind fun y M2 => Res.ofOpt (dg x y M2) M2
 | .cut a lo hi, ρ, M => (a.den W ρ M).bind fun x M1 => (lo.den W ρ M1).bind fun l M2 => (hi.den W ρ M2).bind fun h M3 => Res.ofOpt (cutOp x l h M3) M3
 | .call f es, ρ, M => (es.den W ρ M).bind fun ds M1 => W.call f ds M1
 | .make c es, ρ, M => (es.den W ρ M).bind fun ds M1 => match W.cls[c]? with
  | some C => (W.call C.init (.ref M1.length :: ds) (M1 ++ [.ins c []])).bind fun r M2 => match r with | .non => .ok (.ref M1.length) M2 | _ => .bad
  | none => .bad
 | .meth o m es, ρ, M => (o.den W ρ M).bind fun x M1 => (es.den W ρ M1).bind fun ds M2 => match x with
  | .ref n => match M1[n]? with
   | some (.ins c _) => match (W.cls[c]?).bind fun C => C.meths.lookup m with
    | some f => W.call f (.ref n :: ds) M2
    | none => .bad
   | _ => .bad
  | _ => .bad
 | .fld o f, ρ, M => (o.den W ρ M).bind fun x M1 => Res.ofOpt (uv x f M1) M1
 | .blt b es, ρ, M => (es.den W ρ M).bind fun ds M1 => bx b ds M1
 | .bm m o es, ρ, M => (o.den W ρ M).bind fun x M1 => if yz m x M1 then (es.den W ρ M1).bind fun ds M2 => qj m x ds M2 else .bad
 | .comp v k t it e, ρ, M => (it.den W ρ M).bind fun s M1 =>
  (di s (fun d M => match t.put d (ρ ++ List.replicate k none) with
   | some ρ' => (e.den W ρ' M).bind fun x M' => .ok (some x) M'
   | none => .bad) M1).bind fun ds M2 => if v then .ok (.vl ds) M2 else new (.lst ds) M2
 | .compif v k t it c e, ρ, M => (it.den W ρ M).bind fun s M1 =>
  (di s (fun d M => match t.put d (ρ ++ List.replicate k none) with
   | some ρ' => (c.den W ρ' M).bind fun b M' => match b with
    | .bl true => (e.den W ρ' M').bind fun x M'' => .ok (some x) M''
    | .bl false => .ok none M'
    | _ => .bad
   | none => .bad) M1).bind fun ds M2 => if v then .ok (.vl ds) M2 else new (.lst ds) M2
 | .setne a b, ρ, M => (a.den W ρ M).bind fun x M1 =>
  match (keysOf M1 x).bind jc with
  | some xs => if jh xs then (b.den W ρ M1).bind fun y M2 =>
   match (keysOf M2 y).bind jc with
   | some ys => if jh ys then .ok (.bl !m8 xs ys) M2 else .bad
   | none => .bad
   else .bad
  | none => .bad
 | .rngT e, ρ, M => (e.den W ρ M).bind fun x M1 => match x with
  | .int i => if i.natAbs <= 100000 then .ok (.tup ((List.range i.toNat).map fun (k : Nat) => D.int (k : Int))) M1 else .bad
  | _ => .bad
 | .rngL e, ρ, M => (e.den W ρ M).bind fun x M1 => match x with
  | .int i => if i.natAbs <= 100000 then new (.lst ((List.range i.toNat).map fun (k : Nat) => D.int (k : Int))) M1 else .bad
  | _ => .bad
noncomputable def Exs.den (W : Wld) : Exs -> Env -> Store -> Res (List D)
 | .nil, _, M => .ok [] M
 | .cons e es, ρ, M => (e.den W ρ M).bind fun x M1 => (es.den W ρ M1).bind fun xs M2 => .ok (x :: xs) M2
noncomputable def OEx.den (W : Wld) : OEx -> Env -> Store -> Res (Option Int)
 | .none, _, M => .ok none M
 | .some e, ρ, M => (e.den W ρ M).bind fun x M1 => match x with | .int i => .ok (some i) M1 | _ => .bad
noncomputable def Itr.den (W : Wld) : Itr -> Env -> Store -> Res Src
 | .val e, ρ, M => (e.den W ρ M).bind fun x M1 => Res.ofOpt (srcOf M1 x) M1
 | .rng e, ρ, M => (e.den W ρ M).bind fun x M1 => match x with
  | .int i => if i.natAbs <= 100000 then .ok (.con ((List.range i.toNat).map fun (k : Nat) => D.int (k : Int))) M1 else .bad
  | _ => .bad
 | .enm e, ρ, M => (e.den W ρ M).bind fun x M1 => match x with
  | .tup ds => .ok (.con (gq ds 0)) M1
  | .vl ds => .ok (.con (gq ds 0)) M1
  | _ => .bad
 | .zip a b, ρ, M => (a.den W ρ M).bind fun x M1 => (b.den W ρ M1).bind fun y M2 => (Res.ofOpt (aun x) M2).bind fun ds M2 => (Res.ofOpt (aun y) M2).bind fun es M2 => .ok (.con ((ds.zip es).map fun p => D.tup [p.1, p.2])) M2
end
noncomputable def Lv.put (W : Wld) (l : Lv) (d : D) (ρ : Env) (M : Store) : Res Env :=
 match l with
 | .tg t => Res.ofOpt (t.put d ρ) M
 | .sub o i => (o.den W ρ M).bind fun x M1 => (i.den W ρ M1).bind fun y M2 => (Res.ofOpt (setOp x y d M2) M2).bind fun M3 _ => .ok ρ M3
 | .fld o f => (o.den W ρ M).bind fun x M1 => (Res.ofOpt (ux x f d M1) M1).bind fun M2 _ => .ok ρ M2
mutual
noncomputable def Stm.den (W : Wld) : Stm -> Env -> Store -> Res (Flow × Env)
 | .asg l e, ρ, M => (e.den W ρ M).bind fun x M1 => (l.put W x ρ M1).bind fun ρ' M2 => .ok (.next, ρ') M2
 | .expr e, ρ, M => (e.den W ρ M).bind fun _ M1 => .ok (.next, ρ) M1
 | .iff c a b, ρ, M => (c.den W ρ M).bind fun x M1 => match x with | .bl true => a.den W ρ M1 | .bl false => b.den W ρ M1 | _ => .bad
 | .whl c b, ρ, M => jo (c.den W) (b.den W) ae6 ρ M
 | .for_ t it b, ρ, M => (it.den W ρ M).bind fun s M1 => iw s.fin s.item (fun d ρ M => match t.put d ρ with
  | some ρ' => b.den W ρ' M
  | none => .bad) s.len 0 ρ M1
 | .ret e, ρ, M => (e.den W ρ M).bind fun x M1 => .ok (.ret x, ρ) M1
 | .retN, ρ, M => .ok (.ret .non, ρ) M
 | .brk, ρ, M => .ok (.brk, ρ) M
 | .cont, ρ, M => .ok (.cont, ρ) M
 | .pass, ρ, M => .ok (.next, ρ) M
 | .raise c es, ρ, M => (es.den W ρ M).bind fun _ M1 => .err c M1
noncomputable def Stms.den (W : Wld) : Stms -> Env -> Store -> Res (Flow × Env)
 | .nil, ρ, M => .ok (.next, ρ) M
 | .cons s r, ρ, M => (s.den W ρ M).bind fun p M1 => match p.1 with
  | .next => r.den W p.2 M1
  | .brk => .ok (.brk, p.2) M1
  | .cont => .ok (.cont, p.2) M1
  | .ret d => .ok (.ret d, p.2) M1
end
structure Prog where
 fns : List Fn
 cls : List Cl
noncomputable def Fn.run (W : Wld) (f : Fn) (ds : List D) (M : Store) : Res D :=
 if ds.length = f.np then
  (f.body.den W (ds.map some ++ List.replicate (f.ns - f.np) none) M).bind fun p M1 => match p.1 with
   | .ret d => .ok d M1
   | .next => .ok .non M1
   | _ => .bad
 else .bad
noncomputable def Prog.call (P : Prog) : Nat -> Nat -> List D -> Store -> Res D
 | 0, _, _, _ => .bad
 | n + 1, f, ds, M => match P.fns[f]? with
  | some F => F.run ⟨P.call n, P.cls⟩ ds M
  | none => .bad
section
variable {W : Wld} {ρ : Env} {M : Store}
@[simp] theorem ai4 (i : Nat) : (Ex.var i).den W ρ M = match ρ[i]? with | some (some d) => .ok d M | _ => .bad := rfl
@[simp high] theorem a1j (d : D) (r : Env) : (Ex.var 0).den W (some d :: r) M = .ok d M := rfl
@[simp high] theorem a1h (a0 : Option D) (d : D) (r : Env) : (Ex.var 1).den W (a0 :: some d :: r) M = .ok d M := rfl
@[simp high] theorem a1e (a0 a1 : Option D) (d : D) (r : Env) : (Ex.var 2).den W (a0 :: a1 :: some d :: r) M = .ok d M := rfl
@[simp high] theorem a1c (a0 a1 a2 : Option D) (d : D) (r : Env) : (Ex.var 3).den W (a0 :: a1 :: a2 :: some d :: r) M = .ok d M := rfl
@[simp high] theorem a1d (a0 a1 a2 a3 : Option D) (d : D) (r : Env) : (Ex.var 4).den W (a0 :: a1 :: a2 :: a3 :: some d :: r) M = .ok d M := rfl
@[simp high] theorem a1m (a0 a1 a2 a3 a4 : Option D) (d : D) (r : Env) : (Ex.var 5).den W (a0 :: a1 :: a2 :: a3 :: a4 :: some d :: r) M = .ok d M := rfl
@[simp high] theorem a1g (a0 a1 a2 a3 a4 a5 : Option D) (d : D) (r : Env) : (Ex.var 6).den W (a0 :: a1 :: a2 :: a3 :: a4 :: a5 :: some d :: r) M = .ok d M := rfl
@[simp high] theorem a1a (a0 a1 a2 a3 a4 a5 a6 : Option D) (d : D) (r : Env) : (Ex.var 7).den W (a0 :: a1 :: a2 :: a3 :: a4 :: a5 :: a6 :: some d :: r) M = .ok d M := rfl
@[simp high] theorem a1k (a0 a1 a2 a3 a4 a5 a6 a7 : Option D) (d : D) (r : Env) : (Ex.var 8).den W (a0 :: a1 :: a2 :: a3 :: a4 :: a5 :: a6 :: a7 :: some d :: r) M = .ok d M := rfl
@[simp high] theorem a1i (a0 a1 a2 a3 a4 a5 a6 a7 a8 : Option D) (d : D) (r : Env) : (Ex.var 9).den W (a0 :: a1 :: a2 :: a3 :: a4 :: a5 :: a6 :: a7 :: a8 :: some d :: r) M = .ok d M := rfl
@[simp high] theorem a01 (a0 a1 a2 a3 a4 a5 a6 a7 a8 a9 : Option D) (d : D) (r : Env) : (Ex.var 10).den W (a0 :: a1 :: a2 :: a3 :: a4 :: a5 :: a6 :: a7 :: a8 :: a9 :: some d :: r) M = .ok d M := rfl
@[simp high] theorem a0v (a0 a1 a2 a3 a4 a5 a6 a7 a8 a9 a10 : Option D) (d : D) (r : Env) : (Ex.var 11).den W (a0 :: a1 :: a2 :: a3 :: a4 :: a5 :: a6 :: a7 :: a8 :: a9 :: a10 :: some d :: r) M = .ok d M := rfl
@[simp high] theorem a0x (a0 a1 a2 a3 a4 a5 a6 a7 a8 a9 a10 a11 : Option D) (d : D) (r : Env) : (Ex.var 12).den W (a0 :: a1 :: a2 :: a3 :: a4 :: a5 :: a6 :: a7 :: a8 :: a9 :: a10 :: a11 :: some d :: r) M = .ok d M := rfl
@[simp] theorem u5 (d : D) : (Ex.cst d).den W ρ M = .ok d M := rfl
@[simp] theorem aqe (op : Op2) (a b : Ex) : (Ex.bin op a b).den W ρ M = (a.den W ρ M).bind fun x M1 => (b.den W ρ M1).bind fun y M2 => iz op x y M2 := rfl
@[simp] theorem as6 (a : Ex) : (Ex.neg a).den W ρ M = (a.den W ρ M).bind fun x M1 => match x with | .int i => .ok (.int (-i)) M1 | _ => .bad := rfl
@[simp] theorem ate (op : Cp) (a b : Ex) : (Ex.cmp op a b).den W ρ M = (a.den W ρ M).bind fun x M1 => (b.den W ρ M1).bind fun y M2 => Res.ofOpt ((ju op x y M2).map D.bl) M2 := rfl
@[simp] theorem amt (o1 o2 : Cp) (a b c : Ex) : (Ex.chain o1 o2 a b c).den W ρ M = (a.den W ρ M).bind fun x M1 => (b.den W ρ M1).bind fun y M2 => (Res.ofOpt (ju o1 x y M2) M2).bind fun q M2 => if q then (c.den W ρ M2).bind fun z M3 => Res.ofOpt ((ju o2 y z M3).map D.bl) M3 else .ok (.bl false) M2 := rfl
theorem ai2 (a b : Ex) : (Ex.and a b).den W ρ M = (a.den W ρ M).bind fun x M1 => match x with | .bl true => b.den W ρ M1 | .bl false => .ok (.bl false) M1 | _ => .bad := rfl
theorem ama (a b : Ex) : (Ex.or a b).den W ρ M = (a.den W ρ M).bind fun x M1 => match x with | .bl true => .ok (.bl true) M1 | .bl false => b.den W ρ M1 | _ => .bad := rfl
@[simp] theorem ajk (a : Ex) : (Ex.not a).den W ρ M = (a.den W ρ M).bind fun x M1 => match x with | .bl b => .ok (.bl !b) M1 | _ => .bad := rfl
theorem as3 (c a b : Ex) : (Ex.ite c a b).den W ρ M = (c.den W ρ M).bind fun x M1 => match x with | .bl true => a.den W ρ M1 | .bl false => b.den W ρ M1 | _ => .bad := rfl
@[simp] theorem aqn (es : Exs) : (Ex.tup es).den W ρ M = (es.den W ρ M).bind fun ds M1 => .ok (.tup ds) M1 := rfl
@[simp] theorem asa (es : Exs) : (Ex.lst es).den W ρ M = (es.den W ρ M).bind fun ds M1 => new (.lst ds) M1 := rfl
@[simp] theorem aof (es : Exs) : (Ex.vlst es).den W ρ M = (es.den W ρ M).bind fun ds M1 => .ok (.vl ds) M1 := rfl
@[simp] theorem aop : Ex.dicT.den W ρ M = new (.dT []) M := rfl
@[simp] theorem apc : Ex.dicK.den W ρ M = new (.dK []) M := rfl
@[simp] theorem av9 (a b : Ex) : (Ex.ix a b).den W ρ M = (a.den W ρ M).bind fun x M1 => (b.den W ρ M1).bind fun y M2 => Res.ofOpt (dg x y M2) M2 := rfl
@[simp] theorem ars (a : Ex) (lo hi : OEx) : (Ex.cut a lo hi).den W ρ M = (a.den W ρ M).bind fun x M1 => (lo.den W ρ M1).bind fun l M2 => (hi.den W ρ M2).bind fun h M3 => Res.ofOpt (cutOp x l h M3) M3 := rfl
@[simp] theorem am4 (f : Nat) (es : Exs) : (Ex.call f es).den W ρ M = (es.den W ρ M).bind fun ds M1 => W.call f ds M1 := rfl
@[simp] theorem apf (c : Nat) (es : Exs) : (Ex.make c es).den W ρ M = (es.den W ρ M).bind fun ds M1 => match W.cls[c]? with
 | some C => (W.call C.init (.ref M1.length :: ds) (M1 ++ [.ins c []])).bind fun r M2 => match r with | .non => .ok (.ref M1.length) M2 | _ => .bad
 | none => .bad := rfl
@[simp] theorem km (o : Ex) (m : Nat) (es : Exs) : (Ex.meth o m es).den W ρ M = (o.den W ρ M).bind fun x M1 => (es.den W ρ M1).bind fun ds M2 => match x with
 | .ref n => match M1[n]? with
  | some (.ins c _) => match (W.cls[c]?).bind fun C => C.meths.lookup m with
   | some f => W.call f (.ref n :: ds) M2
   | none => .bad
  | _ => .bad
 | _ => .bad := rfl
@[simp] theorem arn (o : Ex) (f : Nat) : (Ex.fld o f).den W ρ M = (o.den W ρ M).bind fun x M1 => Res.ofOpt (uv x f M1) M1 := rfl
@[simp] theorem aiq (b : Blt) (es : Exs) : (Ex.blt b es).den W ρ M = (es.den W ρ M).bind fun ds M1 => bx b ds M1 := rfl
@[simp] theorem avy (m : Bm) (o : Ex) (es : Exs) : (Ex.bm m o es).den W ρ M = (o.den W ρ M).bind fun x M1 => if yz m x M1 then (es.den W ρ M1).bind fun ds M2 => qj m x ds M2 else .bad := rfl
@[simp] theorem aol (e : Ex) : (Ex.rngT e).den W ρ M = (e.den W ρ M).bind fun x M1 => match x with
 | .int i => if i.natAbs <= 100000 then .ok (.tup ((List.range i.toNat).map fun (k : Nat) => D.int (k : Int))) M1 else .bad
 | _ => .bad := rfl
@[simp] theorem az5 (e : Ex) : (Ex.rngL e).den W ρ M = (e.den W ρ M).bind fun x M1 => match x with
 | .int i => if i.natAbs <= 100000 then new (.lst ((List.range i.toNat).map fun (k : Nat) => D.int (k : Int))) M1 else .bad
 | _ => .bad := rfl
theorem wy (v : Bool) (k : Nat) (t : Tg) (it : Itr) (e : Ex) : (Ex.comp v k t it e).den W ρ M = (it.den W ρ M).bind fun s M1 =>
 (di s (fun d M => match t.put d (ρ ++ List.replicate k none) with
  | some ρ' => (e.den W ρ' M).bind fun x M' => .ok (some x) M'
  | none => .bad) M1).bind fun ds M2 => if v then .ok (.vl ds) M2 else new (.lst ds) M2 := rfl
theorem ado (v : Bool) (k : Nat) (t : Tg) (it : Itr) (c e : Ex) : (Ex.compif v k t it c e).den W ρ M = (it.den W ρ M).bind fun s M1 =>
 (di s (fun d M => match t.put d (ρ ++ List.replicate k none) with
  | some ρ' => (c.den W ρ' M).bind fun b M' => match b with
   | .bl true => (e.den W ρ' M').bind fun x M'' => .ok (some x) M''
   | .bl false => .ok none M'
   | _ => .bad
  | none => .bad) M1).bind fun ds M2 => if v then .ok (.vl ds) M2 else new (.lst ds) M2 := rfl
@[simp] theorem aan : Exs.nil.den W ρ M = .ok [] M := rfl
@[simp] theorem su (e : Ex) (es : Exs) : (Exs.cons e es).den W ρ M = (e.den W ρ M).bind fun x M1 => (es.den W ρ M1).bind fun xs M2 => .ok (x :: xs) M2 := rfl
@[simp] theorem ak3 : OEx.none.den W ρ M = .ok none M := rfl
@[simp] theorem aln (e : Ex) : (OEx.some e).den W ρ M = (e.den W ρ M).bind fun x M1 => match x with | .int i => .ok (some i) M1 | _ => .bad := rfl
@[simp] theorem uz (e : Ex) : (Itr.val e).den W ρ M = (e.den W ρ M).bind fun x M1 => Res.ofOpt (srcOf M1 x) M1 := rfl
@[simp] theorem ab9 (e : Ex) : (Itr.rng e).den W ρ M = (e.den W ρ M).bind fun x M1 => match x with
 | .int i => if i.natAbs <= 100000 then .ok (.con ((List.range i.toNat).map fun (k : Nat) => D.int (k : Int))) M1 else .bad
 | _ => .bad := rfl
@[simp] theorem aep (e : Ex) : (Itr.enm e).den W ρ M = (e.den W ρ M).bind fun x M1 => match x with
 | .tup ds => .ok (.con (gq ds 0)) M1
 | .vl ds => .ok (.con (gq ds 0)) M1
 | _ => .bad := rfl
@[simp] theorem ad1 (l : Lv) (e : Ex) : (Stm.asg l e).den W ρ M = (e.den W ρ M).bind fun x M1 => (l.put W x ρ M1).bind fun ρ' M2 => .ok (.next, ρ') M2 := rfl
@[simp] theorem as9 (e : Ex) : (Stm.expr e).den W ρ M = (e.den W ρ M).bind fun _ M1 => .ok (.next, ρ) M1 := rfl
theorem au3 (c : Ex) (a b : Stms) : (Stm.iff c a b).den W ρ M = (c.den W ρ M).bind fun x M1 => match x with | .bl true => a.den W ρ M1 | .bl false => b.den W ρ M1 | _ => .bad := rfl
@[simp] theorem awb (e : Ex) : (Stm.ret e).den W ρ M = (e.den W ρ M).bind fun x M1 => .ok (.ret x, ρ) M1 := rfl
@[simp] theorem aqw : Stm.retN.den W ρ M = .ok (.ret .non, ρ) M := rfl
@[simp] theorem auf : Stm.brk.den W ρ M = .ok (.brk, ρ) M := rfl
@[simp] theorem ard : Stm.cont.den W ρ M = .ok (.cont, ρ) M := rfl
@[simp] theorem ath : Stm.pass.den W ρ M = .ok (.next, ρ) M := rfl
@[simp] theorem am1 (c : Nat) (es : Exs) : (Stm.raise c es).den W ρ M = (es.den W ρ M).bind fun _ M1 => .err c M1 := rfl
theorem agq (c : Ex) (b : Stms) : (Stm.whl c b).den W ρ M = jo (c.den W) (b.den W) ae6 ρ M := rfl
theorem aaa (t : Tg) (it : Itr) (b : Stms) : (Stm.for_ t it b).den W ρ M = (it.den W ρ M).bind fun s M1 => iw s.fin s.item (fun d ρ M => match t.put d ρ with
 | some ρ' => b.den W ρ' M
 | none => .bad) s.len 0 ρ M1 := rfl
@[simp] theorem asm : Stms.nil.den W ρ M = .ok (.next, ρ) M := rfl
theorem aou (s : Stm) (r : Stms) : (Stms.cons s r).den W ρ M = (s.den W ρ M).bind fun p M1 => match p.1 with
 | .next => r.den W p.2 M1
 | .brk => .ok (.brk, p.2) M1
 | .cont => .ok (.cont, p.2) M1
 | .ret d => .ok (.ret d, p.2) M1 := rfl
noncomputable def afd (W : Wld) (r : Stms) (x : Res (Flow × Env)) : Res (Flow × Env) := x.bind fun p M1 => match p.1 with
 | .next => r.den W p.2 M1
 | .brk => .ok (.brk, p.2) M1
 | .cont => .ok (.cont, p.2) M1
 | .ret d => .ok (.ret d, p.2) M1
@[simp] theorem a02 (s : Stm) (r : Stms) : (Stms.cons s r).den W ρ M = afd W r (s.den W ρ M) := rfl
@[simp] theorem azw (r : Stms) : afd W r (.ok (.next, ρ) M) = r.den W ρ M := rfl
@[simp] theorem a00 (r : Stms) : afd W r (.ok (.brk, ρ) M) = .ok (.brk, ρ) M := rfl
@[simp] theorem azk (r : Stms) : afd W r (.ok (.cont, ρ) M) = .ok (.cont, ρ) M := rfl
@[simp] theorem a0w (r : Stms) (d : D) : afd W r (.ok (.ret d, ρ) M) = .ok (.ret d, ρ) M := rfl
@[simp] theorem a0y (r : Stms) (c : Nat) : afd W r (.err c M) = .err c M := rfl
noncomputable def ifK {α : Type} (a b : Store -> Res α) (x : Res D) : Res α := x.bind fun x M1 => match x with | .bl true => a M1 | .bl false => b M1 | _ => .bad
@[simp] theorem ayi (c : Ex) (a b : Stms) : (Stm.iff c a b).den W ρ M = ifK (a.den W ρ) (b.den W ρ) (c.den W ρ M) := rfl
@[simp] theorem a08 (c a b : Ex) : (Ex.ite c a b).den W ρ M = ifK (a.den W ρ) (b.den W ρ) (c.den W ρ M) := rfl
@[simp] theorem a1f (a b : Ex) : (Ex.and a b).den W ρ M = ifK (b.den W ρ) (.ok (.bl false)) (a.den W ρ M) := rfl
@[simp] theorem a1s (a b : Ex) : (Ex.or a b).den W ρ M = ifK (.ok (.bl true)) (b.den W ρ) (a.den W ρ M) := rfl
@[simp] theorem a1r {α : Type} (a b : Store -> Res α) : ifK a b (.ok (.bl true) M) = a M := rfl
@[simp] theorem a1v {α : Type} (a b : Store -> Res α) : ifK a b (.ok (.bl false) M) = b M := rfl
@[simp] theorem a1o {α : Type} (a b : Store -> Res α) (c : Nat) : ifK a b (.err c M) = .err c M := rfl
theorem afn (a b : Ex) : (Ex.setne a b).den W ρ M = (a.den W ρ M).bind fun x M1 =>
 match (keysOf M1 x).bind jc with
 | some xs => if jh xs then (b.den W ρ M1).bind fun y M2 =>
  match (keysOf M2 y).bind jc with
  | some ys => if jh ys then .ok (.bl !m8 xs ys) M2 else .bad
  | none => .bad
  else .bad
 | none => .bad := rfl
@[simp] theorem amd (t : Tg) (d : D) : (Lv.tg t).put W d ρ M = Res.ofOpt (t.put d ρ) M := rfl
@[simp] theorem asj (o i : Ex) (d : D) : (Lv.sub o i).put W d ρ M = (o.den W ρ M).bind fun x M1 => (i.den W ρ M1).bind fun y M2 => (Res.ofOpt (setOp x y d M2) M2).bind fun M3 _ => .ok ρ M3 := rfl
@[simp] theorem ata (o : Ex) (f : Nat) (d : D) : (Lv.fld o f).put W d ρ M = (o.den W ρ M).bind fun x M1 => (Res.ofOpt (ux x f d M1) M1).bind fun M2 _ => .ok ρ M2 := rfl
@[simp] theorem ayb (i : Nat) (d : D) : (Tg.name i).put d ρ = some (ρ.set i (some d)) := rfl
@[simp] theorem aww (is : List Nat) (ds : List D) (h : ds.length = is.length) : (Tg.names is).put (.tup ds) ρ = some (v8 is ds ρ) := by simp [Tg.put, h]
@[simp] theorem awx (i : Nat) (is : List Nat) (d : D) (ds : List D) : v8 (i :: is) (d :: ds) ρ = v8 is ds (ρ.set i (some d)) := rfl
@[simp] theorem axx (ds : List D) : v8 [] ds ρ = ρ := by cases ds <;> rfl
@[simp] theorem a0t (i j : Int) : iz .add (.int i) (.int j) M = .ok (.int (i + j)) M := rfl
@[simp] theorem az9 (i j : Int) : iz .sub (.int i) (.int j) M = .ok (.int (i - j)) M := rfl
theorem vf (i j : Int) (h : (-(2 ^ 64) < i /\ i < 2 ^ 64) \/ (-(2 ^ 64) < j /\ j < 2 ^ 64)) : iz .mul (.int i) (.int j) M = .ok (.int (i * j)) M := if_pos h
theorem af3 (i j : Int) (h : 0 < j) (h2 : j < 1073741824) : iz .fdiv (.int i) (.int j) M = .ok (.int (i / j)) M := if_pos ⟨h, h2⟩
@[simp] theorem a0h (i j : Int) (h : 0 < j) : iz .mod (.int i) (.int j) M = .ok (.int (i % j)) M := if_pos h
@[simp] theorem ay0 : iz .pow (.int 10) (.int 18) M = .ok (.int (10 ^ 18)) M := by simp [iz, ap9]
theorem afw (xs ys : List D) (h : xs.length + ys.length <= 100000) : iz .add (.vl xs) (.vl ys) M = .ok (.vl (xs ++ ys)) M := if_pos h
theorem ak1 (xs ys : List D) (h : xs.length + ys.length <= 100000) : iz .addL (.vl xs) (.vl ys) M = new (.lst (xs ++ ys)) M := if_pos h
@[simp] theorem a1q (i j : Int) : ju .lt (.int i) (.int j) M = some (decide (i < j)) := rfl
@[simp] theorem a1p (i j : Int) : ju .le (.int i) (.int j) M = some (decide (i <= j)) := rfl
@[simp] theorem cmp_gt (i j : Int) : ju .gt (.int i) (.int j) M = some (decide (j < i)) := rfl
@[simp] theorem a06 (i j : Int) : ju .ge (.int i) (.int j) M = some (decide (j <= i)) := rfl
@[simp] theorem a09 (a b : D) : ju .eq a b M = dw M a b := rfl
@[simp] theorem a1l (a b : D) : ju .ne a b M = (dw M a b).map not := rfl
@[simp] theorem a07 (a b : D) : ju .inn a b M = ou M a b := rfl
@[simp] theorem azb (a b : D) : ju .notin a b M = (ou M a b).map not := rfl
theorem ae0 (n : Nat) (i j : Int) : eqD M (n + 1) (.int i) (.int j) = some (decide (i = j)) := rfl
theorem iy {f : D -> D -> Option Bool} {a b : D} {as bs : List D} {x y : Bool} (h1 : f a b = some x) (h2 : eqL f as bs = some y) : eqL f (a :: as) (b :: bs) = some (x && y) := by simp [eqL, h1, h2]
@[simp] theorem eq_int (i j : Int) : dw M (.int i) (.int j) = some (decide (i = j)) := rfl
@[simp] theorem a1u (i j : Bool) : dw M (.bl i) (.bl j) = some (i == j) := rfl
@[simp] theorem amr (ds : List D) : asList M (.vl ds) = some ds := rfl
@[simp] theorem azh (ds : List D) : cu M (.vl ds) = some ds := rfl
@[simp] theorem azc (ds : List D) : cu M (.tup ds) = some ds := rfl
theorem dz {n : Nat} {ds : List D} (h : M[n]? = some (.lst ds)) : asList M (.ref n) = some ds := by simp [asList, h]
theorem ao4 {d : D} {ds : List D} (h : asList M d = some ds) : cu M d = some ds := by
 cases d <;> first | exact h | (simp [asList] at h)
theorem len_list {d : D} {ds : List D} (h : asList M d = some ds) : bx .len [d] M = .ok (.int ds.length) M := by
 show ad3 M d = _
 cases d with
 | vl xs => simp [asList] at h; subst h; rfl
 | ref n =>
  simp only [asList] at h
  split at h <;> simp at h
  rename_i xs hx
  subst h
  simp [ad3, hx]
 | _ => simp [asList] at h
@[simp] theorem a0u (d : D) (g : D -> Res D) : jz [d] g = g d := rfl
@[simp] theorem azq (g : D -> Res D) : jz [] g = .bad := rfl
@[simp] theorem azd (a b : D) (l : List D) (g : D -> Res D) : jz (a :: b :: l) g = .bad := rfl
@[simp] theorem a1n (i j : Int) (f : Int -> Int -> Int) (g : D -> Option Int) : two [.int i, .int j] f g M = .ok (.int (f i j)) M := rfl
@[simp] theorem ar9 (d : D) (f : Int -> Int -> Int) (g : D -> Option Int) : two [d] f g M = Res.ofOpt ((g d).map D.int) M := rfl
@[simp] theorem ays (ds : List D) : ad3 M (.tup ds) = .ok (.int ds.length) M := rfl
@[simp] theorem awy (n : Nat) : ajn M (.ref n) = match M[n]? with
 | some (.dT kvs) => if adg kvs then new (.dT kvs) M else .bad
 | some (.dK kvs) => new (.dK kvs) M
 | _ => .bad := rfl
theorem m6 {d : D} {ds : List D} {i : Int} {x : D} (h : asList M d = some ds) (h0 : 0 <= i) (hx : ds[i.toNat]? = some x) : dg d (.int i) M = some x := by
 obtain ⟨hl, hxx⟩ := List.getElem?_eq_some_iff.mp hx
 have hi : i < ds.length := by omega
 cases d with
 | vl xs => simp [asList] at h; subst h; simp [dg, cu, vg, h0, hi, hl, hxx]
 | ref n =>
  simp only [asList] at h
  cases e : M[n]? with
  | none => rw [e] at h; simp at h
  | some o => rw [e] at h; cases o <;> simp at h <;> subst h <;> simp [dg, asList, e, vg, h0, hi, hl, hxx]
 | _ => simp [asList] at h
theorem vo {ds : List D} {i : Int} {x : D} (h0 : 0 <= i) (hx : ds[i.toNat]? = some x) : dg (.tup ds) (.int i) M = some x := by
 obtain ⟨hl, hxx⟩ := List.getElem?_eq_some_iff.mp hx
 have hi : i < ds.length := by omega
 simp [dg, cu, vg, h0, hi, hl, hxx]
theorem ayf {ds : List D} {i : Int} {x : D} (h0 : 0 <= i) (hx : ds[i.toNat]? = some x) : dg (.fz ds) (.int i) M = some x := by
 obtain ⟨hl, hxx⟩ := List.getElem?_eq_some_iff.mp hx
 have hi : i < ds.length := by omega
 simp [dg, vg, h0, hi, hl, hxx]
theorem ak8 {ds : List D} : bx .len [.fz ds] M = .ok (.int ds.length) M := rfl
@[simp] theorem a05 (x : D) (r : List D) : dg (.tup (x :: r)) (.int 0) M = some x := vo (by decide) rfl
@[simp] theorem a04 (x y : D) (r : List D) : dg (.tup (x :: y :: r)) (.int 1) M = some y := vo (by decide) rfl
@[simp] theorem a0z (x y z : D) (r : List D) : dg (.tup (x :: y :: z :: r)) (.int 2) M = some z := vo (by decide) rfl
theorem ad9 {n : Nat} {kvs : List (List Kx × D)} {b : D} {k : List Kx} (h : M[n]? = some (.dT kvs)) (hk : qt b = some k) : dg (.ref n) b M = dq kvs k := by simp [dg, h, hk]
theorem ayw {n : Nat} {kvs : List (List Kx × D)} {b : D} {k : List Kx} (h : M[n]? = some (.dT kvs)) (hk : qt b = some k) : ou M b (.ref n) = some (dq kvs k).isSome := by simp [ou, h, hk]
@[simp] theorem aa2 (i j : Int) : qt (.tup [.int i, .int j]) = some [.inl i, .inl j] := rfl
@[simp] theorem a1t (i : Int) : za (.int i) = some (.inl i) := rfl
theorem xj {M : Store} {n : Nat} {xs : List D} (h : M[n]? = some (.lst xs)) : yz .append (.ref n) M = true := by simp [yz, h]
theorem aad {n : Nat} {xs : List D} {d : D} (h : M[n]? = some (.lst xs)) (hl : xs.length < 100000) : qj .append (.ref n) [d] M = .ok .non (M.set n (.lst (xs ++ [d]))) := by simp [qj, h, hl]
theorem ajp {n : Nat} {xs : List D} {d : D} {i : Int} (h : M[n]? = some (.lst xs)) (h0 : 0 <= i) (hi : i < xs.length) : setOp (.ref n) (.int i) d M = some (M.set n (.lst (xs.set i.toNat d))) := by simp [setOp, h, vg, h0, hi]
theorem agn {n : Nat} {kvs : List (List Kx × D)} {d b : D} {k : List Kx} (h : M[n]? = some (.dT kvs)) (hk : qt b = some k) (hs : kvs.length < 100000) : setOp (.ref n) b d M = some (M.set n (.dT (jq kvs k d))) := by simp [setOp, h, hk, hs]
end
section
variable {M : Store} {a b : Nat} {o p : MO}
theorem fj (h : M[a]? = some o) : a < M.length := (List.getElem?_eq_some_iff.mp h).1
theorem gw (h : M[a]? = some p) : (M.set a o)[a]? = some o := by rw [List.getElem?_set_self (fj h)]
theorem ik (h : b ≠ a) : (M.set b o)[a]? = M[a]? := List.getElem?_set_ne h
theorem dj {X : Store} (h : M[a]? = some o) : (M ++ X)[a]? = some o := by rw [List.getElem?_append_left (fj h)]; exact h
@[simp] theorem a03 : (M ++ [o])[M.length]? = some o := by simp
end
end MW
namespace Sm
open PySem L2
open MW (Ex Exs OEx Itr Stm Stms Lv Tg Res Store MO Wld Cp Op2 Blt Bm Kx)
abbrev Dv := MW.D
abbrev En := MW.Env
structure Io where
 l : List Addr
 δ : List Addr
def Io.add (ι : Io) (p : Addr) : Io := ⟨ι.l ++ [p], ι.δ⟩
def Io.hide (ι : Io) (p : Addr) : Io := ⟨ι.l, p :: ι.δ⟩
def Io.off (ι : Io) (a : Addr) : Prop := a ∉ ι.l /\ a ∉ ι.δ
def FzAt (K : Fg) (H : Hp) (a : Addr) (vs : List V) : Prop :=
 (∃ o, H a = some (.frz o (.lst vs))) \/
  ∃ (o : Obj) (its : Array Value) (n : Nat), K.lookup a = some o /\ o.cls = .type "list" /\ o.dict = none /\ o.data = .seq its n /\ its.size <= sizeLine /\ Vals vs its.toList
theorem FzAt.sq {K : Fg} {H : Hp} {a : Addr} {vs : List V} (h : FzAt K H a vs) : SqL K H a vs := by
 rcases h with ⟨o, h⟩ | h
 . exact .inl (.inr ⟨o, h⟩)
 . exact .inr h
mutual
inductive Rep (K : Fg) (ι : Io) (H : Hp) : Dv -> V -> Prop
 | non : Rep K ι H .non .non
 | bl (b : Bool) : Rep K ι H (.bl b) (.bl b)
 | int (i : Int) : Rep K ι H (.int i) (.int i)
 | str (s : Str) : Rep K ι H (.str s) (.str s)
 | tup {a : Addr} {ds : List Dv} {vs : List V} (e : H a = some (.tup vs)) (r : RepL K ι H ds vs) : Rep K ι H (.tup ds) (.ref a)
 | vl {a : Addr} {ds : List Dv} {vs : List V} (e : H a = some (.lst vs)) (n : ι.off a) (r : RepL K ι H ds vs) : Rep K ι H (.vl ds) (.ref a)
 | fz {a : Addr} {ds : List Dv} {vs : List V} (e : FzAt K H a vs) (r : RepL K ι H ds vs) : Rep K ι H (.fz ds) (.ref a)
 | ref {n : Nat} {a : Addr} (e : ι.l[n]? = some a) : Rep K ι H (.ref n) (.ref a)
inductive RepL (K : Fg) (ι : Io) (H : Hp) : List Dv -> List V -> Prop
 | nil : RepL K ι H [] []
 | cons {d : Dv} {v : V} {ds : List Dv} {vs : List V} (h : Rep K ι H d v) (t : RepL K ι H ds vs) : RepL K ι H (d :: ds) (v :: vs)
end
structure Le (ι : Io) (H : Hp) (ι' : Io) (H' : Hp) : Prop where
 ext : ∃ Y, ι'.l = ι.l ++ Y /\ ∀ a ∈ Y, H a = none
 del : ι'.δ = ι.δ
 tup : ∀ a vs, H a = some (.tup vs) -> H' a = some (.tup vs)
 frz : ∀ a o u, H a = some (.frz o u) -> H' a = some (.frz o u)
 lst : ∀ a vs, a ∉ ι.l -> H a = some (.lst vs) -> H' a = some (.lst vs)
 dom : ∀ a, H' a = none -> H a = none
theorem Le.refl (ι : Io) (H : Hp) : Le ι H ι H := ⟨⟨[], by simp, by simp⟩, rfl, fun _ _ h => h, fun _ _ _ h => h, fun _ _ _ h => h, fun _ h => h⟩
theorem o5 {H H' : Hp} (hk : ∀ a u, H a = some u -> ∃ u', H' a = some u') {a : Addr} (h : H' a = none) : H a = none := by
 cases e : H a with
 | none => rfl
 | some u => obtain ⟨u', e'⟩ := hk a u e; rw [h] at e'; cases e'
theorem Le.get {ι ι' : Io} {H H' : Hp} (l : Le ι H ι' H') {n : Nat} {a : Addr} (h : ι.l[n]? = some a) : ι'.l[n]? = some a := by
 obtain ⟨Y, e, _⟩ := l.ext
 rw [e, List.getElem?_append_left (List.getElem?_eq_some_iff.mp h).1]
 exact h
theorem Le.outL {ι ι' : Io} {H H' : Hp} (l : Le ι H ι' H') {a : Addr} {o : HO} (h : a ∉ ι.l) (ha : H a = some o) : a ∉ ι'.l := by
 obtain ⟨Y, e, hy⟩ := l.ext
 rw [e]
 intro m
 rcases List.mem_append.mp m with q | q
 . exact h q
 . rw [hy a q] at ha; cases ha
theorem Le.out {ι ι' : Io} {H H' : Hp} (l : Le ι H ι' H') {a : Addr} {o : HO} (h : ι.off a) (ha : H a = some o) : ι'.off a := ⟨l.outL h.1 ha, by rw [l.del]; exact h.2⟩
theorem Le.trans {ι ι1 ι2 : Io} {H H1 H2 : Hp} (a : Le ι H ι1 H1) (b : Le ι1 H1 ι2 H2) : Le ι H ι2 H2 := by
 obtain ⟨Y, e1, h1⟩ := a.ext
 obtain ⟨Z, e2, h2⟩ := b.ext
 refine ⟨⟨Y ++ Z, by rw [e2, e1, List.append_assoc], fun x m => ?_⟩, b.del.trans a.del, fun x vs h => b.tup x vs (a.tup x vs h), fun x o u h => b.frz x o u (a.frz x o u h), fun x vs n h => b.lst x vs (a.outL n h) (a.lst x vs n h), fun x h => a.dom x (b.dom x h)⟩
 rcases List.mem_append.mp m with q | q
 . exact h1 x q
 . exact a.dom x (h2 x q)
structure LeX (ι : Io) (H : Hp) (ι' : Io) (H' : Hp) : Prop where
 ext : ∃ Y, ι'.l = ι.l ++ Y /\ ∀ a ∈ Y, H a = none
 del : ∀ a ∈ ι'.δ, a ∈ ι.δ \/ H a = none
 tup : ∀ a vs, H a = some (.tup vs) -> H' a = some (.tup vs)
 frz : ∀ a o u, H a = some (.frz o u) -> H' a = some (.frz o u)
 lst : ∀ a vs, a ∉ ι.l -> H a = some (.lst vs) -> H' a = some (.lst vs)
theorem Le.toX {ι ι' : Io} {H H' : Hp} (l : Le ι H ι' H') : LeX ι H ι' H' := ⟨l.ext, fun a h => .inl (by rw [<- l.del]; exact h), l.tup, l.frz, l.lst⟩
theorem LeX.get {ι ι' : Io} {H H' : Hp} (l : LeX ι H ι' H') {n : Nat} {a : Addr} (h : ι.l[n]? = some a) : ι'.l[n]? = some a := by
 obtain ⟨Y, e, _⟩ := l.ext
 rw [e, List.getElem?_append_left (List.getElem?_eq_some_iff.mp h).1]
 exact h
theorem LeX.out {ι ι' : Io} {H H' : Hp} (l : LeX ι H ι' H') {a : Addr} {o : HO} (h : ι.off a) (ha : H a = some o) : ι'.off a := by
 obtain ⟨Y, e, hy⟩ := l.ext
 refine ⟨fun m => ?_, fun m => ?_⟩
 . rw [e] at m
   rcases List.mem_append.mp m with q | q
   . exact h.1 q
   . rw [hy a q] at ha; cases ha
 . rcases l.del a m with q | q
   . exact h.2 q
   . rw [q] at ha; cases ha
mutual
theorem Rep.monoX {K : Fg} {ι ι' : Io} {H H' : Hp} (l : LeX ι H ι' H') : ∀ {d : Dv} {v : V}, Rep K ι H d v -> Rep K ι' H' d v
 | _, _, .non => .non
 | _, _, .bl b => .bl b
 | _, _, .int i => .int i
 | _, _, .str s => .str s
 | _, _, .tup e r => .tup (l.tup _ _ e) (RepL.monoX l r)
 | _, _, .vl e n r => .vl (l.lst _ _ n.1 e) (l.out n e) (RepL.monoX l r)
 | _, _, .fz e r => .fz (by
  rcases e with ⟨o, e⟩ | e
  . exact .inl ⟨o, l.frz _ _ _ e⟩
  . exact .inr e) (RepL.monoX l r)
 | _, _, .ref e => .ref (l.get e)
theorem RepL.monoX {K : Fg} {ι ι' : Io} {H H' : Hp} (l : LeX ι H ι' H') : ∀ {ds : List Dv} {vs : List V}, RepL K ι H ds vs -> RepL K ι' H' ds vs
 | _, _, .nil => .nil
 | _, _, .cons h t => .cons (Rep.monoX l h) (RepL.monoX l t)
end
theorem Rep.mono {K : Fg} {ι ι' : Io} {H H' : Hp} (l : Le ι H ι' H') {d : Dv} {v : V} (r : Rep K ι H d v) : Rep K ι' H' d v := r.monoX l.toX
theorem RepL.mono {K : Fg} {ι ι' : Io} {H H' : Hp} (l : Le ι H ι' H') {ds : List Dv} {vs : List V} (r : RepL K ι H ds vs) : RepL K ι' H' ds vs := r.monoX l.toX
theorem RepL.length {K : Fg} {ι : Io} {H : Hp} : ∀ {ds : List Dv} {vs : List V}, RepL K ι H ds vs -> ds.length = vs.length
 | _, _, .nil => rfl
 | _, _, .cons _ t => by rw [List.length_cons, List.length_cons, RepL.length t]
theorem RepL.get {K : Fg} {ι : Io} {H : Hp} : ∀ {ds : List Dv} {vs : List V} {i : Nat} {d : Dv}, RepL K ι H ds vs -> ds[i]? = some d -> ∃ v, vs[i]? = some v /\ Rep K ι H d v
 | _, _, _, _, .nil, e => by simp at e
 | _, _, 0, _, .cons h _, e => by simp at e; subst e; exact ⟨_, rfl, h⟩
 | _, _, i + 1, d, .cons _ t, e => by
  obtain ⟨v, h1, h2⟩ := RepL.get (i := i) t (by simpa using e)
  exact ⟨v, by simpa using h1, h2⟩
theorem RepL.set {K : Fg} {ι : Io} {H : Hp} {d : Dv} {v : V} (r : Rep K ι H d v) : ∀ {ds : List Dv} {vs : List V} (i : Nat), RepL K ι H ds vs -> RepL K ι H (ds.set i d) (vs.set i v)
 | _, _, _, .nil => .nil
 | _, _, 0, .cons _ t => .cons r t
 | _, _, i + 1, .cons h t => .cons h (RepL.set r i t)
theorem RepL.append {K : Fg} {ι : Io} {H : Hp} : ∀ {ds es : List Dv} {vs us : List V}, RepL K ι H ds vs -> RepL K ι H es us -> RepL K ι H (ds ++ es) (vs ++ us)
 | _, _, _, _, .nil, r => r
 | _, _, _, _, .cons h t, r => .cons h (RepL.append t r)
theorem RepL.drop {K : Fg} {ι : Io} {H : Hp} : ∀ {ds : List Dv} {vs : List V} (n : Nat), RepL K ι H ds vs -> RepL K ι H (ds.drop n) (vs.drop n)
 | _, _, 0, r => r
 | _, _, _ + 1, .nil => .nil
 | _, _, n + 1, .cons _ t => RepL.drop n t
theorem RepL.take {K : Fg} {ι : Io} {H : Hp} : ∀ {ds : List Dv} {vs : List V} (n : Nat), RepL K ι H ds vs -> RepL K ι H (ds.take n) (vs.take n)
 | _, _, 0, _ => .nil
 | _, _, _ + 1, .nil => .nil
 | _, _, n + 1, .cons h t => .cons h (RepL.take n t)
theorem RepL.eraseIdx {K : Fg} {ι : Io} {H : Hp} : ∀ {ds : List Dv} {vs : List V} (n : Nat), RepL K ι H ds vs -> RepL K ι H (ds.eraseIdx n) (vs.eraseIdx n)
 | _, _, _, .nil => .nil
 | _, _, 0, .cons _ t => t
 | _, _, n + 1, .cons h t => .cons h (RepL.eraseIdx n t)
theorem RepL.ints {K : Fg} {ι : Io} {H : Hp} : ∀ (ns : List Int), RepL K ι H (ns.map MW.D.int) (ns.map V.int)
 | [] => .nil
 | n :: r => .cons (.int n) (RepL.ints r)
structure Nm where
 cls : Nat -> Option Addr
 fld : Nat -> Str
 inj : ∀ i j, fld i = fld j -> i = j
inductive PairsR {κ κ' : Type} (K : Fg) (ι : Io) (H : Hp) (f : κ -> κ' -> Prop) : List (κ × Dv) -> List (κ' × V) -> Prop
 | nil : PairsR K ι H f [] []
 | cons {k : κ} {k' : κ'} {d : Dv} {v : V} {l : List (κ × Dv)} {l' : List (κ' × V)} (hk : f k k') (h : Rep K ι H d v) (t : PairsR K ι H f l l') : PairsR K ι H f ((k, d) :: l) ((k', v) :: l')
theorem PairsR.mono {κ κ' : Type} {K : Fg} {ι ι' : Io} {H H' : Hp} {f : κ -> κ' -> Prop} (le : Le ι H ι' H') : ∀ {l : List (κ × Dv)} {l' : List (κ' × V)}, PairsR K ι H f l l' -> PairsR K ι' H' f l l'
 | _, _, .nil => .nil
 | _, _, .cons k h t => .cons k (h.mono le) (PairsR.mono le t)
def ObjRep (nm : Nm) (K : Fg) (ι : Io) (H : Hp) (o : MO) (a : Addr) : Prop :=
 match o with
 | .lst ds => ∃ vs, H a = some (.lst vs) /\ RepL K ι H ds vs
 | .dT kvs => ∃ l, H a = some (.dT l) /\ PairsR K ι H (fun k k' => k = k') kvs l
 | .dK kvs => ∃ l, H a = some (.dK l) /\ PairsR K ι H (fun k k' => k = k') kvs l
 | .ins c fs => ∃ C dx l, nm.cls c = some C /\ H a = some (.ins C dx l) /\ PairsR K ι H (fun k k' => k' = nm.fld k) fs l
structure SimM (nm : Nm) (K : Fg) (ι : Io) (H : Hp) (M : Store) : Prop where
 len : ι.l.length = M.length
 nd : ι.l.Nodup
 del : ∀ a ∈ ι.δ, a ∉ ι.l /\ ∃ vs, H a = some (.lst vs)
 obj : ∀ (n : Nat) (o : MO) (a : Addr), M[n]? = some o -> ι.l[n]? = some a -> ObjRep nm K ι H o a
theorem ObjRep.some {nm : Nm} {K : Fg} {ι : Io} {H : Hp} {o : MO} {a : Addr} (h : ObjRep nm K ι H o a) : ∃ u, H a = some u /\ Mut (H a) := by
 cases o with
 | lst ds => obtain ⟨vs, e, _⟩ := h; exact ⟨_, e, by rw [e]; trivial⟩
 | dT kvs => obtain ⟨vs, e, _⟩ := h; exact ⟨_, e, by rw [e]; trivial⟩
 | dK kvs => obtain ⟨vs, e, _⟩ := h; exact ⟨_, e, by rw [e]; trivial⟩
 | ins c fs => obtain ⟨C, dx, l, _, e, _⟩ := h; exact ⟨_, e, by rw [e]; trivial⟩
theorem SimM.addr {nm : Nm} {K : Fg} {ι : Io} {H : Hp} {M : Store} (S : SimM nm K ι H M) {n : Nat} {o : MO} (h : M[n]? = some o) : ∃ a, ι.l[n]? = some a /\ ObjRep nm K ι H o a := by
 have hl : n < ι.l.length := by rw [S.len]; exact MW.fj h
 exact ⟨ι.l[n], by simp [hl], S.obj n o _ h (by simp [hl])⟩
theorem SimM.mem {nm : Nm} {K : Fg} {ι : Io} {H : Hp} {M : Store} (S : SimM nm K ι H M) {a : Addr} (h : a ∈ ι.l) : ∃ u, H a = some u /\ Mut (H a) := by
 obtain ⟨n, hn, rfl⟩ := List.getElem_of_mem h
 have hm : n < M.length := by rw [<- S.len]; exact hn
 exact (S.obj n M[n] ι.l[n] (by simp [hm]) (by simp [hn])).some
theorem SimM.fresh {nm : Nm} {K : Fg} {ι : Io} {H : Hp} {M : Store} (S : SimM nm K ι H M) {a : Addr} (h : H a = none) : ι.off a := by
 refine ⟨fun m => ?_, fun m => ?_⟩
 . obtain ⟨u, e, _⟩ := S.mem m
   rw [h] at e; cases e
 . obtain ⟨_, vs, e⟩ := S.del a m
   rw [h] at e; cases e
theorem ObjRep.move {nm : Nm} {K : Fg} {ι ι' : Io} {H H' : Hp} {o : MO} {a : Addr} (h : ObjRep nm K ι H o a) (le : Le ι H ι' H') (e : H' a = H a) : ObjRep nm K ι' H' o a := by
 cases o with
 | lst ds => obtain ⟨vs, q, r⟩ := h; exact ⟨vs, e.trans q, r.mono le⟩
 | dT kvs => obtain ⟨vs, q, r⟩ := h; exact ⟨vs, e.trans q, r.mono le⟩
 | dK kvs => obtain ⟨vs, q, r⟩ := h; exact ⟨vs, e.trans q, r.mono le⟩
 | ins c fs => obtain ⟨C, dx, l, hc, q, r⟩ := h; exact ⟨C, dx, l, hc, e.trans q, r.mono le⟩
theorem SimM.laid {nm : Nm} {K : Fg} {ι : Io} {H : Hp} {M : Store} (S : SimM nm K ι H M) {p : Addr} (h : H p = none) (o : HO) : SimM nm K ι (upd H p o) M /\ Le ι H ι (upd H p o) := by
 have ne : ∀ a u, H a = some u -> a ≠ p := fun a u e => bc e h
 have le : Le ι H ι (upd H p o) := ⟨⟨[], by simp, by simp⟩, rfl, fun a vs e => by rw [au (ne a _ e)]; exact e, fun a _ u e => by rw [au (ne a _ e)]; exact e, fun a vs _ e => by rw [au (ne a _ e)]; exact e,
  fun a h' => o5 (fun b u e => ⟨u, by rw [au (ne b _ e)]; exact e⟩) h'⟩
 refine ⟨⟨S.len, S.nd, fun a ha => ?_, fun n o' a hn ha => ?_⟩, le⟩
 . obtain ⟨h1, vs, h2⟩ := S.del a ha
   exact ⟨h1, vs, le.lst a vs h1 h2⟩
 . have q := S.obj n o' a hn ha
   obtain ⟨u, e, _⟩ := q.some
   exact q.move le (by rw [au (ne a u e)])
theorem t7 {α : Type} {l : List α} {x y : α} {n : Nat} (h : (l ++ [x])[n]? = some y) : (l[n]? = some y) \/ (n = l.length /\ y = x) := by
 rcases Nat.lt_or_ge n l.length with q | q
 . rw [List.getElem?_append_left q] at h; exact .inl h
 . rw [List.getElem?_append_right q] at h
   have : n - l.length = 0 := by
    rcases Nat.eq_zero_or_pos (n - l.length) with z | z
    . exact z
    . rw [List.getElem?_eq_none (by simp; omega)] at h; cases h
   rw [this] at h
   simp at h
   exact .inr ⟨by omega, h.symm⟩
theorem SimM.new {nm : Nm} {K : Fg} {ι : Io} {H : Hp} {M : Store} (S : SimM nm K ι H M) {p : Addr} {H' : Hp} {o : MO} (h : H p = none) (hk : ∀ a u, H a = some u -> H' a = some u)
 (ho : Le ι H (ι.add p) H' -> ObjRep nm K (ι.add p) H' o p) : SimM nm K (ι.add p) H' (M ++ [o]) /\ Le ι H (ι.add p) H' := by
 have le : Le ι H (ι.add p) H' := ⟨⟨[p], rfl, by simpa using h⟩, rfl, fun a vs e => hk _ _ e, fun a _ u e => hk _ _ e, fun a vs _ e => hk _ _ e, fun a h' => o5 (H := H) (H' := H') (fun b u e => ⟨u, hk b u e⟩) h'⟩
 refine ⟨⟨by simp [Io.add, S.len], ?_, fun a ha => ?_, fun n o' a hn ha => ?_⟩, le⟩
 . exact List.nodup_append.mpr ⟨S.nd, by simp, by
    intro x hx y hy
    have : y = p := by simpa using hy
    subst this
    intro e; subst e
    exact (S.fresh h).1 hx⟩
 . obtain ⟨h1, vs, h2⟩ := S.del a ha
   exact ⟨le.outL h1 h2, vs, hk _ _ h2⟩
 . rcases t7 hn with q | ⟨q, rfl⟩
   . rcases t7 ha with r | ⟨r, _⟩
     . have z := S.obj n o' a q r
       obtain ⟨u, e, _⟩ := z.some
       exact z.move le ((hk a u e).trans e.symm)
     . exact absurd (MW.fj q) (by rw [r, S.len]; exact Nat.lt_irrefl _)
   . rcases t7 ha with r | ⟨_, rfl⟩
     . exact absurd (List.getElem?_eq_some_iff.mp r).1 (by rw [q, S.len]; exact Nat.lt_irrefl _)
     . exact ho le
theorem SimM.put {nm : Nm} {K : Fg} {ι : Io} {H : Hp} {M : Store} (S : SimM nm K ι H M) {n : Nat} {a : Addr} {u : HO} {o o₀ : MO} (hn : M[n]? = some o₀) (ha : ι.l[n]? = some a)
 (ho : Le ι H ι (upd H a u) -> ObjRep nm K ι (upd H a u) o a) : SimM nm K ι (upd H a u) (M.set n o) /\ Le ι H ι (upd H a u) := by
 obtain ⟨u₀, e₀, m₀⟩ := (S.obj n o₀ a hn ha).some
 have hm : a ∈ ι.l := List.mem_of_getElem? ha
 have le : Le ι H ι (upd H a u) := ⟨⟨[], by simp, by simp⟩, rfl, fun b vs e => by rw [au (fun z => by subst z; rw [e] at m₀; exact m₀)]; exact e,
  fun b _ _ e => by rw [au (fun z => by subst z; rw [e] at m₀; exact m₀)]; exact e, fun b vs nb e => by rw [au (fun z => by subst z; exact nb hm)]; exact e, fun b h' => o5 (fun c w e => by
   by_cases z : c = a
   . exact ⟨u, by rw [z, cg]⟩
   . exact ⟨w, by rw [au z]; exact e⟩) h'⟩
 refine ⟨⟨by rw [List.length_set]; exact S.len, S.nd, fun b hb => ?_, fun m o' b hm' hb => ?_⟩, le⟩
 . obtain ⟨h1, vs, h2⟩ := S.del b hb
   exact ⟨h1, vs, le.lst b vs h1 h2⟩
 by_cases q : m = n
 . subst q
   rw [MW.gw hn] at hm'
   cases hm'
   rw [ha] at hb; cases hb
   exact ho le
 . rw [MW.ik (Ne.symm q)] at hm'
   have z := S.obj m o' b hm' hb
   have nb : b ≠ a := fun e => by
    subst e
    obtain ⟨l1, e1⟩ := List.getElem?_eq_some_iff.mp hb
    obtain ⟨l2, e2⟩ := List.getElem?_eq_some_iff.mp ha
    exact q ((List.getElem_inj S.nd).mp (e1.trans e2.symm))
   exact z.move le (by rw [au nb])
mutual
theorem Rep.hide {K : Fg} {ι : Io} {H : Hp} {D : Addr} {o : HO} (hD : H D = none) : ∀ {d : Dv} {v : V}, Rep K ι H d v -> Rep K (ι.hide D) (upd H D o) d v
 | _, _, .non => .non
 | _, _, .bl b => .bl b
 | _, _, .int i => .int i
 | _, _, .str s => .str s
 | _, _, .tup e r => .tup (by rw [au (bc e hD)]; exact e) (RepL.hide hD r)
 | _, _, .vl e n r => .vl (by rw [au (bc e hD)]; exact e) ⟨n.1, fun m => by
  rcases List.mem_cons.mp m with q | q
  . exact bc e hD q
  . exact n.2 q⟩ (RepL.hide hD r)
 | _, _, .fz e r => .fz (by
  rcases e with ⟨q, e⟩ | e
  . exact .inl ⟨q, by rw [au (bc e hD)]; exact e⟩
  . exact .inr e) (RepL.hide hD r)
 | _, _, .ref e => .ref e
theorem RepL.hide {K : Fg} {ι : Io} {H : Hp} {D : Addr} {o : HO} (hD : H D = none) : ∀ {ds : List Dv} {vs : List V}, RepL K ι H ds vs -> RepL K (ι.hide D) (upd H D o) ds vs
 | _, _, .nil => .nil
 | _, _, .cons h t => .cons (Rep.hide hD h) (RepL.hide hD t)
end
mutual
theorem Rep.grow {K : Fg} {ι : Io} {H : Hp} {D : Addr} {vs ws : List V} (hD : H D = some (.lst vs)) (hm : D ∈ ι.δ) : ∀ {d : Dv} {v : V}, Rep K ι H d v -> Rep K ι (upd H D (.lst ws)) d v
 | _, _, .non => .non
 | _, _, .bl b => .bl b
 | _, _, .int i => .int i
 | _, _, .str s => .str s
 | _, _, .tup e r => .tup (by rw [au (aj9 e hD (by intro z; cases z))]; exact e) (RepL.grow hD hm r)
 | _, _, .vl e n r => .vl (by rw [au (fun z => by subst z; exact n.2 hm)]; exact e) n (RepL.grow hD hm r)
 | _, _, .fz e r => .fz (by
  rcases e with ⟨q, e⟩ | e
  . exact .inl ⟨q, by rw [au (aj9 e hD (by intro z; cases z))]; exact e⟩
  . exact .inr e) (RepL.grow hD hm r)
 | _, _, .ref e => .ref e
theorem RepL.grow {K : Fg} {ι : Io} {H : Hp} {D : Addr} {vs ws : List V} (hD : H D = some (.lst vs)) (hm : D ∈ ι.δ) : ∀ {ds : List Dv} {us : List V}, RepL K ι H ds us -> RepL K ι (upd H D (.lst ws)) ds us
 | _, _, .nil => .nil
 | _, _, .cons h t => .cons (Rep.grow hD hm h) (RepL.grow hD hm t)
end
mutual
theorem Rep.show {K : Fg} {ι : Io} {H : Hp} {D : Addr} : ∀ {d : Dv} {v : V}, Rep K (ι.hide D) H d v -> Rep K ι H d v
 | _, _, .non => .non
 | _, _, .bl b => .bl b
 | _, _, .int i => .int i
 | _, _, .str s => .str s
 | _, _, .tup e r => .tup e (RepL.show r)
 | _, _, .vl e n r => .vl e ⟨n.1, fun m => n.2 (List.mem_cons_of_mem _ m)⟩ (RepL.show r)
 | _, _, .fz e r => .fz e (RepL.show r)
 | _, _, .ref e => .ref e
theorem RepL.show {K : Fg} {ι : Io} {H : Hp} {D : Addr} : ∀ {ds : List Dv} {vs : List V}, RepL K (ι.hide D) H ds vs -> RepL K ι H ds vs
 | _, _, .nil => .nil
 | _, _, .cons h t => .cons (Rep.show h) (RepL.show t)
end
theorem PairsR.map {κ κ' : Type} {K : Fg} {ι ι' : Io} {H H' : Hp} {f : κ -> κ' -> Prop} (g : ∀ d v, Rep K ι H d v -> Rep K ι' H' d v) : ∀ {l : List (κ × Dv)} {l' : List (κ' × V)}, PairsR K ι H f l l' -> PairsR K ι' H' f l l'
 | _, _, .nil => .nil
 | _, _, .cons k h t => .cons k (g _ _ h) (PairsR.map g t)
theorem RepL.map {K : Fg} {ι ι' : Io} {H H' : Hp} (g : ∀ d v, Rep K ι H d v -> Rep K ι' H' d v) : ∀ {l : List Dv} {l' : List V}, RepL K ι H l l' -> RepL K ι' H' l l'
 | _, _, .nil => .nil
 | _, _, .cons h t => .cons (g _ _ h) (RepL.map g t)
theorem ObjRep.map {nm : Nm} {K : Fg} {ι ι' : Io} {H H' : Hp} {o : MO} {a : Addr} (g : ∀ d v, Rep K ι H d v -> Rep K ι' H' d v) (h : ObjRep nm K ι H o a) (e : H' a = H a) : ObjRep nm K ι' H' o a := by
 cases o with
 | lst ds => obtain ⟨vs, q, r⟩ := h; exact ⟨vs, e.trans q, r.map g⟩
 | dT kvs => obtain ⟨vs, q, r⟩ := h; exact ⟨vs, e.trans q, r.map g⟩
 | dK kvs => obtain ⟨vs, q, r⟩ := h; exact ⟨vs, e.trans q, r.map g⟩
 | ins c fs => obtain ⟨C, dx, l, hc, q, r⟩ := h; exact ⟨C, dx, l, hc, e.trans q, r.map g⟩
theorem SimM.hide {nm : Nm} {K : Fg} {ι : Io} {H : Hp} {M : Store} (S : SimM nm K ι H M) {D : Addr} (hD : H D = none) : SimM nm K (ι.hide D) (upd H D (.lst [])) M := by
 refine ⟨S.len, S.nd, fun a ha => ?_, fun n o a hn ha => ?_⟩
 . rcases List.mem_cons.mp ha with q | q
   . subst q; exact ⟨(S.fresh hD).1, [], cg⟩
   . obtain ⟨h1, vs, h2⟩ := S.del a q
     exact ⟨h1, vs, by rw [au (bc h2 hD)]; exact h2⟩
 . have z := S.obj n o a hn ha
   obtain ⟨u, e, _⟩ := z.some
   exact z.map (fun d v r => r.hide hD) (by rw [au (bc e hD)])
theorem SimM.grow {nm : Nm} {K : Fg} {ι : Io} {H : Hp} {M : Store} (S : SimM nm K ι H M) {D : Addr} {vs ws : List V} (hD : H D = some (.lst vs)) (hm : D ∈ ι.δ) : SimM nm K ι (upd H D (.lst ws)) M := by
 refine ⟨S.len, S.nd, fun a ha => ?_, fun n o a hn ha => ?_⟩
 . obtain ⟨h1, us, h2⟩ := S.del a ha
   by_cases z : a = D
   . subst z; exact ⟨h1, ws, cg⟩
   . exact ⟨h1, us, by rw [au z]; exact h2⟩
 . have z := S.obj n o a hn ha
   have ne : a ≠ D := fun e => by subst e; exact (S.del a hm).1 (List.mem_of_getElem? ha)
   exact z.map (fun d v r => r.grow hD hm) (by rw [au ne])
theorem SimM.show {nm : Nm} {K : Fg} {ι : Io} {H : Hp} {M : Store} {D : Addr} (S : SimM nm K (ι.hide D) H M) : SimM nm K ι H M :=
 ⟨S.len, S.nd, fun a ha => S.del a (List.mem_cons_of_mem _ ha), fun n o a hn ha => (S.obj n o a hn ha).map (fun d v r => r.show) rfl⟩
structure LeD (D : Addr) (ι : Io) (H : Hp) (ι' : Io) (H' : Hp) : Prop where
 ext : ∃ Y, ι'.l = ι.l ++ Y /\ ∀ a ∈ Y, H a = none
 del : ι'.δ = D :: ι.δ
 tup : ∀ a vs, H a = some (.tup vs) -> H' a = some (.tup vs)
 frz : ∀ a o u, H a = some (.frz o u) -> H' a = some (.frz o u)
 lst : ∀ a vs, a ∉ ι.l -> H a = some (.lst vs) -> H' a = some (.lst vs)
 dom : ∀ a, H' a = none -> H a = none
theorem LeD.toX {D : Addr} {ι ι' : Io} {H H' : Hp} (l : LeD D ι H ι' H') (hD : H D = none) : LeX ι H ι' H' := ⟨l.ext, fun a h => by
 rw [l.del] at h
 rcases List.mem_cons.mp h with q | q
 . exact .inr (by rw [q]; exact hD)
 . exact .inl q, l.tup, l.frz, l.lst⟩
theorem LeD.start {ι : Io} {H : Hp} {D : Addr} (hD : H D = none) (o : HO) : LeD D ι H (ι.hide D) (upd H D o) :=
 ⟨⟨[], by simp [Io.hide], by simp⟩, rfl, fun a vs e => by rw [au (bc e hD)]; exact e, fun a _ _ e => by rw [au (bc e hD)]; exact e, fun a vs _ e => by rw [au (bc e hD)]; exact e,
  fun a h' => o5 (fun b u e => ⟨u, by rw [au (bc e hD)]; exact e⟩) h'⟩
theorem LeD.go {ι ι1 ι2 : Io} {H H1 H2 : Hp} {D : Addr} (a : LeD D ι H ι1 H1) (b : Le ι1 H1 ι2 H2) : LeD D ι H ι2 H2 := by
 obtain ⟨Y, e1, h1⟩ := a.ext
 obtain ⟨Z, e2, h2⟩ := b.ext
 have out : ∀ x o, x ∉ ι.l -> H x = some o -> x ∉ ι1.l := fun x o n h m => by
  rw [e1] at m
  rcases List.mem_append.mp m with q | q
  . exact n q
  . rw [h1 x q] at h; cases h
 refine ⟨⟨Y ++ Z, by rw [e2, e1, List.append_assoc], fun x m => ?_⟩, b.del.trans a.del, fun x vs h => b.tup x vs (a.tup x vs h), fun x o u h => b.frz x o u (a.frz x o u h), fun x vs n h => b.lst x vs (out x _ n h) (a.lst x vs n h), fun x h => a.dom x (b.dom x h)⟩
 rcases List.mem_append.mp m with q | q
 . exact h1 x q
 . exact a.dom x (h2 x q)
theorem LeD.grow {ι ι1 : Io} {H H1 : Hp} {D : Addr} {vs ws : List V} (a : LeD D ι H ι1 H1) (h0 : H D = none) (hD : H1 D = some (.lst vs)) : LeD D ι H ι1 (upd H1 D (.lst ws)) :=
 ⟨a.ext, a.del, fun x us h => by rw [au (bc h h0)]; exact a.tup x us h, fun x o u h => by rw [au (bc h h0)]; exact a.frz x o u h, fun x us n h => by rw [au (bc h h0)]; exact a.lst x us n h,
  fun x h => a.dom x (by
   by_cases z : x = D
   . rw [z, cg] at h; cases h
   . rw [au z] at h; exact h)⟩
theorem LeD.done {ι ι1 : Io} {H H1 : Hp} {D : Addr} (a : LeD D ι H ⟨ι1.l, D :: ι1.δ⟩ H1) : Le ι H ι1 H1 :=
 ⟨a.ext, (List.cons.inj a.del).2, a.tup, a.frz, a.lst, a.dom⟩
inductive EnvR (K : Fg) (ι : Io) (H : Hp) : En -> St -> Prop
 | nil : EnvR K ι H [] []
 | skp {y : Option V} {ρ : En} {σ : St} (t : EnvR K ι H ρ σ) : EnvR K ι H (none :: ρ) (y :: σ)
 | has {d : Dv} {v : V} {ρ : En} {σ : St} (h : Rep K ι H d v) (t : EnvR K ι H ρ σ) : EnvR K ι H (some d :: ρ) (some v :: σ)
theorem EnvR.monoX {K : Fg} {ι ι' : Io} {H H' : Hp} (le : LeX ι H ι' H') : ∀ {ρ : En} {σ : St}, EnvR K ι H ρ σ -> EnvR K ι' H' ρ σ
 | _, _, .nil => .nil
 | _, _, .skp t => .skp (EnvR.monoX le t)
 | _, _, .has h t => .has (h.monoX le) (EnvR.monoX le t)
theorem EnvR.mono {K : Fg} {ι ι' : Io} {H H' : Hp} (le : Le ι H ι' H') : ∀ {ρ : En} {σ : St}, EnvR K ι H ρ σ -> EnvR K ι' H' ρ σ
 | _, _, .nil => .nil
 | _, _, .skp t => .skp (EnvR.mono le t)
 | _, _, .has h t => .has (h.mono le) (EnvR.mono le t)
theorem EnvR.get {K : Fg} {ι : Io} {H : Hp} : ∀ {ρ : En} {σ : St} {i : Nat} {d : Dv}, EnvR K ι H ρ σ -> ρ[i]? = some (some d) -> ∃ v, σ[i]? = some (some v) /\ Rep K ι H d v
 | _, _, _, _, .nil, e => by simp at e
 | _, _, 0, _, .skp _, e => by simp at e
 | _, _, 0, _, .has h _, e => by simp at e; subst e; exact ⟨_, rfl, h⟩
 | _, _, i + 1, d, .skp t, e => by
  obtain ⟨v, h1, h2⟩ := EnvR.get (i := i) t (by simpa using e)
  exact ⟨v, by simpa using h1, h2⟩
 | _, _, i + 1, d, .has _ t, e => by
  obtain ⟨v, h1, h2⟩ := EnvR.get (i := i) t (by simpa using e)
  exact ⟨v, by simpa using h1, h2⟩
theorem EnvR.set {K : Fg} {ι : Io} {H : Hp} {d : Dv} {v : V} (r : Rep K ι H d v) : ∀ {ρ : En} {σ : St} (i : Nat), EnvR K ι H ρ σ -> EnvR K ι H (ρ.set i (some d)) (σ.set i (some v))
 | _, _, _, .nil => .nil
 | _, _, 0, .skp t => .has r t
 | _, _, 0, .has _ t => .has r t
 | _, _, i + 1, .skp t => .skp (EnvR.set r i t)
 | _, _, i + 1, .has h t => .has h (EnvR.set r i t)
theorem EnvR.length {K : Fg} {ι : Io} {H : Hp} : ∀ {ρ : En} {σ : St}, EnvR K ι H ρ σ -> ρ.length = σ.length
 | _, _, .nil => rfl
 | _, _, .skp t => by rw [List.length_cons, List.length_cons, EnvR.length t]
 | _, _, .has _ t => by rw [List.length_cons, List.length_cons, EnvR.length t]
theorem EnvR.append {K : Fg} {ι : Io} {H : Hp} : ∀ {ρ ρ' : En} {σ σ' : St}, EnvR K ι H ρ σ -> EnvR K ι H ρ' σ' -> EnvR K ι H (ρ ++ ρ') (σ ++ σ')
 | _, _, _, _, .nil, r => r
 | _, _, _, _, .skp t, r => .skp (EnvR.append t r)
 | _, _, _, _, .has h t, r => .has h (EnvR.append t r)
theorem EnvR.nones {K : Fg} {ι : Io} {H : Hp} : ∀ (k : Nat) {σ : St}, σ.length = k -> EnvR K ι H (List.replicate k none) σ
 | 0, [], _ => .nil
 | k + 1, _ :: r, h => .skp (EnvR.nones k (by simpa using h))
theorem EnvR.ofVals {K : Fg} {ι : Io} {H : Hp} : ∀ {ds : List Dv} {vs : List V}, RepL K ι H ds vs -> EnvR K ι H (ds.map some) (vs.map some)
 | _, _, .nil => .nil
 | _, _, .cons h t => .has h (EnvR.ofVals t)
theorem aa {α β : Type} {r : Res α} {f : α -> Store -> Res β} {b : β} {M : Store} (h : r.bind f = .ok b M) : ∃ a M1, r = .ok a M1 /\ f a M1 = .ok b M := by
 cases r with
 | ok a M1 => exact ⟨a, M1, rfl, h⟩
 | err c M1 => cases h
 | bad => cases h
theorem fu {α : Type} {o : Option α} {a : α} {M M' : Store} (h : Res.ofOpt o M = .ok a M') : o = some a /\ M' = M := by
 cases o with
 | none => cases h
 | some x => cases h; exact ⟨rfl, rfl⟩
theorem PE.weak {X : Cx} {e : Expr} {t t' : TE} (h : PE X e t) (w : ∀ σ H Q, t' σ H Q -> t σ H Q) : PE X e t' := fun pins s σ H Q I q => h pins s σ H Q I (w σ H Q q)
theorem PT.weak {X : Cx} {e : Expr} {t t' : TT} (h : PT X e t) (w : ∀ σ H Q, t' σ H Q -> t σ H Q) : PT X e t' := fun pins s σ H Q I q => h pins s σ H Q I (w σ H Q q)
theorem PA.weak {X : Cx} {es : List Expr} {t t' : TA} (h : PA X es t) (w : ∀ σ H Q, t' σ H Q -> t σ H Q) : PA X es t' := fun pos pins s σ H Q I q => h pos pins s σ H Q I (w σ H Q q)
theorem PS.weak {X : Cx} {e : Stmt} {t t' : TS} (h : PS X e t) (w : ∀ D σ H, t' D σ H -> t D σ H) : PS X e t' := fun pins s σ H D I q => h pins s σ H D I (w D σ H q)
theorem PSs.weak {X : Cx} {e : List Stmt} {t t' : TS} (h : PSs X e t) (w : ∀ D σ H, t' D σ H -> t D σ H) : PSs X e t' := fun pins s σ H D I q => h pins s σ H D I (w D σ H q)
theorem OpR.weak {X : Cx} {f : Value -> Value -> Sem Value} {r r' : R2} (h : OpR X f r) (w : ∀ x y H Q, r' x y H Q -> r x y H Q) : OpR X f r' := fun pins s σ H x y v u Q I rx ry q => h pins s σ H x y v u Q I rx ry (w x y H Q q)
section
variable (nm : Nm) (W : Wld) (K : Fg)
def tE (e : Ex) : TE := fun σ H Q => ∃ ι ρ M d M', SimM nm K ι H M /\ EnvR K ι H ρ σ /\ e.den W ρ M = .ok d M' /\ ∀ ι' H' v, Le ι H ι' H' -> SimM nm K ι' H' M' -> Rep K ι' H' d v -> Q v H'
def tQ (e : Ex) : TT := fun σ H Q => ∃ ι ρ M b M', SimM nm K ι H M /\ EnvR K ι H ρ σ /\ e.den W ρ M = .ok (.bl b) M' /\ ∀ ι' H', Le ι H ι' H' -> SimM nm K ι' H' M' -> Q b H'
def tEs (es : Exs) : TA := fun σ H Q => ∃ ι ρ M ds M', SimM nm K ι H M /\ EnvR K ι H ρ σ /\ es.den W ρ M = .ok ds M' /\ ∀ ι' H' vs, Le ι H ι' H' -> SimM nm K ι' H' M' -> RepL K ι' H' ds vs -> Q vs H'
def EndOk (D : Ends) (ι : Io) (H : Hp) (fl : MW.Flow) (ρ : En) (M : Store) : Prop :=
 ∀ ι' H' σ', Le ι H ι' H' -> SimM nm K ι' H' M -> EnvR K ι' H' ρ σ' ->
  match fl with
  | .next => D.nx σ' H'
  | .brk => D.bk σ' H'
  | .cont => D.ct σ' H'
  | .ret d => ∀ v, Rep K ι' H' d v -> D.rt v H'
def tS (st : Stm) : TS := fun D σ H => ∃ ι ρ M fl ρ' M', SimM nm K ι H M /\ EnvR K ι H ρ σ /\ st.den W ρ M = .ok (fl, ρ') M' /\ EndOk nm K D ι H fl ρ' M'
def tSs (st : Stms) : TS := fun D σ H => ∃ ι ρ M fl ρ' M', SimM nm K ι H M /\ EnvR K ι H ρ σ /\ st.den W ρ M = .ok (fl, ρ') M' /\ EndOk nm K D ι H fl ρ' M'
end
section
variable {nm : Nm} {W : Wld} {X : Cx} {a : Expr}
theorem PE.of {e' : Ex} {t : TE} (h : PE X a t) (w : ∀ σ H Q ι ρ M d M', SimM nm X.K ι H M -> EnvR X.K ι H ρ σ -> e'.den W ρ M = .ok d M' -> (∀ ι' H' v, Le ι H ι' H' -> SimM nm X.K ι' H' M' -> Rep X.K ι' H' d v -> Q v H') -> t σ H Q) : PE X a (tE nm W X.K e') := PE.weak h fun σ H Q ⟨ι, ρ, M, d, M', S, R, e, q⟩ => w σ H Q ι ρ M d M' S R e q
theorem PT.of {e' : Ex} {t : TT} (h : PT X a t) (w : ∀ σ H Q ι ρ M b M', SimM nm X.K ι H M -> EnvR X.K ι H ρ σ -> e'.den W ρ M = .ok (.bl b) M' -> (∀ ι' H', Le ι H ι' H' -> SimM nm X.K ι' H' M' -> Q b H') -> t σ H Q) : PT X a (tQ nm W X.K e') := PT.weak h fun σ H Q ⟨ι, ρ, M, d, M', S, R, e, q⟩ => w σ H Q ι ρ M d M' S R e q
theorem PA.of {es : List Expr} {es' : Exs} {t : TA} (h : PA X es t) (w : ∀ σ H Q ι ρ M ds M', SimM nm X.K ι H M -> EnvR X.K ι H ρ σ -> es'.den W ρ M = .ok ds M' -> (∀ ι' H' vs, Le ι H ι' H' -> SimM nm X.K ι' H' M' -> RepL X.K ι' H' ds vs -> Q vs H') -> t σ H Q) : PA X es (tEs nm W X.K es') := PA.weak h fun σ H Q ⟨ι, ρ, M, d, M', S, R, e, q⟩ => w σ H Q ι ρ M d M' S R e q
theorem PS.of {st : Stmt} {s' : Stm} {t : TS} (h : PS X st t) (w : ∀ D σ H ι ρ M fl ρ' M', SimM nm X.K ι H M -> EnvR X.K ι H ρ σ -> s'.den W ρ M = .ok (fl, ρ') M' -> EndOk nm X.K D ι H fl ρ' M' -> t D σ H) : PS X st (tS nm W X.K s') := PS.weak h fun D σ H ⟨ι, ρ, M, fl, ρ', M', S, R, e, q⟩ => w D σ H ι ρ M fl ρ' M' S R e q
theorem PSs.of {st : List Stmt} {s' : Stms} {t : TS} (h : PSs X st t) (w : ∀ D σ H ι ρ M fl ρ' M', SimM nm X.K ι H M -> EnvR X.K ι H ρ σ -> s'.den W ρ M = .ok (fl, ρ') M' -> EndOk nm X.K D ι H fl ρ' M' -> t D σ H) : PSs X st (tSs nm W X.K s') := PSs.weak h fun D σ H ⟨ι, ρ, M, fl, ρ', M', S, R, e, q⟩ => w D σ H ι ρ M fl ρ' M' S R e q
end
section
variable {nm : Nm} {W : Wld} {X : Cx} {a b c : Expr} {a' b' c' : Ex} {pos : Pos} {ι : Io} {H : Hp} {σ : St} {ρ : En} {M M1 M2 : Store} {x y : Dv}
theorem one {G : V -> Hp -> Prop} (S : SimM nm X.K ι H M) (R : EnvR X.K ι H ρ σ) (ha : a'.den W ρ M = .ok x M1)
 (h : ∀ ι1 H1 v, Le ι H ι1 H1 -> SimM nm X.K ι1 H1 M1 -> EnvR X.K ι1 H1 ρ σ -> Rep X.K ι1 H1 x v -> G v H1) : tE nm W X.K a' σ H G :=
 ⟨ι, ρ, M, x, M1, S, R, ha, fun ι' H' v le S' r => h ι' H' v le S' (R.mono le) r⟩
theorem two {G : V -> V -> Hp -> Prop} (S : SimM nm X.K ι H M) (R : EnvR X.K ι H ρ σ) (ha : a'.den W ρ M = .ok x M1) (hb : b'.den W ρ M1 = .ok y M2)
 (h : ∀ ι2 H2 v u, Le ι H ι2 H2 -> SimM nm X.K ι2 H2 M2 -> EnvR X.K ι2 H2 ρ σ -> Rep X.K ι2 H2 x v -> Rep X.K ι2 H2 y u -> G v u H2) :
 tE nm W X.K a' σ H fun v H1 => tE nm W X.K b' σ H1 fun u H2 => G v u H2 :=
 one S R ha fun ι1 H1 v le1 S1 R1 r1 => one S1 R1 hb fun ι2 H2 u le2 S2 R2 r2 => h ι2 H2 v u (le1.trans le2) S2 R2 (r1.mono le2) r2
theorem ay7 {i : Nat} {n : Str} (hN : X.N[i]? = some n) (hv : Vis X.env.scope n) (hd : (n == ("__debug__" : Str)) = false) (hcd : (n == ("__classdict__" : Str)) = false) : PE X (.Name n pos) (tE nm W X.K (.var i)) :=
 PE.of (atu hN hv hd hcd) fun σ H Q ι ρ M d M' S R e q => by
  rw [MW.ai4] at e
  split at e
  . rename_i d' hd
    cases e
    obtain ⟨v, h1, h2⟩ := R.get hd
    exact ⟨v, h1, q ι H v (Le.refl _ _) S h2⟩
  . cases e
theorem ayp {i : Int} {j : Nat} : PE X (.Constant (.int i) j pos) (tE nm W X.K (.cst (.int i))) :=
 PE.of av4 fun σ H Q ι ρ M d M' S R e q => by
  rw [MW.u5] at e; cases e
  exact q ι H _ (Le.refl _ _) S (.int i)
theorem a0d {i : Bool} {j : Nat} : PE X (.Constant (.bool i) j pos) (tE nm W X.K (.cst (.bl i))) :=
 PE.of ax4 fun σ H Q ι ρ M d M' S R e q => by
  rw [MW.u5] at e; cases e
  exact q ι H _ (Le.refl _ _) S (.bl i)
theorem axo {j : Nat} : PE X (.Constant .none j pos) (tE nm W X.K (.cst .non)) :=
 PE.of auo fun σ H Q ι ρ M d M' S R e q => by
  rw [MW.u5] at e; cases e
  exact q ι H _ (Le.refl _ _) S .non
theorem axh {i : Str} {j : Nat} : PE X (.Constant (.str i) j pos) (tE nm W X.K (.cst (.str i))) :=
 PE.of avc fun σ H Q ι ρ M d M' S R e q => by
  rw [MW.u5] at e; cases e
  exact q ι H _ (Le.refl _ _) S (.str i)
theorem awg {n : Str} {i : Int} {t : Tok} (hg : Gl X n) (hm : X.mg n = some (.int i t)) (hd : (n == ("__debug__" : Str)) = false) : PE X (.Name n pos) (tE nm W X.K (.cst (.int i))) :=
 PE.of (asv (v := .int i) hg hm ⟨t, rfl⟩ hd) fun σ H Q ι ρ M d M' S R e q => by
  rw [MW.u5] at e; cases e
  exact q ι H _ (Le.refl _ _) S (.int i)
def rOp (nm : Nm) (K : Fg) (f : Dv -> Dv -> Store -> Res Dv) : R2 := fun v u H Q => ∃ ι M x y d M', SimM nm K ι H M /\ Rep K ι H x v /\ Rep K ι H y u /\ f x y M = .ok d M' /\
 ∀ ι' H' w, Le ι H ι' H' -> SimM nm K ι' H' M' -> Rep K ι' H' d w -> Q w H'
theorem OpR.of {f : Value -> Value -> Sem Value} {g : Dv -> Dv -> Store -> Res Dv} {r : R2} (h : OpR X f r) (w : ∀ v u H Q ι M x y d M', SimM nm X.K ι H M -> Rep X.K ι H x v -> Rep X.K ι H y u -> g x y M = .ok d M' -> (∀ ι' H' w, Le ι H ι' H' -> SimM nm X.K ι' H' M' -> Rep X.K ι' H' d w -> Q w H') -> r v u H Q) : OpR X f (rOp nm X.K g) :=
 OpR.weak h fun v u H Q ⟨ι, M, x, y, d, M', S, rv, ru, e, q⟩ => w v u H Q ι M x y d M' S rv ru e q
theorem ax5 {op : Operator} {op' : Op2} (ho : OpR X (binaryOp op) (rOp nm X.K (MW.iz op'))) (ha : PE X a (tE nm W X.K a')) (hb : PE X b (tE nm W X.K b')) : PE X (.BinOp a op b pos) (tE nm W X.K (.bin op' a' b')) :=
 PE.of (awz ho ha hb) fun σ H Q ι ρ M d M' S R e q => by
  rw [MW.aqe] at e
  obtain ⟨x, M1, e1, e⟩ := aa e
  obtain ⟨y, M2, e2, e⟩ := aa e
  exact two S R e1 e2 fun ι2 H2 v u le S2 _ rv ru => ⟨ι2, M2, x, y, d, M', S2, rv, ru, e, fun ι' H' w le' S' r => q ι' H' w (le.trans le') S' r⟩
theorem ax2 : OpR X (binaryOp .Sub) (rOp nm X.K (MW.iz .sub)) :=
 OpR.of aut fun v u H Q ι M x y d M' S rv ru e q => by
  obtain ⟨i, j, rfl, rfl, e2⟩ := MW.ahd e (by intro z; cases z)
  cases rv; cases ru; cases e2
  exact ⟨_, _, rfl, rfl, q ι H _ (Le.refl _ _) S (.int _)⟩
theorem aj2 {op : Operator} {op' : Op2} {g : Int -> Int -> Int} {P : Int -> Int -> Prop} [∀ i j, Decidable (P i j)] {r : R2} (h : OpR X (binaryOp op) r) (hb : ∀ x y M, MW.iz op' x y M = MW.ii x y (fun i j => if P i j then .ok (.int (g i j)) M else .bad) .bad)
 (w : ∀ i j H Q, P i j -> Q (.int (g i j)) H -> r (.int i) (.int j) H Q) : OpR X (binaryOp op) (rOp nm X.K (MW.iz op')) :=
 OpR.of h fun v u H Q ι M x y d M' S rv ru e q => by
  rw [hb] at e
  obtain ⟨i, j, rfl, rfl, e2⟩ := MW.ahd e (by intro z; cases z)
  by_cases hp : P i j
  . rw [if_pos hp] at e2
    cases rv; cases ru; cases e2
    exact w i j H Q hp (q ι H _ (Le.refl _ _) S (.int _))
  . rw [if_neg hp] at e2; cases e2
theorem ax9 : OpR X (binaryOp .Mult) (rOp nm X.K (MW.iz .mul)) := aj2 awj (fun _ _ _ => rfl) fun i j H Q h q => ⟨_, _, rfl, rfl, h, q⟩
theorem aw1 : OpR X (binaryOp .Mod) (rOp nm X.K (MW.iz .mod)) := aj2 av3 (fun _ _ _ => rfl) fun i j H Q h q => ⟨_, _, rfl, rfl, h, q⟩
theorem atv : OpR X (binaryOp .FloorDiv) (rOp nm X.K (MW.iz .fdiv)) := aj2 aq8 (fun _ _ _ => rfl) fun i j H Q h q => ⟨_, _, rfl, rfl, h, q⟩
theorem aym : OpR X (binaryOp .Pow) (rOp nm X.K (MW.iz .pow)) := aj2 auc (fun _ _ _ => rfl) fun i j H Q h q => ⟨_, _, rfl, rfl, ⟨h.1, by omega, h.2.2⟩, q⟩
theorem cz {d : Dv} {ds : List Dv} {v : V} (S : SimM nm X.K ι H M) (r : Rep X.K ι H d v) (h : MW.asList M d = some ds) : ∃ p vs, v = .ref p /\ H p = some (.lst vs) /\ RepL X.K ι H ds vs := by
 cases r with
 | vl e n r => simp [MW.asList] at h; subst h; exact ⟨_, _, rfl, e, r⟩
 | ref e =>
  rename_i n p
  simp only [MW.asList] at h
  split at h <;> simp at h
  rename_i ds' hn
  subst h
  obtain ⟨vs, h1, h2⟩ := S.obj n _ p hn e
  exact ⟨p, vs, rfl, h1, h2⟩
 | _ => simp [MW.asList] at h
theorem m5 {d : Dv} {ds : List Dv} {v : V} (S : SimM nm X.K ι H M) (r : Rep X.K ι H d v) (h : MW.cu M d = some ds) : ∃ p vs, v = .ref p /\ (H p = some (.lst vs) \/ H p = some (.tup vs)) /\ RepL X.K ι H ds vs := by
 cases r with
 | tup e r => simp [MW.cu] at h; subst h; exact ⟨_, _, rfl, .inr e, r⟩
 | vl e n r =>
  obtain ⟨p, vs, h1, h2, h3⟩ := cz S (.vl e n r) (show MW.asList M _ = _ from h)
  exact ⟨p, vs, h1, .inl h2, h3⟩
 | ref e =>
  obtain ⟨p, vs, h1, h2, h3⟩ := cz S (.ref e) (show MW.asList M _ = _ from h)
  exact ⟨p, vs, h1, .inl h2, h3⟩
 | _ => simp [MW.cu, MW.asList] at h
theorem ag1 {ds : List Dv} {vs : List V} {p : Addr} (S : SimM nm X.K ι H M) (hp : H p = none) (r : RepL X.K ι H ds vs) : SimM nm X.K ι (upd H p (.lst vs)) M /\ Le ι H ι (upd H p (.lst vs)) /\ Rep X.K ι (upd H p (.lst vs)) (.vl ds) (.ref p) := by
 obtain ⟨S1, le⟩ := S.laid hp (.lst vs)
 exact ⟨S1, le, .vl cg (S.fresh hp) (r.mono le)⟩
theorem uy {ds : List Dv} {vs : List V} {p : Addr} (S : SimM nm X.K ι H M) (hp : H p = none) (r : RepL X.K ι H ds vs) : SimM nm X.K ι (upd H p (.tup vs)) M /\ Le ι H ι (upd H p (.tup vs)) /\ Rep X.K ι (upd H p (.tup vs)) (.tup ds) (.ref p) := by
 obtain ⟨S1, le⟩ := S.laid hp (.tup vs)
 exact ⟨S1, le, .tup cg (r.mono le)⟩
theorem ae7 {ds : List Dv} {vs : List V} {p : Addr} (S : SimM nm X.K ι H M) (hp : H p = none) (r : RepL X.K ι H ds vs) : SimM nm X.K (ι.add p) (upd H p (.lst vs)) (M ++ [.lst ds]) /\ Le ι H (ι.add p) (upd H p (.lst vs)) /\ Rep X.K (ι.add p) (upd H p (.lst vs)) (.ref M.length) (.ref p) := by
 obtain ⟨S1, le⟩ := S.new (H' := upd H p (.lst vs)) (o := .lst ds) hp (fun a u e => by rw [au (bc e hp)]; exact e) fun le => ⟨vs, cg, r.mono le⟩
 exact ⟨S1, le, .ref (by show (ι.l ++ [p])[M.length]? = some p; rw [<- S.len]; simp)⟩
theorem aam : (100000 : Nat) <= sizeLine := by decide
theorem aq1 {d : Dv} {M' : Store} (h : MW.iz .add x y M = .ok d M') : (∃ i j, x = .int i /\ y = .int j /\ d = .int (i + j) /\ M' = M) \/
 (∃ xs ys, x = .tup xs /\ y = .tup ys /\ xs.length + ys.length <= 100000 /\ xs.isEmpty = false /\ d = .tup (xs ++ ys) /\ M' = M) \/
 ∃ xs ys, MW.asList M x = some xs /\ MW.asList M y = some ys /\ xs.length + ys.length <= 100000 /\ d = .vl (xs ++ ys) /\ M' = M := by
 have h : MW.aj6 x y M = .ok d M' := h
 unfold MW.aj6 at h
 split at h <;> try cases h
 . exact .inl ⟨_, _, rfl, rfl, rfl, rfl⟩
 . split at h <;> cases h
   rename_i hc
   exact .inr (.inl ⟨_, _, rfl, rfl, hc.1, hc.2, rfl, rfl⟩)
 . split at h
   . split at h <;> cases h
     rename_i h1 h2 hl
     exact .inr (.inr ⟨_, _, h1, h2, hl, rfl, rfl⟩)
   . cases h
theorem ay1 : OpR X (binaryOp .Add) (rOp nm X.K (MW.iz .add)) :=
 OpR.of (op_add.or (op_cat.or aqv)) fun v u H Q ι M x y d M' S rv ru e q => by
  have lists : ∀ xs ys, MW.asList M x = some xs -> MW.asList M y = some ys -> xs.length + ys.length <= 100000 -> d = .vl (xs ++ ys) -> M' = M -> av2 v u H Q := fun xs ys h1 h2 hl hd hm => by
   subst hd hm
   obtain ⟨p, vs, rfl, e1, r1⟩ := cz S rv h1
   obtain ⟨p2, vs2, rfl, e2, r2⟩ := cz S ru h2
   refine ⟨p, p2, vs, vs2, rfl, rfl, e1, e2, ?_, fun p3 h3 => ?_⟩
   . rw [<- r1.length, <- r2.length]; exact Nat.le_trans hl aam
   . obtain ⟨a, b, c⟩ := ag1 S h3 (r1.append r2)
     exact q ι _ _ b a c
  rcases aq1 e with ⟨i, j, rfl, rfl, rfl, rfl⟩ | ⟨xs, ys, rfl, rfl, hl, h2, rfl, rfl⟩ | ⟨xs, ys, h1, h2, hl, h3, h4⟩
  . cases rv; cases ru
    exact .inl ⟨_, _, rfl, rfl, q ι H _ (Le.refl _ _) S (.int _)⟩
  . cases rv with
    | tup e1 r1 =>
     cases ru with
     | tup e2 r2 =>
      refine .inr (.inr ⟨_, _, _, _, rfl, rfl, SqT.of e1, SqT.of e2, ?_, ?_, fun hn => ?_, fun _ p hp => ?_⟩)
      . intro z
        have := r1.length
        rw [z] at this
        rw [List.length_eq_zero_iff.mp this] at h2
        cases h2
      . rw [<- r1.length, <- r2.length]; exact Nat.le_trans hl aam
      . have := r2.length
        rw [hn] at this
        rw [List.length_eq_zero_iff.mp this, List.append_nil] at q
        exact q ι H _ (Le.refl _ _) S (.tup e1 r1)
      . obtain ⟨a, b, c⟩ := uy S hp (r1.append r2)
        exact q ι _ _ b a c
  . exact .inr (.inl (lists _ _ h1 h2 hl h3 h4))
end
end Sm
namespace L2
open PySem PySem.Spec PyProof.Rows
def jr (cells : List (Str × Addr)) : List (Str × NameKind) -> List (Str × Addr) -> List (Str × Addr)
 | [], cs => cs
 | (n, k) :: r, cs => jr cells r (if k == .free then (n, (cells.lookup n).getD 0) :: cs else cs)
theorem acp {α β : Type} {f : α -> β -> Sem (ForInStep β)} {g : α -> β -> β} : ∀ {l : List α} (c : β), (∀ x ∈ l, ∀ c, f x c = pure (.yield (g x c))) -> forIn l c f = pure (l.foldl (fun c x => g x c) c)
 | [], c, _ => rfl
 | x :: l, c, h => by
  rw [List.forIn_cons, h x List.mem_cons_self, pure_bind]
  exact acp (g x c) fun y hy => h y (List.mem_cons_of_mem _ hy)
theorem acs (cells : List (Str × Addr)) : ∀ (l : List (Str × NameKind)) (cs : List (Str × Addr)), jr cells l cs = l.foldl (fun c x => if x.2 == .free then (x.1, (cells.lookup x.1).getD 0) :: c else c) cs
 | [], _ => rfl
 | (n, k) :: r, cs => acs cells r _
theorem afi {scope : Scope} {env : Env} (h : ∀ y ∈ scope.names, y.2 = .free -> ∃ c, env.cells.lookup y.1 = some c) : closureFor scope env = pure (jr env.cells scope.names []) := by
 simp only [closureFor]
 rw [acp (g := fun x c => if x.2 == .free then (x.1, (env.cells.lookup x.1).getD 0) :: c else c) [] (fun x hx c => by
  obtain ⟨n, k⟩ := x
  by_cases hk : k = .free
  . subst hk
    obtain ⟨c', hc⟩ := h (n, .free) hx rfl
    have hc : env.cells.lookup n = some c' := hc
    simp [cellOf, hc]
  . have hb : (k == NameKind.free) = false := by simpa using hk
    simp [hb]), acs]
 rfl
theorem ah2 (cells : List (Str × Addr)) : ∀ (l : List (Str × NameKind)) (cs : List (Str × Addr)) (x : Str) (c : Addr), (∀ y ∈ l, y.2 = .free -> ∃ c, cells.lookup y.1 = some c) -> (jr cells l cs).lookup x = some c ->
 cs.lookup x = some c \/ cells.lookup x = some c
 | [], cs, x, c, _, h => .inl h
 | (n, k) :: r, cs, x, c, hy, h => by
  rcases ah2 cells r _ x c (fun z hz => hy z (List.mem_cons_of_mem _ hz)) h with q | q
  . by_cases hk : k = .free
    . subst hk
      simp only [beq_self_eq_true, if_true, List.lookup_cons] at q
      cases e : x == n with
      | true =>
       rw [e] at q
       obtain ⟨c', hc⟩ := hy (n, .free) List.mem_cons_self rfl
       have hc : cells.lookup n = some c' := hc
       simp only [hc, Option.getD_some, Option.some.injEq] at q
       subst q
       rw [eq_of_beq e]
       exact .inr hc
      | false => rw [e] at q; exact .inl q
    . have hb : (k == NameKind.free) = false := by simpa using hk
      simp only [hb, Bool.false_eq_true, if_false] at q
      exact .inl q
  . exact .inr q
theorem ad0 (cells : List (Str × Addr)) : ∀ (l : List (Str × NameKind)) (cs : List (Str × Addr)) (x : Str), (∃ c, cs.lookup x = some c) -> ∃ c, (jr cells l cs).lookup x = some c
 | [], cs, x, h => h
 | (n, k) :: r, cs, x, h => by
  refine ad0 cells r _ x ?_
  by_cases hk : (k == NameKind.free) = true
  . rw [if_pos hk, List.lookup_cons]
    cases e : x == n with
    | true => exact ⟨_, rfl⟩
    | false => exact h
  . rw [if_neg hk]; exact h
theorem ab0 (cells : List (Str × Addr)) : ∀ (l : List (Str × NameKind)) (cs : List (Str × Addr)) (x : Str), (x, NameKind.free) ∈ l -> ∃ c, (jr cells l cs).lookup x = some c
 | (n, k) :: r, cs, x, h => by
  rcases List.mem_cons.mp h with q | q
  . obtain ⟨rfl, rfl⟩ := Prod.mk.inj q
    refine ad0 cells r _ x ⟨(cells.lookup x).getD 0, ?_⟩
    rw [if_pos (by simp), List.lookup_cons, beq_self_eq_true]
  . exact ab0 cells r _ x q
theorem aai {env : Env} : ∀ {names : List (Str × NameKind)} {x : Str},
 (names.map fun (y : Str × NameKind) => if (y.2 == NameKind.free && env.scope.kind == .function && env.kindOf y.1 == some .cell) then (y.1, NameKind.cell) else (y.1, y.2)).lookup x
  = (names.lookup x).map fun k => if (k == NameKind.free && env.scope.kind == .function && env.kindOf x == some .cell) then NameKind.cell else k
 | [], _ => rfl
 | (n, k) :: r, x => by
  have ih := @aai env r x
  rw [List.map_cons]
  cases hx : x == n with
  | true =>
   have e := eq_of_beq hx
   subst e
   clear hx
   by_cases hc : (k == NameKind.free && env.scope.kind == .function && env.kindOf x == some .cell) = true
   . simp only [hc, if_true, List.lookup_cons, beq_self_eq_true, Option.map_some]
   . have hb : (k == NameKind.free && env.scope.kind == .function && env.kindOf x == some .cell) = false := by simpa using hc
     simp only [hb, Bool.false_eq_true, if_false, List.lookup_cons, beq_self_eq_true, Option.map_some]
  | false =>
   by_cases hc : (k == NameKind.free && env.scope.kind == .function && env.kindOf n == some .cell) = true
   . simp only [hc, if_true, List.lookup_cons, hx]; exact ih
   . simp only [hc, List.lookup_cons, hx]; simpa [List.lookup_cons, hx] using ih
theorem mem_of_lookup {α β : Type} [BEq α] [LawfulBEq α] : ∀ {l : List (α × β)} {x : α} {y : β}, l.lookup x = some y -> (x, y) ∈ l
 | (a, b) :: r, x, y, h => by
  rw [List.lookup_cons] at h
  cases e : x == a with
  | true => rw [e] at h; cases h; rw [eq_of_beq e]; exact List.mem_cons_self
  | false => rw [e] at h; exact List.mem_cons_of_mem _ (mem_of_lookup h)
def blk (X : Cx) (N : List Str) (scope : Scope) (C : Addr) (fp : List Addr) (s : Shared) (H : Hp) : Cx where
 prog := X.prog
 w := X.w
 K := X.K
 mg := X.mg
 base := X.base
 A := X.A
 N := N
 s₀ := s
 H₀ := H
 env := compEnvC scope (jr X.env.cells scope.names []) C X.env
 outer := X.stack
 stack := X.stack
 ex := fp
 fn := fun _ => false
 calm := X.calm
 pn := []
 xe := fun _ _ => False
structure BlkOk (X : Cx) (N : List Str) (scope : Scope) : Prop where
 kind : scope.kind = .function
 nocell : ∀ y ∈ scope.names, y.2 ≠ .cell
 locs : ∀ y ∈ scope.names, y.2 = .local -> scope.names.lookup y.1 = some .local
 frees : ∀ y ∈ scope.names, y.2 = .free -> X.env.kindOf y.1 = some .cell \/ X.env.kindOf y.1 = some .free
 uniq : ∀ x k, (x, k) ∈ scope.names -> scope.names.lookup x = some k
 long : X.N.length <= N.length
 vis : ∀ i x, i < X.N.length -> N[i]? = some x -> Vis (relabel scope X.env) x -> X.N[i]? = some x /\ scope.names.lookup x = some .free
section
variable {X : Cx} {N : List Str} {scope : Scope} {pins : List (Addr × Obj)} {σ : St} {H : Hp} {s : Shared} {fp : List Addr}
theorem BlkOk.cells (B : BlkOk X N scope) (ok : X.Ok) : ∀ y ∈ scope.names, y.2 = .free -> ∃ c, X.env.cells.lookup y.1 = some c := fun y hy hk => ok.has y.1 (B.frees y hy hk)
theorem BlkOk.clos (B : BlkOk X N scope) (ok : X.Ok) : closureFor scope X.env = pure (jr X.env.cells scope.names []) := afi (B.cells ok)
theorem BlkOk.inCells (B : BlkOk X N scope) (ok : X.Ok) {x : Str} {c : Addr} (h : (jr X.env.cells scope.names []).lookup x = some c) : X.env.cells.lookup x = some c := by
 rcases ah2 _ _ _ _ _ (B.cells ok) h with q | q
 . simp at q
 . exact q
theorem ahu (x : Str) {C : Addr} : (compEnvC scope (jr X.env.cells scope.names []) C X.env).kindOf x = (scope.names.lookup x).map fun k => if (k == NameKind.free && X.env.scope.kind == .function && X.env.kindOf x == some .cell) then NameKind.cell else k := by
 show (relabel scope X.env).names.lookup x = _
 exact aai
theorem ale {h₁ : Heap} {t : Nat} (B : BlkOk X N scope) (I : Inv X pins σ H s) (hf : ∀ b ∈ fp, ud X pins H b) (hfo : ∀ b ∈ fp, ∃ o, s.heap.get? b = some o)
 (hns : h₁.Ns (s.heap.objs.size + 1) fun _ => none)
 (hk : ∀ b o, s.heap.get? b = some o -> h₁.get? b = some o) (hacc : h₁.get? s.heap.objs.size = some { cls := .type "list", data := .seq ([] : List Value).toArray }) :
 Inv (blk X N scope (s.heap.objs.size + 1) fp s H) [] (σ ++ List.replicate (N.length - X.N.length) none) (upd H s.heap.objs.size (.lst [])) { s with heap := h₁, toks := t } := by
 have ok := I.ok
 have hD : H s.heap.objs.size = none := I.hok.fresh (Nat.le_refl _)
 have hC : H (s.heap.objs.size + 1) = none := I.hok.fresh (Nat.le_succ _)
 have hCD : s.heap.objs.size + 1 ≠ s.heap.objs.size := Nat.succ_ne_self _
 have lt : ∀ b ∈ fp, b < s.heap.objs.size := fun b hb => by obtain ⟨o, e⟩ := hfo b hb; exact Heap.lt_size e
 have clt : ∀ x c, X.env.cells.lookup x = some c -> c < s.heap.objs.size := fun x c e => by obtain ⟨v, o, ho, _⟩ := I.cell x c e; exact Heap.lt_size ho
 refine ⟨⟨ok.mod, B.kind, ok.glob, ok.blt, Nat.le_succ _, ?_, ?_, ?_, ok.hd, ok.frames, .inl rfl, ?_, fun b o e => I.bs b o e, Nat.le_trans ok.bsz I.sz, ?_, ?_, I.stack, I.stkFree⟩, rfl, I.bare, ?_, ?_, ?_, ?_, ?_, ?_, ?_, ?_⟩
 . intro x y c hx hy
   exact ok.inj x y c (B.inCells ok hx) (B.inCells ok hy)
 . intro x hx
   rw [show (blk X N scope (s.heap.objs.size + 1) fp s H).env.kindOf x = _ from ahu x] at hx
   cases e : scope.names.lookup x with
   | none => rw [e] at hx; rcases hx with q | q <;> simp at q
   | some k =>
    have hfree : k = .free := by
     rw [e] at hx
     cases k with
     | free => rfl
     | cell => exact absurd rfl (B.nocell _ (mem_of_lookup e))
     | «local» => rcases hx with q | q <;> simp at q
     | globalExplicit => rcases hx with q | q <;> simp at q
     | globalImplicit => rcases hx with q | q <;> simp at q
    subst hfree
    exact ab0 _ _ _ _ (mem_of_lookup e)
 . intro x c h; cases h
 . intro b hb
   refine ⟨fun e => ?_, fun x c hc e => ?_⟩
   . have q := lt b hb
     have e : b = s.heap.objs.size + 1 := e
     rw [e] at q
     exact absurd q (Nat.not_lt.mpr (Nat.le_succ _))
   . obtain ⟨_, _, _, _, f4, _⟩ := hf b hb
     exact f4 x c (B.inCells ok hc) e
 . intro b o e hb
   obtain ⟨_, _, _, f3, _⟩ := hf b hb
   rcases f3 with q | q
   . exact ok.noex b o e q
   . exact Nat.lt_irrefl _ (Nat.lt_of_lt_of_le (Heap.lt_size e) (Nat.le_trans ok.bsz q))
 . intro b hb q
   obtain ⟨_, f1, f2, _⟩ := hf b hb
   rcases List.mem_cons.mp (I.stkSub b q) with z | z
   . exact f1 z
   . exact f2 z
 . exact Un.laid hk (Nat.le_refl _) hD
 . refine ⟨_, hns, fun i x v hN hσ hv => ?_⟩
   have hi : i < X.N.length := by
    rcases Nat.lt_or_ge i σ.length with q | q
    . rw [I.len] at q; exact q
    . rw [List.getElem?_append_right q] at hσ
      rw [List.getElem?_replicate] at hσ
      split at hσ <;> simp at hσ
   rw [List.getElem?_append_left (by rw [I.len]; exact hi)] at hσ
   obtain ⟨hx, hfree⟩ := B.vis i x hi hN hv
   obtain ⟨m, _, hl⟩ := I.loc
   have hkx := B.frees _ (mem_of_lookup hfree) rfl
   have hvx : Vis X.env.scope x := by
    rcases hkx with q | q
    . exact .inr (.inl q)
    . exact .inr (.inr q)
   obtain ⟨u, ru, lu⟩ := hl i x v hx hσ hvx
   refine ⟨u, ru, .inr ⟨?_, ?_⟩⟩
   . rw [show (blk X N scope (s.heap.objs.size + 1) fp s H).env.kindOf x = _ from ahu x, hfree]
     simp only [Option.map_some]
     split
     . exact .inl rfl
     . exact .inr rfl
   . rcases lu with ⟨q, _⟩ | ⟨_, c, hc, ic⟩
     . rcases hkx with z | z <;> rw [q] at z <;> cases z
     . obtain ⟨c', hc'⟩ := ab0 X.env.cells scope.names [] x (mem_of_lookup hfree)
       have := B.inCells ok hc'
       rw [hc] at this
       cases this
       exact ⟨c, hc', ic.keeps hk⟩
 . intro x c hc
   obtain ⟨v, iv⟩ := I.cell x c (B.inCells ok hc)
   exact ⟨v, iv.keeps hk⟩
 . show upd H s.heap.objs.size (.lst []) (s.heap.objs.size + 1) = none
   rw [au hCD]; exact hC
 . intro x c hc
   have hc' := B.inCells ok hc
   rw [au (Nat.ne_of_lt (clt x c hc'))]
   exact I.freeC x c hc'
 . intro p hp; simp [blk] at hp
 . exact HOk.laid I.hok hk (Nat.le_refl _) ⟨Nat.zero_le _, [], 0, .nil, hacc⟩
 . show (σ ++ List.replicate (N.length - X.N.length) none).length = N.length
   rw [List.length_append, List.length_replicate, I.len]
   have := B.long
   omega
end
section
variable {prog : Program} {w : World} {A : Around} {R : Result -> Shared -> Prop} {s : Shared}
theorem aay {elt target iter : Expr} {ifs : List Expr} {scope : Scope} {pos : Pos} {it acc : Value} {env : Env} (I : Nat -> Shared -> Prop)
 (turn : ∀ n s, I n s -> wpAny (model prog w) A (pyNext it) (fun r s₁ => match r with
  | none => R (.ok .next) s₁
  | some v => wpAny (model prog w) A (letOwnedTupleGo target it v) (fun _ s₁' => wpAny (model prog w) A (assign target env v) (fun _ s₂ =>
   wpAny (model prog w) A (forIn ifs true fun c r => if r = true then do let ok <- isTrue c env (eval c env); pure (ForInStep.yield ok) else pure (ForInStep.yield r)) (fun ok s₃ =>
    if ok = true then wpAny (model prog w) A (eval elt env) (fun x s₄ =>
     wpAny (model prog w) A (call (.builtin "list.append") [acc, x]) (fun _ s₅ => ∃ m, m < n /\ I m s₅) (fun _ _ => False) s₄) (fun _ _ => False) s₃
    else ∃ m, m < n /\ I m s₃) (fun _ _ => False) s₂) (fun _ _ => False) s₁') (fun _ _ => False) s₁) (fun _ _ => False) s)
 (n : Nat) (h : I n s) :
 codeAny (model prog w) A (.compLoop (.ListComp elt [⟨target, iter, ifs, 0⟩] scope pos) 0 it acc env) R s := by
 have nv : ∀ {α : Type} {t : Sem α} {Q : α -> Shared -> Prop} {E : Value -> Shared -> Prop} {s : Shared}, wpAny (model prog w) A t Q (fun _ _ => False) s -> wpAny (model prog w) A t Q E s := fun h => wpAny_mono h (fun _ _ q => q) fun _ _ f => f.elim
 refine codeAny_loop rfl I (fun n s hI => ?_) n h
 show wpAny _ A ((compTurn (.ListComp elt [⟨target, iter, ifs, 0⟩] scope pos) 0 it acc env).onRaise (fun x => do noteFrame x env; theTreesLotGoes x)) _ _ s
 refine wpAny_noted ?_
 rw [compTurn_list]
 refine wpAny_bind (wpAny_standAt (wpAny_bind (wpAny_mono (turn n s hI) (fun r s₁ h₁ => ?_) fun _ _ h' => h'.elim)))
 cases r with
 | none => exact wpAny_pure h₁
 | some v =>
  refine wpAny_bind (wpAny_mono h₁ (fun _ s₁' h₁' => ?_) fun _ _ h' => h'.elim)
  refine wpAny_bind (wpAny_mono h₁' (fun _ s₂ h₂ => wpAny_bind (wpAny_mono h₂ (fun ok s₃ h₃ => ?_) fun _ _ h' => h'.elim)) fun _ _ h' => h'.elim)
  cases ok with
  | false => exact wpAny_pure ⟨rfl, h₃⟩
  | true =>
   exact wpAny_bind (wpAny_bind (wpAny_mono h₃ (fun x s₄ h₄ => wpAny_bind (wpAny_mono h₄ (fun _ s₅ h₅ => wpAny_pure (wpAny_pure ⟨rfl, h₅⟩)) fun _ _ h' => h'.elim)) fun _ _ h' => h'.elim))
end
def aeb (k : Nat) (wi : TI) (g : TG) (tc : TT) (te : TE) : TE := fun σ H Q => wi σ H fun J H1 => ∀ D, H1 D = none -> ∃ W : Nat -> Nat -> Hp -> Prop, (∃ m, W 0 m (upd H1 D (.lst []))) /\ ∀ i m H, W i m H ->
 (J.stop i H /\ Q (.ref D) H) \/ (J.go i H /\ ∀ x H', J.yld i H x H' -> g x (σ ++ List.replicate k none) H' fun σ2 H2 => σ2.length = (σ ++ List.replicate k none).length /\
  (∀ (j : Nat) v, (σ ++ List.replicate k none)[j]? = some (some v) -> σ2[j]? = some (some v)) /\ tc σ2 H2 fun b H3 =>
   if b = true then te σ2 H3 fun v H4 => ∃ xs m', H4 D = some (.lst xs) /\ xs.length < sizeLine /\ m' < m /\ W (i + 1) m' (upd H4 D (.lst (xs ++ [v]))) else ∃ m', m' < m /\ W (i + 1) m' H3)
def PTs (X : Cx) (ifs : List Expr) (tc : TT) : Prop := (ifs = [] /\ tc = fun _ H Q => Q true H) \/ ∃ c, ifs = [c] /\ PT X c tc
section
variable {X : Cx} {N : List Str} {scope : Scope} {pins : List (Addr × Obj)} {σ : St} {H H3 : Hp} {s s3 : Shared} {fp : List Addr} {elt tg iter : Expr} {ifs : List Expr} {pos : Pos} {wi : TI} {g : TG} {tc : TT} {te : TE}
theorem aft {σ3 : St} (I : Inv X pins σ H s) (hf : ∀ b ∈ fp, ud X pins H b) (J : Inv (blk X N scope (s.heap.objs.size + 1) fp s H) [] σ3 H3 s3) : Inv X pins σ H3 s3 /\ ∃ m, s3.heap.Ns (s.heap.objs.size + 1) m := by
 refine ⟨I.call' J.os J.base J.hok J.bare fun b hb => ?_, ?_⟩
 . obtain ⟨_, f1, _, f3, f4, f5⟩ := hf b hb
   exact ⟨f3, f1, f4, f5⟩
 . obtain ⟨m, hn, _⟩ := J.loc
   exact ⟨m, hn⟩
theorem al8 {h' : Heap} (I : Inv X pins σ H s) (I3 : Inv X pins σ H3 s3) (hC : H3 (s.heap.objs.size + 1) = none) (hs : Heap.SameBut (s.heap.objs.size + 1) s3.heap h') : Inv X pins σ H3 { s3 with heap := h' } := by
 have big : ∀ b o, s.heap.get? b = some o -> b ≠ s.heap.objs.size + 1 := fun b o e z => by
  have := Heap.lt_size e
  rw [z] at this
  exact absurd this (Nat.not_lt.mpr (Nat.le_succ _))
 refine I3.turned (t' := s3.toks) (fun b o hb e => hs.extBut b o hb e) hC ?_ (.inr (Nat.le_trans I.sz (Nat.le_succ _))) ?_ ?_
 . intro e
   obtain ⟨m, ⟨o, _, _, ho, _⟩, _⟩ := I.loc
   exact big _ o ho e.symm
 . intro x c hc
   obtain ⟨v, o, ho, _⟩ := I.cell x c hc
   exact big c o ho
 . intro p hp
   exact big p.1 p.2 (I.pin p hp).1
theorem aec {E : Value -> Shared -> Prop} {it : Addr} {tn : Nat -> Heap -> Prop} {J : It} {RR : Value -> Addr -> Result -> Shared -> Prop} (B : BlkOk X N scope) (hcalm : X.calm = true) (I : Inv X pins σ H s) (hf : ∀ b ∈ fp, ud X pins H b)
 (T : Turn X.prog X.w X.K tg J fp it tn) (h0 : tn 0 s.heap)
 (hg : ∀ C s H, PG (blk X N scope C fp s H) tg g) (hc : ∀ C s H, PTs (blk X N scope C fp s H) ifs tc) (he : ∀ C s H, PE (blk X N scope C fp s H) elt te) {Q : VK}
 (W : Nat -> Nat -> Hp -> Prop) {m0 : Nat} (w0 : W 0 m0 (upd H s.heap.objs.size (.lst [])))
 (turn : ∀ i m H, W i m H -> (J.stop i H /\ Q (.ref s.heap.objs.size) H) \/ (J.go i H /\ ∀ x H', J.yld i H x H' -> g x (σ ++ List.replicate (N.length - X.N.length) none) H' fun σ2 H2 => σ2.length = (σ ++ List.replicate (N.length - X.N.length) none).length /\
  (∀ (j : Nat) v, (σ ++ List.replicate (N.length - X.N.length) none)[j]? = some (some v) -> σ2[j]? = some (some v)) /\ tc σ2 H2 fun b H3 =>
   if b = true then te σ2 H3 fun v H4 => ∃ xs m', H4 s.heap.objs.size = some (.lst xs) /\ xs.length < sizeLine /\ m' < m /\ W (i + 1) m' (upd H4 s.heap.objs.size (.lst (xs ++ [v]))) else ∃ m', m' < m /\ W (i + 1) m' H3))
 (hRR : ∀ σ3 H3 s3, Inv (blk X N scope (s.heap.objs.size + 1) fp s H) [] σ3 H3 s3 -> Q (.ref s.heap.objs.size) H3 -> RR (.ref s.heap.objs.size) (s.heap.objs.size + 1) (.ok .next) s3) :
 wpAny (model X.prog X.w) X.A (newList []) (fun acc s₃ => wpAny (model X.prog X.w) X.A (newFunctionEnv scope X.env.globals (jr X.env.cells scope.names []) [] X.env.qual none .none (some X.env)) (fun cenv s₄ =>
  codeAny (model X.prog X.w) X.A (.compStart (.ListComp elt [⟨tg, iter, ifs, 0⟩] scope pos) 0 (.ref it) acc { cenv with scope := relabel scope X.env }) (RR acc cenv.locals) s₄) E s₃) E s := by
 refine wpAny_newObj_type (wpAny_newFunctionEnv B.nocell (by intro y hy; simp at hy) (fun h₁ hns₁ hsb₁ => ?_) B.kind)
 dsimp only at hns₁ hsb₁ ⊢
 have hsz : (s.heap.push { cls := .type "list", dict := none, data := .seq ([] : List Value).toArray }).objs.size = s.heap.objs.size + 1 := Heap.size_push _ _
 rw [hsz] at hns₁ hsb₁
 have old : ∀ b o, s.heap.get? b = some o -> h₁.get? b = some o := fun b o e => hsb₁.extBut b o (fun z => absurd (Heap.lt_size e) (by rw [z]; exact Nat.not_lt.mpr (Nat.le_succ _))) (Heap.get?_push_of_some _ (Heap.get?_push_of_some _ e))
 have hacc : h₁.get? s.heap.objs.size = some { cls := .type "list", data := .seq ([] : List Value).toArray } := hsb₁.extBut _ _ (Nat.ne_of_lt (Nat.lt_succ_self _)) (Heap.get?_push_of_some _ (Heap.get?_push_size _ rfl))
 have hfo : ∀ b ∈ fp, ∃ o, s.heap.get? b = some o := fun b hb => let ⟨o, e, _⟩ := T.obj 0 _ h0 b hb; ⟨o, e⟩
 have I0 := ale (t := s.toks + ([] : List (Str × Value)).length) B I hf hfo hns₁ old hacc
 have stat : ∀ {H' : Hp}, (∀ b ∈ fp, H' b = none) -> ∀ b ∈ fp, ud (blk X N scope (s.heap.objs.size + 1) fp s H) [] H' b := fun hn b hb => by
  obtain ⟨f0, f1, f2, f3, f4, f5⟩ := hf b hb
  refine ⟨hn b hb, ?_, ?_, .inl hb, ?_, fun p hp => (by simp [blk] at hp)⟩
  . intro z
    obtain ⟨o, e⟩ := hfo b hb
    have := Heap.lt_size e
    rw [show b = s.heap.objs.size + 1 from z] at this
    exact absurd this (Nat.not_lt.mpr (Nat.le_succ _))
  . intro q
    rcases List.mem_cons.mp (I.stkSub b q) with z | z
    . exact f1 z
    . exact f2 z
  . intro x c hc
    exact f4 x c (B.inCells I.ok hc)
 have fr0 : ∀ b ∈ fp, upd H s.heap.objs.size (.lst []) b = none := fun b hb => by
  obtain ⟨o, e⟩ := hfo b hb
  rw [au (Nat.ne_of_lt (Heap.lt_size e))]
  exact (hf b hb).1
 have loop : ∀ s' : Shared, s' = { s with heap := h₁, toks := s.toks + ([] : List (Str × Value)).length } -> codeAny (model X.prog X.w) X.A (.compLoop (.ListComp elt [⟨tg, iter, ifs, 0⟩] scope pos) 0 (.ref it) (.ref s.heap.objs.size) (compEnvC scope (jr X.env.cells scope.names []) (s.heap.objs.size + 1) X.env))
  (RR (.ref s.heap.objs.size) (s.heap.objs.size + 1)) s' := by
  rintro s' rfl
  refine aay (fun n s' => ∃ i σ' H', Inv (blk X N scope (s.heap.objs.size + 1) fp s H) [] σ' H' s' /\ (∀ (j : Nat) v, (σ ++ List.replicate (N.length - X.N.length) none)[j]? = some (some v) -> σ'[j]? = some (some v)) /\ tn i s'.heap /\ (∀ b ∈ fp, H' b = none) /\ W i n H') ?_ m0
   ⟨0, _, _, I0, fun _ _ z => z, T.keep 0 _ _ h0 (fun b _ o e => old b o e), fr0, w0⟩
  rintro n s3 ⟨i, σ3, H3, I3, k3, st3, fr3, w3⟩
  have I3' := I3.weak (σ' := σ ++ List.replicate (N.length - X.N.length) none) (by rw [I3.len]; exact I0.len) k3
  rcases turn i n H3 w3 with ⟨stop, qn⟩ | ⟨go, step⟩
  . refine thn (T.done (blk X N scope (s.heap.objs.size + 1) fp s H) rfl rfl rfl hcalm i [] s3 _ H3 (fun _ _ => False) I3' (stat fr3) st3 stop) fun r s4 ⟨hr, I4⟩ => ?_
    subst hr
    exact hRR _ _ _ I4 qn
  . refine thn (T.item (blk X N scope (s.heap.objs.size + 1) fp s H) rfl rfl rfl hcalm i [] s3 _ H3 (fun _ _ => False) I3' (stat fr3) st3 go) fun r s4 ⟨u, hr, h4⟩ => ?_
    subst hr
    refine thn h4 fun _ s5 ⟨x, H5, I5, r5, y5, st5, fr5⟩ => ?_
    have I5' := I5.pinned (stat fr5) (T.obj _ _ st5)
    refine thn (hg _ _ _ _ s5 _ H5 x u _ I5' r5 (step x H5 y5)) fun _ s6 ⟨σ6, H6, I6, l6, k6, q6⟩ => ?_
    have again : ∀ {pins' : List (Addr × Obj)} {H7 : Hp} {s7 : Shared} {m : Nat}, Inv (blk X N scope (s.heap.objs.size + 1) fp s H) ([] ++ aaf fp s5.heap) σ6 H7 s7 -> m < n -> W (i + 1) m H7 ->
     ∃ m, m < n /\ ∃ i σ' H', Inv (blk X N scope (s.heap.objs.size + 1) fp s H) [] σ' H' s7 /\ (∀ (j : Nat) v, (σ ++ List.replicate (N.length - X.N.length) none)[j]? = some (some v) -> σ'[j]? = some (some v)) /\ tn i s7.heap /\ (∀ b ∈ fp, H' b = none) /\ W i m H' := fun {_ H7 s7 m} I7 hm w7 => by
     refine ⟨m, hm, i + 1, σ6, H7, I7.unpinned, k6, T.keep _ _ _ st5 fun b hb o e => (I7.pin (b, o) (List.mem_append_right _ (List.mem_append_right _ (ur hb e)))).1, fun b hb => ?_, w7⟩
     obtain ⟨o, e, d⟩ := T.obj _ _ st5 b hb
     exact (I7.pin (b, o) (List.mem_append_right _ (List.mem_append_right _ (ur hb e)))).2.1
    have tests : wpAny (model X.prog X.w) X.A (forIn ifs true fun c r => if r = true then do let ok <- isTrue c (compEnvC scope (jr X.env.cells scope.names []) (s.heap.objs.size + 1) X.env) (eval c (compEnvC scope (jr X.env.cells scope.names []) (s.heap.objs.size + 1) X.env)); pure (ForInStep.yield ok) else pure (ForInStep.yield r))
     (TP (blk X N scope (s.heap.objs.size + 1) fp s H) ([] ++ aaf fp s5.heap) σ6 fun b H3 =>
      if b = true then te σ6 H3 fun v H4 => ∃ xs m', H4 s.heap.objs.size = some (.lst xs) /\ xs.length < sizeLine /\ m' < n /\ W (i + 1) m' (upd H4 s.heap.objs.size (.lst (xs ++ [v]))) else ∃ m', m' < n /\ W (i + 1) m' H3) (fun _ _ => False) s6 := by
     rcases hc (s.heap.objs.size + 1) s H with ⟨rfl, rfl⟩ | ⟨c, rfl, hpt⟩
     . exact wpAny_tests_nil ⟨H6, I6, q6⟩
     . exact wpAny_tests_one (hpt _ s6 σ6 H6 _ I6 q6)
    refine thn tests fun ok s7 ⟨H7, I7, q7⟩ => ?_
    cases ok with
    | false =>
     obtain ⟨m', hm, w7⟩ := (show ∃ m', m' < n /\ W (i + 1) m' H7 from q7)
     exact again (pins' := []) I7 hm w7
    | true =>
     show wpAny _ _ _ _ _ _
     refine thn (he _ _ _ _ s7 σ6 H7 _ I7 q7) fun x s8 ⟨v, H8, I8, r8, xs, m', hD, hl, hm, w8⟩ => ?_
     refine thn (afk _ s8 σ6 H8 (.ref s.heap.objs.size) [v] (.ref s.heap.objs.size) [x] (fun _ H' => W (i + 1) m' H') I8 rfl (.cons r8 .nil) ⟨_, xs, v, rfl, rfl, hD, hl, w8⟩) fun _ s9 ⟨_, H9, I9, _, w9⟩ => ?_
     exact again (pins' := []) I9 hm w9
 rw [hsz]
 exact codeAny_compStart_list (loop _ rfl) (T.self _ 0 _ _ _ (T.keep 0 _ _ h0 (fun b _ o e => old b o e)) (loop _ rfl))
end
section
variable {X : Cx} {N : List Str} {scope : Scope} {elt tg iter : Expr} {ifs : List Expr} {pos spos : Pos} {wi : TI} {g : TG} {tc : TT} {te : TE}
theorem aim (B : BlkOk X N scope) (hcalm : X.calm = true) (hi : PI X tg iter wi) (hg : ∀ C fp s H, PG (blk X N scope C fp s H) tg g) (hc : ∀ C fp s H, PTs (blk X N scope C fp s H) ifs tc) (he : ∀ C fp s H, PE (blk X N scope C fp s H) elt te)
 (hs : ∀ x, foldedSetIterable iter X.env x = pure x) : PE X (.ListComp elt [⟨tg, iter, ifs, 0⟩] scope pos) (aeb (N.length - X.N.length) wi g tc te) := by
 intro pins s σ H Q I h
 rw [eval_ListComp]
 refine wpAny_comprehension_free (use := none) rfl hs (B.clos I.ok) B.kind B.locs (thn (hi pins s σ H _ I h) fun v s1 h1 => thn h1 fun itv s2 h2 => ?_)
 obtain ⟨it, fp, tn, J, H2, rfl, I2, T, st2, f2, q2⟩ := h2
 obtain ⟨W, ⟨m0, w0⟩, turn⟩ := q2 s2.heap.objs.size (I2.hok.fresh (Nat.le_refl _))
 refine aec (RR := fun acc C => compPost (model X.prog X.w) X.A X.xe none (EP X pins σ Q) acc C) B hcalm I2 f2 T st2 (fun C s H => hg C fp s H) (fun C s H => hc C fp s H) (fun C s H => he C fp s H) W w0 turn ?_
 intro σ3 H3 s3 I3 q3
 obtain ⟨J3, m, hn⟩ := aft I2 f2 I3
 exact ⟨m, hn, fun h' hs' => ⟨.ref s2.heap.objs.size, H3, al8 I2 J3 I3.free hs', rfl, q3⟩⟩
theorem ajl {i : Nat} {y : Str} {py : Pos} (B : BlkOk X N scope) (hcalm : X.calm = true) (hi : PI X tg iter wi) (hg : ∀ C fp s H, PG (blk X N scope C fp s H) tg g) (hc : ∀ C fp s H, PTs (blk X N scope C fp s H) ifs tc) (he : ∀ C fp s H, PE (blk X N scope C fp s H) elt te)
 (hs : ∀ x, foldedSetIterable iter X.env x = pure x) (hN : X.N.Nodup) (hy : X.N[i]? = some y) (hl : X.env.scope.names.lookup y = some .local)
 (hsw : swapsWith (.ListComp elt [⟨tg, iter, ifs, 0⟩] scope pos) (some (.Name y py)) spos.line X.env = pure true) :
 PS X (.Assign [.Name y py] (.ListComp elt [⟨tg, iter, ifs, 0⟩] scope pos) spos) (api (aeb (N.length - X.N.length) wi g tc te) (agc i)) := by
 intro pins s σ H D I h
 rw [exec_Assign_Name_used _ _ _ _ hsw]
 refine wpAny_bind (wpAny_standAt (wpAny_bind ?_))
 show wpAny _ _ (do let _ <- comprehension (.ListComp elt [⟨tg, iter, ifs, 0⟩] scope pos) scope X.env _ (newList []) false (eval iter X.env) (some (assign (.Name y py) X.env))) _ _ s
 refine wpAny_bind (wpAny_mono (wpAny_comprehension_free (use := some (assign (.Name y py) X.env)) (Q := fun _ s' => SP X pins D .next s') rfl hs (B.clos I.ok) B.kind B.locs
  (thn (hi pins s σ H _ I h) fun v s1 h1 => thn h1 fun itv s2 h2 => ?_)) (fun _ s' hq => wpAny_pure (wpAny_pure hq)) fun _ _ e => e)
 obtain ⟨it, fp, tn, J, H2, rfl, I2, T, st2, f2, q2⟩ := h2
 obtain ⟨W, ⟨m0, w0⟩, turn⟩ := q2 s2.heap.objs.size (I2.hok.fresh (Nat.le_refl _))
 refine aec (RR := fun acc C => compPost (model X.prog X.w) X.A X.xe (some (assign (.Name y py) X.env)) (fun _ s' => SP X pins D .next s') acc C) (Q := fun x H1 => agc i x σ H1 D.nx) B hcalm I2 f2 T st2 (fun C s H => hg C fp s H) (fun C s H => hc C fp s H) (fun C s H => he C fp s H) W w0 turn ?_
 intro σ3 H3 s3 I3 q3
 obtain ⟨J3, m, hn⟩ := aft I2 f2 I3
 have hC3 := I3.free
 obtain ⟨oC, _, _, hoC, hdC, _⟩ := id hn
 have big : ∀ b o, s2.heap.get? b = some o -> b ≠ s2.heap.objs.size + 1 := fun b o e z => by
  have := Heap.lt_size e
  rw [z] at this
  exact absurd this (Nat.not_lt.mpr (Nat.le_succ _))
 have neL : s2.heap.objs.size + 1 ≠ X.env.locals := fun e => by
  obtain ⟨m, ⟨o, _, _, ho, _⟩, _⟩ := I2.loc
  exact big _ o ho e.symm
 have J4 : Inv X (pins ++ [(s2.heap.objs.size + 1, oC)]) σ H3 s3 := J3.pins_of fun p hp => by
  rcases List.mem_append.mp hp with q | q
  . exact J3.pin p (List.mem_append_right _ q)
  . have e : p = (s2.heap.objs.size + 1, oC) := by simpa using q
    subst e
    refine ⟨hoC, hC3, neL, fun hb => ?_, fun v z => by rw [hdC] at z; cases z⟩
    exact I2.nofs (Nat.le_succ _) hb
 show wpAny (model X.prog X.w) X.A (assign (.Name y py) X.env (.ref s2.heap.objs.size)) _ _ s3
 refine thn (aem (pos := py) hN hy (.inl hl) (.inr hl) (pins ++ [(s2.heap.objs.size + 1, oC)]) s3 σ H3 (.ref s2.heap.objs.size) (.ref s2.heap.objs.size) D.nx J4 rfl q3) fun _ s4 ⟨σ4, H4, I4, q4⟩ => ?_
 have pC := I4.pin (s2.heap.objs.size + 1, oC) (List.mem_append_right _ (List.mem_append_right _ (by simp)))
 refine ⟨m, hn.at' fun o e => by rw [hoC] at e; cases e; exact pC.1, fun h' hs' => ⟨σ4, H4, ?_, q4⟩⟩
 refine (I4.unpinned).turned (t' := s4.toks) (fun b o hb e => hs'.extBut b o hb e) pC.2.1 neL (.inr (Nat.le_trans I2.sz (Nat.le_succ _))) ?_ ?_
 . intro x c hc
   obtain ⟨v, o, ho, _⟩ := I2.cell x c hc
   exact big c o ho
 . intro p hp
   exact big p.1 p.2 (I2.pin p hp).1
end
end L2
namespace Sm
open PySem L2
open MW (Ex Exs OEx Itr Stm Stms Lv Tg Res Store MO Wld Cp Op2 Blt Bm Kx)
section
variable {nm : Nm} {W : Wld} {X : Cx} {a b c : Expr} {a' b' c' : Ex} {pos : Pos} {ι : Io} {H : Hp} {σ : St} {ρ : En} {M M1 M2 : Store} {x y : Dv} {es : List Expr} {es' : Exs}
theorem ajy {t : TE} (h : PT X a (fun σ H Q => t σ H fun x H1 => ∃ c, x = .bl c /\ Q c H1)) (w : ∀ σ H Q, tE nm W X.K a' σ H Q -> t σ H Q) : PT X a (tQ nm W X.K a') :=
 PT.of h fun σ H Q ι ρ M b M' S R e q => w σ H _ ⟨ι, ρ, M, _, M', S, R, e, fun ι' H' v le S' r => by cases r; exact ⟨b, rfl, q ι' H' le S'⟩⟩
theorem ay5 (h : PE X a (tE nm W X.K a')) (he : ∀ whole, isTrue a X.env whole = (do let v <- whole; standAt a.pos; holding [v] (truthy v))) : PT X a (tQ nm W X.K a') :=
 ajy (auh h he) fun _ _ _ q => q
def rCp (nm : Nm) (K : Fg) (op : Cp) : R2 := fun v u H Q => ∃ ι M x y b, SimM nm K ι H M /\ Rep K ι H x v /\ Rep K ι H y u /\ MW.ju op x y M = some b /\ Q (.bl b) H
theorem aha {op' : Cp} : ∀ σ H Q, tE nm W X.K (.cmp op' a' b') σ H Q -> tOp (rCp nm X.K op') (tE nm W X.K a') (tE nm W X.K b') σ H Q := fun σ H Q hh => by
 obtain ⟨ι, ρ, M, d, M', S, R, e, q⟩ := hh
 rw [MW.ate] at e
 obtain ⟨x, M1, e1, e⟩ := aa e
 obtain ⟨y, M2, e2, e⟩ := aa e
 obtain ⟨e, rfl⟩ := fu e
 obtain ⟨b, e3, rfl⟩ := Option.map_eq_some_iff.mp e
 exact two S R e1 e2 fun ι2 H2 v u le S2 _ rv ru => ⟨ι2, M', x, y, b, S2, rv, ru, e3, q ι2 H2 _ le S2 (.bl b)⟩
theorem ay6 {op : CmpOp} {op' : Cp} (ho : OpR X (compareOp op) (rCp nm X.K op')) (ha : PE X a (tE nm W X.K a')) (hb : PE X b (tE nm W X.K b')) (hm : behindInMarks op b = false) : PE X (.Compare a [op] [b] pos) (tE nm W X.K (.cmp op' a' b')) :=
 PE.weak (aqa ho ha hb hm) aha
theorem axq {op : CmpOp} {op' : Cp} (ho : OpR X (compareOp op) (rCp nm X.K op')) (ha : PE X a (tE nm W X.K a')) (hb : PE X b (tE nm W X.K b')) (hm : behindInMarks op b = false) : PT X (.Compare a [op] [b] pos) (tQ nm W X.K (.cmp op' a' b')) :=
 ajy (t := tOp (rCp nm X.K op') (tE nm W X.K a') (tE nm W X.K b')) (aqh ho ha hb hm) aha
theorem ad7 {op1 op2 : Cp} : ∀ σ H Q, tE nm W X.K (.chain op1 op2 a' b' c') σ H Q -> aei (rCp nm X.K op1) (rCp nm X.K op2) (tE nm W X.K a') (tE nm W X.K b') (tE nm W X.K c') σ H Q := fun σ H Q hh => by
 obtain ⟨ι, ρ, M, d, M', S, R, e, q⟩ := hh
 rw [MW.amt] at e
 obtain ⟨x, M1, e1, e⟩ := aa e
 obtain ⟨y, M2, e2, e⟩ := aa e
 obtain ⟨k, M2', e3, e⟩ := aa e
 obtain ⟨e3, rfl⟩ := fu e3
 refine two S R e1 e2 fun ι2 H2 v u le S2 R2 rv ru => ⟨ι2, M2', x, y, k, S2, rv, ru, e3, k, rfl, ?_⟩
 cases k with
 | false =>
  have e : Res.ok (MW.D.bl false) M2' = .ok d M' := e
  cases e
  exact q ι2 H2 _ le S2 (.bl false)
 | true =>
  have e : ((c'.den W ρ M2').bind fun z M3 => Res.ofOpt ((MW.ju op2 y z M3).map MW.D.bl) M3) = .ok d M' := e
  obtain ⟨z, M3, e4, e⟩ := aa e
  obtain ⟨e, rfl⟩ := fu e
  obtain ⟨b, e5, rfl⟩ := Option.map_eq_some_iff.mp e
  show tE nm W X.K c' σ H2 _
  exact one S2 R2 e4 fun ι3 H3 w le3 S3 _ rw => ⟨ι3, M', y, z, b, S3, ru.mono le3, rw, e5, q ι3 H3 _ (le.trans le3) S3 (.bl b)⟩
theorem ar3 {o1 o2 : CmpOp} {op1 op2 : Cp} (h1 : OpR X (compareOp o1) (rCp nm X.K op1)) (h2 : OpR X (compareOp o2) (rCp nm X.K op2)) (ha : PE X a (tE nm W X.K a')) (hb : PE X b (tE nm W X.K b')) (hc : PE X c (tE nm W X.K c')) (hm : lastMarks [o1, o2] [b, c] = false) :
 PE X (.Compare a [o1, o2] [b, c] pos) (tE nm W X.K (.chain op1 op2 a' b' c')) := PE.weak (aok h1 h2 ha hb hc hm) ad7
theorem as5 {o1 o2 : CmpOp} {op1 op2 : Cp} (h1 : OpR X (compareOp o1) (rCp nm X.K op1)) (h2 : OpR X (compareOp o2) (rCp nm X.K op2)) (ha : PE X a (tE nm W X.K a')) (hb : PE X b (tE nm W X.K b')) (hc : PE X c (tE nm W X.K c')) (hm : lastMarks [o1, o2] [b, c] = false) :
 PT X (.Compare a [o1, o2] [b, c] pos) (tQ nm W X.K (.chain op1 op2 a' b' c')) := ajy (t := aei (rCp nm X.K op1) (rCp nm X.K op2) (tE nm W X.K a') (tE nm W X.K b') (tE nm W X.K c')) (ao6 h1 h2 ha hb hc hm) ad7
theorem aeh {op : CmpOp} {op' : Cp} {f : Int -> Int -> Bool} (h : OpR X (compareOp op) (rI0 fun i j => .bl (f i j))) (e : ∀ x y M, MW.ju op' x y M = MW.adi f x y) : OpR X (compareOp op) (rCp nm X.K op') :=
 OpR.weak h fun v u H Q hh => by
  obtain ⟨ι, M, x, y, b, S, rv, ru, e', q⟩ := hh
  rw [e] at e'
  obtain ⟨i, j, rfl, rfl, e2⟩ := MW.ahd e' (by intro z; cases z)
  cases rv; cases ru; cases e2
  exact ⟨_, _, rfl, rfl, q⟩
theorem az1 : OpR X (compareOp .Lt) (rCp nm X.K .lt) := aeh ax0 fun _ _ _ => rfl
theorem azi : OpR X (compareOp .LtE) (rCp nm X.K .le) := aeh axy fun _ _ _ => rfl
theorem azf : OpR X (compareOp .Gt) (rCp nm X.K .gt) := aeh axt fun _ _ _ => rfl
theorem a0f : OpR X (compareOp .GtE) (rCp nm X.K .ge) := aeh ax7 fun _ _ _ => rfl
theorem ap5 {rest : List Expr} (ha : PE X a (tE nm W X.K a')) (hb : PE X (.BoolOp .And (b :: rest) pos) (tE nm W X.K b')) : PE X (.BoolOp .And (a :: b :: rest) pos) (tE nm W X.K (.and a' b')) :=
 PE.of (avr ha hb) fun σ H Q ι ρ M d M' S R e q => by
  rw [MW.ai2] at e
  obtain ⟨x, M1, e1, e⟩ := aa e
  refine one S R e1 fun ι1 H1 v le S1 R1 r => ?_
  cases r <;> try cases e
  rename_i k
  refine ⟨k, rfl, ?_⟩
  cases k with
  | false => cases e; exact q ι1 H1 _ le S1 (.bl false)
  | true => exact one S1 R1 e fun ι2 H2 w le2 S2 _ r2 => q ι2 H2 w (le.trans le2) S2 r2
theorem avl {rest : List Expr} (ha : PE X a (tE nm W X.K a')) (hb : PE X (.BoolOp .Or (b :: rest) pos) (tE nm W X.K b')) : PE X (.BoolOp .Or (a :: b :: rest) pos) (tE nm W X.K (.or a' b')) :=
 PE.of (axf ha hb) fun σ H Q ι ρ M d M' S R e q => by
  rw [MW.ama] at e
  obtain ⟨x, M1, e1, e⟩ := aa e
  refine one S R e1 fun ι1 H1 v le S1 R1 r => ?_
  cases r <;> try cases e
  rename_i k
  refine ⟨k, rfl, ?_⟩
  cases k with
  | true => cases e; exact q ι1 H1 _ le S1 (.bl true)
  | false => exact one S1 R1 e fun ι2 H2 w le2 S2 _ r2 => q ι2 H2 w (le.trans le2) S2 r2
theorem ayn (ha : PE X a (tE nm W X.K a')) : PE X (.UnaryOp .Not a pos) (tE nm W X.K (.not a')) :=
 PE.of (awd ha) fun σ H Q ι ρ M d M' S R e q => by
  rw [MW.ajk] at e
  obtain ⟨x, M1, e1, e⟩ := aa e
  refine one S R e1 fun ι1 H1 v le S1 R1 r => ?_
  cases r <;> try cases e
  exact ⟨_, rfl, q ι1 H1 _ le S1 (.bl _)⟩
theorem yw {G : Bool -> Hp -> Prop} {k : Bool} (S : SimM nm X.K ι H M) (R : EnvR X.K ι H ρ σ) (ha : a'.den W ρ M = .ok (.bl k) M1)
 (h : ∀ ι1 H1, Le ι H ι1 H1 -> SimM nm X.K ι1 H1 M1 -> EnvR X.K ι1 H1 ρ σ -> G k H1) : tQ nm W X.K a' σ H G :=
 ⟨ι, ρ, M, k, M1, S, R, ha, fun ι' H' le S' => h ι' H' le S' (R.mono le)⟩
theorem ap8 {rest : List Expr} (ha : PT X a (tQ nm W X.K a')) (hb : PW X (.BoolOp .And (b :: rest) pos) (tQ nm W X.K b')) : PW X (.BoolOp .And (a :: b :: rest) pos) (tQ nm W X.K (.and a' b')) :=
 fun whole pins s σ H Q I ⟨ι, ρ, M, d, M', S, R, e, q⟩ => av6 ha hb whole pins s σ H Q I (by
  rw [MW.ai2] at e
  obtain ⟨x, M1, e1, e⟩ := aa e
  cases x <;> try cases e
  rename_i k
  refine yw S R e1 fun ι1 H1 le S1 R1 => ?_
  cases k with
  | false => cases e; exact q ι1 H1 le S1
  | true => exact yw S1 R1 e fun ι2 H2 le2 S2 _ => q ι2 H2 (le.trans le2) S2)
theorem au5 {rest : List Expr} (ha : PT X a (tQ nm W X.K a')) (hb : PW X (.BoolOp .Or (b :: rest) pos) (tQ nm W X.K b')) : PW X (.BoolOp .Or (a :: b :: rest) pos) (tQ nm W X.K (.or a' b')) :=
 fun whole pins s σ H Q I ⟨ι, ρ, M, d, M', S, R, e, q⟩ => ayv ha hb whole pins s σ H Q I (by
  rw [MW.ama] at e
  obtain ⟨x, M1, e1, e⟩ := aa e
  cases x <;> try cases e
  rename_i k
  refine yw S R e1 fun ι1 H1 le S1 R1 => ?_
  cases k with
  | true => cases e; exact q ι1 H1 le S1
  | false => exact yw S1 R1 e fun ι2 H2 le2 S2 _ => q ι2 H2 (le.trans le2) S2)
theorem aw4 (ha : PT X a (tQ nm W X.K a')) : PT X (.UnaryOp .Not a pos) (tQ nm W X.K (.not a')) :=
 PT.of (au6 ha) fun σ H Q ι ρ M d M' S R e q => by
  rw [MW.ajk] at e
  obtain ⟨x, M1, e1, e⟩ := aa e
  cases x <;> try cases e
  exact yw S R e1 fun ι1 H1 le S1 R1 => q ι1 H1 le S1
theorem ayz (hc : PT X c (tQ nm W X.K c')) (ha : PE X a (tE nm W X.K a')) (hb : PE X b (tE nm W X.K b')) : PE X (.IfExp c a b pos) (tE nm W X.K (.ite c' a' b')) :=
 PE.of (apu hc ha hb) fun σ H Q ι ρ M d M' S R e q => by
  rw [MW.as3] at e
  obtain ⟨x, M1, e1, e⟩ := aa e
  cases x <;> try cases e
  rename_i k
  refine yw S R e1 fun ι1 H1 le S1 R1 => ?_
  cases k with
  | true => exact one S1 R1 e fun ι2 H2 w le2 S2 _ r2 => q ι2 H2 w (le.trans le2) S2 r2
  | false => exact one S1 R1 e fun ι2 H2 w le2 S2 _ r2 => q ι2 H2 w (le.trans le2) S2 r2
theorem ab3 : PA X [] (tEs nm W X.K .nil) := PA.of av0 fun σ H Q ι ρ M ds M' S R e q => by
 rw [MW.aan] at e; cases e
 exact q ι H _ (Le.refl _ _) S .nil
theorem yx {G : List V -> Hp -> Prop} {ds : List Dv} (S : SimM nm X.K ι H M) (R : EnvR X.K ι H ρ σ) (ha : es'.den W ρ M = .ok ds M1)
 (h : ∀ ι1 H1 vs, Le ι H ι1 H1 -> SimM nm X.K ι1 H1 M1 -> EnvR X.K ι1 H1 ρ σ -> RepL X.K ι1 H1 ds vs -> G vs H1) : tEs nm W X.K es' σ H G :=
 ⟨ι, ρ, M, ds, M1, S, R, ha, fun ι' H' v le S' r => h ι' H' v le S' (R.mono le) r⟩
theorem aal (ha : PE X a (tE nm W X.K a')) (hr : PA X es (tEs nm W X.K es')) (hs : starEach (a :: es) X.env = (false, eval a X.env) :: starEach es X.env) : PA X (a :: es) (tEs nm W X.K (.cons a' es')) :=
 PA.of (ash ha hr hs) fun σ H Q ι ρ M ds M' S R e q => by
  rw [MW.su] at e
  obtain ⟨x, M1, e1, e⟩ := aa e
  obtain ⟨xs, M2, e2, e⟩ := aa e
  cases e
  exact one S R e1 fun ι1 H1 v le S1 R1 r1 => yx S1 R1 e2 fun ι2 H2 vs le2 S2 R2 r2 => q ι2 H2 _ (le.trans le2) S2 (.cons (r1.mono le2) r2)
def Exs.len : Exs -> Nat
 | .nil => 0
 | .cons _ r => Exs.len r + 1
theorem kh : ∀ {es' : Exs} {ρ : En} {M M1 : Store} {ds : List Dv}, es'.den W ρ M = .ok ds M1 -> ds.length = Exs.len es'
 | .nil, _, _, _, _, e => by rw [MW.aan] at e; cases e; rfl
 | .cons _ r, _, _, _, _, e => by
  rw [MW.su] at e
  obtain ⟨x, M1, e1, e⟩ := aa e
  obtain ⟨xs, M2, e2, e⟩ := aa e
  cases e
  rw [List.length_cons, kh e2]
  rfl
theorem axp {k : Nat} (h : PA X es (tEs nm W X.K es')) (hl : Exs.len es' <= 1000) : PE X (.Tuple es k pos) (tE nm W X.K (.tup es')) :=
 PE.of (awi h) fun σ H Q ι ρ M d M' S R e q => by
  rw [MW.aqn] at e
  obtain ⟨ds, M1, e1, e⟩ := aa e
  cases e
  refine yx S R e1 fun ι1 H1 vs le S1 R1 r => ⟨?_, fun p hp => ?_⟩
  . rw [<- r.length, kh e1]; exact Nat.le_trans hl (by decide)
  . obtain ⟨S2, le2, r2⟩ := uy S1 hp r
    exact q ι1 _ _ (le.trans le2) S2 r2
theorem atp (h : PA X es (tEs nm W X.K es')) (hl : Exs.len es' <= 1000) : PE X (.List es pos) (tE nm W X.K (.vlst es')) :=
 PE.of (ak0 h) fun σ H Q ι ρ M d M' S R e q => by
  rw [MW.aof] at e
  obtain ⟨ds, M1, e1, e⟩ := aa e
  cases e
  refine yx S R e1 fun ι1 H1 vs le S1 R1 r => ⟨?_, fun p hp => ?_⟩
  . rw [<- r.length, kh e1]; exact Nat.le_trans hl (by decide)
  . obtain ⟨S2, le2, r2⟩ := ag1 S1 hp r
    exact q ι1 _ _ (le.trans le2) S2 r2
theorem aw2 (h : PA X es (tEs nm W X.K es')) (hl : Exs.len es' <= 1000) : PE X (.List es pos) (tE nm W X.K (.lst es')) :=
 PE.of (ak0 h) fun σ H Q ι ρ M d M' S R e q => by
  rw [MW.asa] at e
  obtain ⟨ds, M1, e1, e⟩ := aa e
  cases e
  refine yx S R e1 fun ι1 H1 vs le S1 R1 r => ⟨?_, fun p hp => ?_⟩
  . rw [<- r.length, kh e1]; exact Nat.le_trans hl (by decide)
  . obtain ⟨S2, le2, r2⟩ := ae7 S1 hp r
    exact q _ _ _ (le.trans le2) S2 r2
theorem ay2 (ha : PE X a (tE nm W X.K a')) : PE X (.UnaryOp .USub a pos) (tE nm W X.K (.neg a')) :=
 PE.of (aw9 awo ha) fun σ H Q ι ρ M d M' S R e q => by
  rw [MW.as6] at e
  obtain ⟨x, M1, e1, e⟩ := aa e
  refine one S R e1 fun ι1 H1 v le S1 R1 r => ?_
  cases r <;> try cases e
  exact ⟨_, rfl, q ι1 H1 _ le S1 (.int _)⟩
end
open PyProof.Rows (subscriptTail)
section
variable {κ : Type} [DecidableEq κ] {K : Fg} {ι : Io} {H : Hp}
theorem PairsR.length {κ κ' : Type} {f : κ -> κ' -> Prop} : ∀ {l : List (κ × Dv)} {l' : List (κ' × V)}, PairsR K ι H f l l' -> l.length = l'.length
 | _, _, .nil => rfl
 | _, _, .cons _ _ t => by rw [List.length_cons, List.length_cons, PairsR.length t]
theorem PairsR.look {k : κ} : ∀ {kvs : List (κ × Dv)} {l : List (κ × V)}, PairsR K ι H (fun k k' => k = k') kvs l -> (∀ d, MW.dq kvs k = some d -> ∃ v, n6 l k = some v /\ Rep K ι H d v) /\ (MW.dq kvs k = none -> n6 l k = none)
 | _, _, .nil => ⟨fun d h => by simp [MW.dq] at h, fun _ => rfl⟩
 | _, _, .cons (k := q) (k' := q') hk h t => by
  subst hk
  obtain ⟨a, b⟩ := PairsR.look (k := k) t
  by_cases e : q = k
  . refine ⟨fun d hd => ?_, fun hd => ?_⟩
    . simp [MW.dq, List.find?_cons, e] at hd
      subst hd
      exact ⟨_, aap e, h⟩
    . simp [MW.dq, List.find?_cons, e] at hd
  . have z : ∀ (d : Dv) r, MW.dq ((q, d) :: r) k = MW.dq r k := fun d r => by simp [MW.dq, List.find?_cons, e]
    rw [z, aaw (by exact e)]
    exact ⟨a, b⟩
theorem PairsR.any {k : κ} : ∀ {kvs : List (κ × Dv)} {l : List (κ × V)}, PairsR K ι H (fun k k' => k = k') kvs l -> (kvs.any fun kv => decide (kv.1 = k)) = (l.any fun kv => decide (kv.1 = k))
 | _, _, .nil => rfl
 | _, _, .cons hk h t => by subst hk; simp only [List.any_cons, PairsR.any t]
theorem PairsR.repl {k : κ} {d : Dv} {v : V} (r : Rep K ι H d v) : ∀ {kvs : List (κ × Dv)} {l : List (κ × V)}, PairsR K ι H (fun k k' => k = k') kvs l ->
 PairsR K ι H (fun k k' => k = k') (kvs.map fun kv => if kv.1 = k then (kv.1, d) else kv) (l.map fun kv => if kv.1 = k then (kv.1, v) else kv)
 | _, _, .nil => .nil
 | _, _, .cons (k := q) hk h t => by
  subst hk
  simp only [List.map_cons]
  by_cases e : q = k
  . simp only [e, if_true]; exact .cons rfl r (PairsR.repl r t)
  . simp only [e, if_false]; exact .cons rfl h (PairsR.repl r t)
theorem PairsR.snoc {κ κ' : Type} {f : κ -> κ' -> Prop} {k : κ} {k' : κ'} {d : Dv} {v : V} (hk : f k k') (r : Rep K ι H d v) : ∀ {l : List (κ × Dv)} {l' : List (κ' × V)}, PairsR K ι H f l l' -> PairsR K ι H f (l ++ [(k, d)]) (l' ++ [(k', v)])
 | _, _, .nil => .cons hk r .nil
 | _, _, .cons q h t => .cons q h (PairsR.snoc hk r t)
theorem PairsR.put {k : κ} {d : Dv} {v : V} (r : Rep K ι H d v) {kvs : List (κ × Dv)} {l : List (κ × V)} (t : PairsR K ι H (fun k k' => k = k') kvs l) : PairsR K ι H (fun k k' => k = k') (MW.jq kvs k d) (putK l k v) := by
 unfold MW.jq putK
 rw [t.any (k := k)]
 by_cases e : (l.any fun kv => decide (kv.1 = k)) = true
 . rw [if_pos e, if_pos e]; exact t.repl r
 . rw [if_neg e, if_neg e]; exact t.snoc rfl r
theorem PairsR.fld {nm : Nm} {f : Nat} : ∀ {fs : List (Nat × Dv)} {l : List (Str × V)}, PairsR K ι H (fun k k' => k' = nm.fld k) fs l -> (∀ d, fs.lookup f = some d -> ∃ v, l.lookup (nm.fld f) = some v /\ Rep K ι H d v) /\ (fs.lookup f = none -> l.lookup (nm.fld f) = none)
 | _, _, .nil => ⟨fun d h => by simp at h, fun _ => rfl⟩
 | _, _, .cons (k := q) (k' := q') hk h t => by
  subst hk
  obtain ⟨a, b⟩ := PairsR.fld (nm := nm) (f := f) t
  rw [List.lookup_cons, List.lookup_cons]
  by_cases e : f = q
  . subst e
    simp only [beq_self_eq_true]
    exact ⟨fun d hd => by cases hd; exact ⟨_, rfl, h⟩, fun hd => by cases hd⟩
  . have e1 : (f == q) = false := by simpa using e
    have e2 : (nm.fld f == nm.fld q) = false := by
     cases z : nm.fld f == nm.fld q with
     | false => rfl
     | true => exact absurd (nm.inj _ _ (eq_of_beq z)) e
    rw [e1, e2]
    exact ⟨a, b⟩
theorem PairsR.putF {nm : Nm} {f : Nat} {d : Dv} {v : V} (r : Rep K ι H d v) : ∀ {fs : List (Nat × Dv)} {l : List (Str × V)}, PairsR K ι H (fun k k' => k' = nm.fld k) fs l -> PairsR K ι H (fun k k' => k' = nm.fld k) (MW.yq f d fs) (L2.putF (nm.fld f) v l)
 | _, _, .nil => .cons rfl r .nil
 | _, _, .cons (k := q) (k' := q') hk h t => by
  subst hk
  unfold MW.yq L2.putF
  by_cases e : q = f
  . subst e
    simp only [if_true]
    exact .cons rfl r t
  . have e2 : ¬ nm.fld q = nm.fld f := fun z => e (nm.inj _ _ z)
    rw [if_neg e, if_neg e2]
    exact .cons rfl h (PairsR.putF r t)
theorem ab1 {d : Dv} {v : V} {k : Kx} (r : Rep K ι H d v) (h : MW.za d = some k) : v = kV k := by
 cases r <;> simp [MW.za] at h <;> subst h <;> rfl
theorem ali : ∀ {ds : List Dv} {vs : List V} {ks : List Kx}, RepL K ι H ds vs -> MW.aao ds = some ks -> vs = ks.map kV
 | _, _, _, .nil, h => by simp [MW.aao] at h; subst h; rfl
 | _, _, _, .cons r t, h => by
  simp only [MW.aao] at h
  split at h
  . rename_i k ks' h1 h2
    cases h
    rw [ab1 r h1, ali t h2]
    rfl
  . cases h
theorem abp {d : Dv} {v : V} {ks : List Kx} (r : Rep K ι H d v) (h : MW.qt d = some ks) : ∃ b, v = .ref b /\ H b = some (.tup (ks.map kV)) := by
 cases r with
 | tup e r => exact ⟨_, rfl, by rw [<- ali r h]; exact e⟩
 | _ => simp [MW.qt] at h
end
section
variable {nm : Nm} {W : Wld} {X : Cx} {a b c : Expr} {a' b' c' : Ex} {pos : Pos} {ι : Io} {H : Hp} {σ : St} {ρ : En} {M M1 M2 : Store} {x y : Dv} {es : List Expr} {es' : Exs}
def azu (nm : Nm) (K : Fg) : R2 := fun v u H Q => ∃ ι M x y d, SimM nm K ι H M /\ Rep K ι H x v /\ Rep K ι H y u /\ MW.dg x y M = some d /\ ∀ w, Rep K ι H d w -> Q w H
theorem ams (hu : X.A.units + 1 < cLine) : IxR X (fun x y H Q => ∃ a v, x = .ref a /\ DGet H a y (some v) /\ Q v H) := by
 intro value slice pins s σ H x y v u Q I rx ry h hs
 obtain ⟨p, z, rfl, g, q⟩ := h
 cases rx
 exact PyProof.Rows.tail_any (aij I g) PySem.F.slot_dict_getitem.lookup (alh hu I g ry fun w' s' I' r => ⟨z, H, I', r, q⟩) hs
theorem au8 (hu : X.A.units + 1 < cLine) : IxR X (azu nm X.K) := by
 intro value slice pins s σ H v u v' u' Q I rv ru ⟨ι, M, x, y, d, S, rx, ry, e, q⟩ hs
 have seq : ∀ (p : Addr) (vs : List V) (ds : List Dv), v = .ref p -> (SqL X.K H p vs \/ SqT X.K H p vs) -> RepL X.K ι H ds vs -> (match y with | .int i => (MW.vg ds.length i).bind fun j => ds[j]? | _ => none) = some d ->
  wpAny (model X.prog X.w) X.A (subscriptTail value slice v' u') (EP X pins σ Q) X.xe s := fun p vs ds hv hq r e => by
  subst hv
  obtain ⟨i, hyi⟩ : ∃ i, y = .int i := by cases y <;> first | exact ⟨_, rfl⟩ | cases e
  subst hyi
  cases ry
  obtain ⟨j, e1, e2⟩ := Option.bind_eq_some_iff.mp e
  obtain ⟨z, h1, h2⟩ := r.get e2
  have hat : atI vs i = some z := by
   unfold atI
   rw [show ixN vs.length i = some j from by rw [<- r.length]; exact e1]
   exact h1
  rcases hq with hq | hq
  . exact L2.m6 value slice pins s σ H _ _ v' u' Q I rv ru ⟨p, vs, i, z, rfl, rfl, hq, hat, q z h2⟩ hs
  . exact L2.vo value slice pins s σ H _ _ v' u' Q I rv ru ⟨p, vs, i, z, rfl, rfl, hq, hat, q z h2⟩ hs
 cases rx with
 | tup e1 r1 => exact seq _ _ _ rfl (.inr (SqT.of e1)) r1 (by cases ry <;> first | exact e | (simp [MW.dg, MW.cu] at e))
 | vl e1 n1 r1 => exact seq _ _ _ rfl (.inl (SqL.of e1)) r1 (by cases ry <;> first | exact e | (simp [MW.dg, MW.cu, MW.asList] at e))
 | fz e1 r1 => exact seq _ _ _ rfl (.inl e1.sq) r1 (by cases ry <;> first | exact e | (simp [MW.dg] at e))
 | ref e1 =>
  rename_i n p
  simp only [MW.dg] at e
  split at e
  . rename_i kvs hn
    obtain ⟨l, h1, h2⟩ := S.obj n _ p hn e1
    obtain ⟨k, e2, e3⟩ := Option.bind_eq_some_iff.mp e
    obtain ⟨z, h3, h4⟩ := (h2.look (k := k)).1 d e3
    obtain ⟨b, rfl, hb⟩ := abp ry e2
    exact ams hu value slice pins s σ H _ _ v' u' Q I rv ru ⟨p, z, rfl, by rw [<- h3]; exact DGet.t h1 hb, q z h4⟩ hs
  . rename_i kvs hn
    obtain ⟨l, h1, h2⟩ := S.obj n _ p hn e1
    obtain ⟨k, e2, e3⟩ := Option.bind_eq_some_iff.mp e
    obtain ⟨z, h3, h4⟩ := (h2.look (k := k)).1 d e3
    have hy := ab1 ry e2
    subst hy
    exact ams hu value slice pins s σ H _ _ v' u' Q I rv ru ⟨p, z, rfl, by rw [<- h3]; exact DGet.k h1, q z h4⟩ hs
  . cases hl : MW.asList M (.ref n) with
    | none => rw [hl] at e; cases e
    | some ds =>
     obtain ⟨p', vs, hp, h1, h2⟩ := cz S (.ref e1) hl
     cases hp
     rw [hl] at e
     exact seq _ _ _ rfl (.inl (SqL.of h1)) h2 (by cases ry <;> first | exact e | cases e)
 | _ => simp [MW.dg, MW.cu, MW.asList] at e
theorem a0q (hu : X.A.units + 1 < cLine) (ha : PE X a (tE nm W X.K a')) (hb : PE X b (tE nm W X.K b')) (hs : aew b) : PE X (.Subscript a b pos) (tE nm W X.K (.ix a' b')) :=
 PE.of (aza (au8 (nm := nm) hu) ha hb hs) fun σ H Q ι ρ M d M' S R e q => by
  rw [MW.av9] at e
  obtain ⟨x, M1, e1, e⟩ := aa e
  obtain ⟨y, M2, e2, e⟩ := aa e
  obtain ⟨e, rfl⟩ := fu e
  exact two S R e1 e2 fun ι2 H2 v u le S2 _ rv ru => ⟨ι2, M', x, y, d, S2, rv, ru, e, fun w r => q ι2 H2 w le S2 r⟩
theorem ayo {f : Nat} {n : Str} (hn : n = nm.fld f) (hcl : ∀ c C, nm.cls c = some C -> Cls X.K C /\ NoAttr X.K C n) (ha : PE X a (tE nm W X.K a')) (hb : attributeBase a n X.env (eval a X.env) = eval a X.env) : PE X (.Attribute a n pos) (tE nm W X.K (.fld a' f)) :=
 PE.of (auk ha hb) fun σ H Q ι ρ M d M' S R e q => by
  rw [MW.arn] at e
  obtain ⟨x, M1, e1, e⟩ := aa e
  obtain ⟨e, rfl⟩ := fu e
  refine one S R e1 fun ι1 H1 v le S1 R1 r => ?_
  obtain ⟨m, hxm⟩ : ∃ m, x = .ref m := by cases x <;> first | exact ⟨_, rfl⟩ | cases e
  subst hxm
  obtain ⟨p, rfl, hp⟩ : ∃ p, v = .ref p /\ ι1.l[m]? = some p := by cases r with | ref z => exact ⟨_, rfl, z⟩
  simp only [MW.uv] at e
  split at e
  . rename_i c fs hm
    obtain ⟨C, dx, l, h1, h2, h3⟩ := S1.obj m _ p hm hp
    obtain ⟨z, h4, h5⟩ := (h3.fld (nm := nm) (f := f)).1 d e
    subst hn
    obtain ⟨g1, g2⟩ := hcl c C h1
    exact ⟨p, C, dx, l, z, rfl, h2, g1, g2, h4, q ι1 H1 z le S1 h5⟩
  . cases e
end
open MW (Ex Exs OEx Itr Stm Stms Lv Tg Res Store MO Wld Cp Op2 Blt Bm Kx Src)
def o9 : Expr -> Bool
 | .ListComp .. => false
 | .SetComp .. => false
 | .DictComp .. => false
 | _ => true
theorem zf {e : Expr} (h : o9 e = true) (t : Option Expr) (l : Nat) (env : Env) : swapsWith e t l env = pure false := by
 cases e <;> first | rfl | (simp [o9] at h)
def je : Expr -> Bool
 | .Set .. => false
 | _ => true
theorem jt {e : Expr} (h : je e = true) (env : Env) (x : Value) : foldedSetIterable e env x = pure x := by
 cases e <;> first | rfl | (simp [je] at h)
theorem acy {e : Expr} (h : je e = true) (op : CmpOp) : behindInMarks op e = false := by
 cases e <;> first | rfl | (simp [je] at h)
def ap0 : Expr -> Bool
 | .Tuple .. => false
 | _ => true
def noStar : Expr -> Bool
 | .Starred .. => false
 | _ => true
theorem bu {e : Expr} (h : noStar e = true) (es : List Expr) (env : Env) : starEach (e :: es) env = (false, eval e env) :: starEach es env := by
 cases e <;> first | rfl | (simp [noStar] at h)
def aca : Expr -> Bool
 | .Slice .. => false
 | _ => true
theorem ane {e : Expr} (h : aca e = true) : aew e := by
 intro o i
 cases e <;> first | rfl | (simp [aca] at h)
section
variable {nm : Nm} {W : Wld} {X : Cx} {a b c : Expr} {a' b' c' : Ex} {pos pos' : Pos} {ι : Io} {H : Hp} {σ : St} {ρ : En} {M M1 M2 : Store} {x y : Dv} {es : List Expr} {es' : Exs}
def il : Tg -> List Nat
 | .name i => [i]
 | .names is => is
def tGt (nm : Nm) (K : Fg) (t : Tg) : TG := fun v σ H Q => ∃ ι ρ M d ρ', SimM nm K ι H M /\ EnvR K ι H ρ σ /\ Rep K ι H d v /\ t.put d ρ = some ρ' /\ ∀ σ', EnvR K ι H ρ' σ' -> σ'.length = σ.length -> (∀ j, j ∉ il t -> σ'[j]? = σ[j]?) -> Q σ' H
theorem PG.weak {tg : Expr} {t t' : TG} (h : PG X tg t) (w : ∀ v σ H Q, t' v σ H Q -> t v σ H Q) : PG X tg t' := fun pins s σ H v u Q I r q => h pins s σ H v u Q I r (w v σ H Q q)
theorem PG.of {tg : Expr} {tt : Tg} {t : TG} (h : PG X tg t) (w : ∀ v σ H Q ι ρ M d ρ', SimM nm X.K ι H M -> EnvR X.K ι H ρ σ -> Rep X.K ι H d v -> tt.put d ρ = some ρ' -> (∀ σ', EnvR X.K ι H ρ' σ' -> σ'.length = σ.length -> (∀ j, j ∉ il tt -> σ'[j]? = σ[j]?) -> Q σ' H) -> t v σ H Q) : PG X tg (tGt nm X.K tt) :=
 PG.weak h fun v σ H Q ⟨ι, ρ, M, d, ρ', S, R, r, e, q⟩ => w v σ H Q ι ρ M d ρ' S R r e q
theorem au2 {i : Nat} {n : Str} (hN : X.N.Nodup) (hi : X.N[i]? = some n) (hx : Loc X.env.scope n) (hf : X.fn n = true \/ X.env.scope.names.lookup n = some .local) : PG X (.Name n pos) (tGt nm X.K (.name i)) :=
 PG.of (aem hN hi hx hf) fun v σ H Q ι ρ M d ρ' S R r e q => by
  cases e
  exact q _ (R.set r i) (by simp) fun j hj => List.getElem?_set_ne (fun z => hj (by simp [il, z]))
def qg : List Nat -> List V -> St -> St
 | i :: is, v :: vs, σ => qg is vs (σ.set i (some v))
 | _, _, σ => σ
theorem ad8 {K : Fg} : ∀ {is : List Nat} {ds : List Dv} {vs : List V} {ρ : En} {σ : St}, EnvR K ι H ρ σ -> RepL K ι H ds vs -> EnvR K ι H (MW.v8 is ds ρ) (qg is vs σ)
 | [], _, _, _, _, R, r => by cases r <;> exact R
 | _ :: _, _, _, _, _, R, .nil => R
 | i :: is, _, _, _, _, R, .cons h t => ad8 (is := is) (R.set h i) t
theorem abt : ∀ {is : List Nat} {vs : List V} {σ : St} {j : Nat}, j ∉ is -> (qg is vs σ)[j]? = σ[j]?
 | [], vs, σ, j, _ => by cases vs <;> rfl
 | i :: is, [], σ, j, _ => rfl
 | i :: is, v :: vs, σ, j, h => by
  show (qg is vs (σ.set i (some v)))[j]? = _
  rw [abt (fun z => h (List.mem_cons_of_mem _ z)), List.getElem?_set_ne (fun z => h (by rw [z]; exact List.mem_cons_self))]
theorem aco : ∀ {is : List Nat} {vs : List V} {σ : St}, (qg is vs σ).length = σ.length
 | [], vs, σ => by cases vs <;> rfl
 | _ :: _, [], σ => rfl
 | i :: is, v :: vs, σ => by show (qg is vs (σ.set i (some v))).length = _; rw [aco, List.length_set]
inductive ql (X : Cx) : List Expr -> List Nat -> Prop
 | nil : ql X [] []
 | cons {n : Str} {p : Pos} {i : Nat} {ts : List Expr} {is : List Nat} (hi : X.N[i]? = some n) (hx : Loc X.env.scope n) (hf : X.fn n = true \/ X.env.scope.names.lookup n = some .local) (t : ql X ts is) : ql X (.Name n p :: ts) (i :: is)
theorem ahm (hN : X.N.Nodup) : ∀ {ts : List Expr} {is : List Nat}, ql X ts is -> PGs X ts (fun vs σ H Q => vs.length = is.length /\ Q (qg is vs σ) H)
 | _, _, .nil => fun pins s σ H vs us Q I r q => by
  obtain ⟨h1, h2⟩ := q
  have hv : vs = [] := List.length_eq_zero_iff.mp h1
  subst hv
  exact as7 pins s σ H [] us Q I r ⟨rfl, h2⟩
 | _, _, .cons hi hx hf t => fun pins s σ H vs us Q I r q => by
  obtain ⟨h1, h2⟩ := q
  cases vs with
  | nil => simp at h1
  | cons v vs => exact am7 (aem hN hi hx hf) (ahm hN t) (by rfl) pins s σ H (v :: vs) us Q I r ⟨v, vs, rfl, by simpa using h1, h2⟩
theorem lq {env : Env} : ∀ {ts : List Expr} {is : List Nat}, ql X ts is -> (assignEach ts env).length = is.length /\ (assignEach ts env).findIdx? (·.1) = none
 | _, _, .nil => ⟨rfl, rfl⟩
 | _, _, .cons hi hx hf t => by
  obtain ⟨g1, g2⟩ := lq (env := env) t
  refine ⟨by simp [assignEach, g1], ?_⟩
  simp [assignEach, List.findIdx?_cons]
  simpa using g2
theorem ar4 {ts : List Expr} {is : List Nat} {k : Nat} (hc : X.calm = true) (hN : X.N.Nodup) (h : ql X ts is) : PG X (.Tuple ts k pos) (tGt nm X.K (.names is)) :=
 PG.of (av5 hc (ahm hN h) (lq h).1 (lq h).2) fun v σ H Q ι ρ M d ρ' S R r e q => by
  cases r with
  | tup e1 r1 =>
   simp only [Tg.put] at e
   split at e <;> cases e
   rename_i hl
   exact ⟨_, _, rfl, SqT.of e1, by rw [<- r1.length]; exact hl, by rw [<- r1.length]; exact hl, q _ (ad8 R r1) aco fun j hj => abt hj⟩
  | _ => simp [Tg.put] at e
theorem akf {tg : Expr} {t : Tg} (he : PE X a (tE nm W X.K a')) (hg : PG X tg (tGt nm X.K t)) (hs : swapsWithSole [tg] a pos.line X.env = pure false) (hw : swappedStores [tg] a X.env = pure none) (h1 : (assignEach [tg] X.env).map (·.2) = [assign tg X.env]) :
 PS X (.Assign [tg] a pos) (tS nm W X.K (.asg (.tg t) a')) :=
 PS.of (ak7 he hg hs hw h1) fun D σ H ι ρ M fl ρ' M' S R e q => by
  rw [MW.ad1] at e
  obtain ⟨x, M1, e1, e⟩ := aa e
  obtain ⟨ρ2, M2, e2, e⟩ := aa e
  cases e
  rw [MW.amd] at e2
  obtain ⟨e3, e4⟩ := fu e2
  subst e4
  exact one S R e1 fun ι1 H1 v le S1 R1 r => ⟨ι1, ρ, _, x, ρ', S1, R1, r, e3, fun σ' R' _ _ => q ι1 H1 σ' le S1 R'⟩
theorem aue (he : PE X a (tE nm W X.K a')) (hs : swapsWith a none pos.line X.env = pure false) : PS X (.Expr a pos) (tS nm W X.K (.expr a')) :=
 PS.of (aso he hs) fun D σ H ι ρ M fl ρ' M' S R e q => by
  rw [MW.as9] at e
  obtain ⟨x, M1, e1, e⟩ := aa e
  cases e
  exact one S R e1 fun ι1 H1 v le S1 R1 r => q ι1 H1 σ le S1 R1
theorem ayq (he : PE X a (tE nm W X.K a')) : PS X (.Return (some a) pos) (tS nm W X.K (.ret a')) :=
 PS.of (avt he) fun D σ H ι ρ M fl ρ' M' S R e q => by
  rw [MW.awb] at e
  obtain ⟨x, M1, e1, e⟩ := aa e
  cases e
  exact one S R e1 fun ι1 H1 v le S1 R1 r => q ι1 H1 σ le S1 R1 v r
theorem av8 : PS X (.Return none pos) (tS nm W X.K .retN) :=
 PS.of ara fun D σ H ι ρ M fl ρ' M' S R e q => by
  rw [MW.aqw] at e; cases e
  exact q ι H σ (Le.refl _ _) S R _ .non
theorem avu : PS X (.Pass pos) (tS nm W X.K .pass) :=
 PS.of arj fun D σ H ι ρ M fl ρ' M' S R e q => by
  rw [MW.ath] at e; cases e
  exact q ι H σ (Le.refl _ _) S R
theorem aw3 : PS X (.Break pos) (tS nm W X.K .brk) :=
 PS.of aom fun D σ H ι ρ M fl ρ' M' S R e q => by
  rw [MW.auf] at e; cases e
  exact q ι H σ (Le.refl _ _) S R
theorem avf : PS X (.Continue pos) (tS nm W X.K .cont) :=
 PS.of aih fun D σ H ι ρ M fl ρ' M' S R e q => by
  rw [MW.ard] at e; cases e
  exact q ι H σ (Le.refl _ _) S R
theorem EndOk.mono {D : Ends} {ι' : Io} {H' : Hp} {fl : MW.Flow} (le : Le ι H ι' H') (q : EndOk nm X.K D ι H fl ρ M) : EndOk nm X.K D ι' H' fl ρ M := fun ι2 H2 σ2 le2 S2 R2 => q ι2 H2 σ2 (le.trans le2) S2 R2
theorem ayk {ts fs : List Stmt} {ts' fs' : Stms} (hc : PT X c (tQ nm W X.K c')) (ht : PSs X ts (tSs nm W X.K ts')) (hf : PSs X fs (tSs nm W X.K fs')) : PS X (.If c ts fs pos) (tS nm W X.K (.iff c' ts' fs')) :=
 PS.of (axj hc ht hf) fun D σ H ι ρ M fl ρ' M' S R e q => by
  rw [MW.au3] at e
  obtain ⟨x, M1, e1, e⟩ := aa e
  cases x <;> try cases e
  rename_i k
  refine yw S R e1 fun ι1 H1 le S1 R1 => ?_
  cases k with
  | true => exact ⟨ι1, ρ, M1, fl, ρ', M', S1, R1, e, q.mono le⟩
  | false => exact ⟨ι1, ρ, M1, fl, ρ', M', S1, R1, e, q.mono le⟩
theorem aur : PSs X [] (tSs nm W X.K .nil) := PSs.of asr fun D σ H ι ρ M fl ρ' M' S R e q => by
 rw [MW.asm] at e; cases e
 exact q ι H σ (Le.refl _ _) S R
theorem aqk {st : Stmt} {rest : List Stmt} {st' : Stm} {rest' : Stms} (h1 : PS X st (tS nm W X.K st')) (h2 : PSs X rest (tSs nm W X.K rest')) : PSs X (st :: rest) (tSs nm W X.K (.cons st' rest')) :=
 PSs.of (aps h1 h2) fun D σ H ι ρ M fl ρ' M' S R e q => by
  rw [MW.aou] at e
  obtain ⟨⟨fl1, ρ1⟩, M1, e1, e⟩ := aa e
  refine ⟨ι, ρ, M, fl1, ρ1, M1, S, R, e1, fun ι1 H1 σ1 le S1 R1 => ?_⟩
  cases fl1 with
  | next => exact ⟨ι1, ρ1, M1, fl, ρ', M', S1, R1, e, q.mono le⟩
  | brk => cases e; exact q ι1 H1 σ1 le S1 R1
  | cont => cases e; exact q ι1 H1 σ1 le S1 R1
  | ret d => cases e; exact q ι1 H1 σ1 le S1 R1
theorem axs {body : List Stmt} {body' : Stms} (hp : PassesOwn (model X.prog X.w) X.A X.env X.xe) (hc : PT X c (tQ nm W X.K c')) (hb : PSs X body (tSs nm W X.K body')) : PS X (.While c body [] pos) (tS nm W X.K (.whl c' body')) :=
 PS.of (aor hp hc hb) fun D σ H ι ρ M fl ρ' M' S R e q => by
  rw [MW.agq] at e
  refine ⟨fun m σ1 H1 => ∃ ι1 ρ1 M1, Le ι H ι1 H1 /\ SimM nm X.K ι1 H1 M1 /\ EnvR X.K ι1 H1 ρ1 σ1 /\ MW.jo (c'.den W) (body'.den W) m ρ1 M1 = .ok (fl, ρ') M', ⟨MW.ae6, ι, ρ, M, Le.refl _ _, S, R, e⟩, ?_⟩
  rintro m σ1 H1 ⟨ι1, ρ1, M1, le1, S1, R1, e1⟩
  cases m with
  | zero => cases e1
  | succ m =>
   simp only [MW.jo] at e1
   obtain ⟨x, M2, e2, e1⟩ := aa e1
   cases x <;> try cases e1
   rename_i k
   refine yw S1 R1 e2 fun ι2 H2 le2 S2 R2 => ?_
   cases k with
   | false => cases e1; exact q ι2 H2 σ1 (le1.trans le2) S2 R2
   | true =>
    obtain ⟨⟨fl3, ρ3⟩, M3, e3, e1⟩ := aa e1
    refine ⟨fun σ4 H4 => ∃ ι4 ρ4 M4, Le ι H ι4 H4 /\ SimM nm X.K ι4 H4 M4 /\ EnvR X.K ι4 H4 ρ4 σ4 /\ MW.jo (c'.den W) (body'.den W) m ρ4 M4 = .ok (fl, ρ') M', fun σ4 H4 h4 => ⟨m, Nat.lt_succ_self _, h4⟩, ι2, ρ1, M2, fl3, ρ3, M3, S2, R2, e3, fun ι4 H4 σ4 le4 S4 R4 => ?_⟩
    cases fl3 with
    | next => exact ⟨ι4, ρ3, M3, (le1.trans le2).trans le4, S4, R4, e1⟩
    | cont => exact ⟨ι4, ρ3, M3, (le1.trans le2).trans le4, S4, R4, e1⟩
    | brk => cases e1; exact q ι4 H4 σ4 ((le1.trans le2).trans le4) S4 R4
    | ret d => cases e1; exact q ι4 H4 σ4 ((le1.trans le2).trans le4) S4 R4
def akx (nm : Nm) (K : Fg) (ι : Io) (H : Hp) (s : Src) (J : It) : Prop := ∀ ι1 H1 M1, LeX ι H ι1 H1 -> SimM nm K ι1 H1 M1 ->
 (∀ i d, i < s.len -> s.item i M1 = some d -> J.go i H1 /\ ∀ v H2, J.yld i H1 v H2 -> Le ι1 H1 ι1 H2 /\ SimM nm K ι1 H2 M1 /\ Rep K ι1 H2 d v) /\ (s.fin M1 = true -> J.stop s.len H1)
def tI (nm : Nm) (W : Wld) (K : Fg) (it : Itr) : TI := fun σ H R => ∃ ι ρ M s M', SimM nm K ι H M /\ EnvR K ι H ρ σ /\ it.den W ρ M = .ok s M' /\ ∀ ι' H' J, Le ι H ι' H' -> SimM nm K ι' H' M' -> akx nm K ι' H' s J -> R J H'
theorem ayc {tg iter : Expr} {body : List Stmt} {t : Tg} {it : Itr} {body' : Stms} (hp : PassesOwn (model X.prog X.w) X.A X.env X.xe) (hc : X.calm = true) (hi : PI X tg iter (tI nm W X.K it)) (hg : PG X tg (tGt nm X.K t)) (hb : PSs X body (tSs nm W X.K body'))
 (hs : je iter = true) : PS X (.For tg iter body [] pos) (tS nm W X.K (.for_ t it body')) :=
 PS.of (atj hp hc hi hg hb (jt hs X.env)) fun D σ H ι ρ M fl ρ' M' S R e q => by
  rw [MW.aaa] at e
  obtain ⟨s, M1, e1, e⟩ := aa e
  refine ⟨ι, ρ, M, s, M1, S, R, e1, fun ι1 H1 J le1 S1 sj => ?_⟩
  refine ⟨fun i m σ2 H2 => m = s.len - i /\ i <= s.len /\ ∃ ι2 ρ2 M2, Le ι1 H1 ι2 H2 /\ SimM nm X.K ι2 H2 M2 /\ EnvR X.K ι2 H2 ρ2 σ2 /\ MW.iw s.fin s.item (fun d ρ M => match t.put d ρ with | some ρ' => body'.den W ρ' M | none => .bad) m i ρ2 M2 = .ok (fl, ρ') M',
   ⟨s.len, rfl, Nat.zero_le _, ι1, ρ, M1, Le.refl _ _, S1, R.mono le1, e⟩, ?_⟩
  rintro i m σ2 H2 ⟨hm, hil, ι2, ρ2, M2, le2, S2, R2, e2⟩
  obtain ⟨go, stop⟩ := sj ι2 H2 M2 le2.toX S2
  cases m with
  | zero =>
   simp only [MW.iw] at e2
   split at e2 <;> cases e2
   rename_i hfin
   have hi : i = s.len := by omega
   subst hi
   exact .inl ⟨stop hfin, q ι2 H2 σ2 (le1.trans le2) S2 R2⟩
  | succ m =>
   simp only [MW.iw] at e2
   split at e2
   . cases e2
   . rename_i d hd
     obtain ⟨⟨fl3, ρ3⟩, M3, e3, e2⟩ := aa e2
     obtain ⟨g1, g2⟩ := go i d (by omega) hd
     refine .inr ⟨g1, fun σ4 H4 => ∃ ι4 ρ4 M4, Le ι1 H1 ι4 H4 /\ SimM nm X.K ι4 H4 M4 /\ EnvR X.K ι4 H4 ρ4 σ4 /\ MW.iw s.fin s.item (fun d ρ M => match t.put d ρ with | some ρ' => body'.den W ρ' M | none => .bad) m (i + 1) ρ4 M4 = .ok (fl, ρ') M',
      fun σ4 H4 ⟨ι4, ρ4, M4, h4⟩ => ⟨m, Nat.lt_succ_self _, by omega, by omega, ι4, ρ4, M4, h4⟩, fun v H3 yv => ?_⟩
     obtain ⟨le3, S3, r3⟩ := g2 v H3 yv
     split at e3
     . rename_i ρ5 hput
       refine ⟨ι2, ρ2, M2, d, ρ5, S3, R2.mono le3, r3, hput, fun σ5 R5 _ _ => ⟨ι2, ρ5, M2, fl3, ρ3, M3, S3, R5, e3, fun ι4 H4 σ4 le4 S4 R4 => ?_⟩⟩
       have leA := (le2.trans le3).trans le4
       cases fl3 with
       | next => exact ⟨ι4, ρ3, M3, leA, S4, R4, e2⟩
       | cont => exact ⟨ι4, ρ3, M3, leA, S4, R4, e2⟩
       | brk => cases e2; exact q ι4 H4 σ4 (le1.trans leA) S4 R4
       | ret d => cases e2; exact q ι4 H4 σ4 (le1.trans leA) S4 R4
     . cases e3
end
section
variable {nm : Nm} {W : Wld} {X : Cx} {a b c : Expr} {a' b' c' : Ex} {pos pos' : Pos} {ι : Io} {H : Hp} {σ : St} {ρ : En} {M M1 M2 : Store} {x y : Dv} {es : List Expr} {es' : Exs} {tg iter elt : Expr}
theorem PI.weak {wi wi' : TI} (h : PI X tg iter wi) (w : ∀ σ H R, wi' σ H R -> wi σ H R) : PI X tg iter wi' := fun pins s σ H R I q => h pins s σ H R I (w σ H R q)
theorem PI.of {it : Itr} {wi : TI} (h : PI X tg iter wi) (w : ∀ σ H R' ι ρ M s M', SimM nm X.K ι H M -> EnvR X.K ι H ρ σ -> it.den W ρ M = .ok s M' -> (∀ ι' H' J, Le ι H ι' H' -> SimM nm X.K ι' H' M' -> akx nm X.K ι' H' s J -> R' J H') -> wi σ H R') : PI X tg iter (tI nm W X.K it) :=
 PI.weak h fun σ H R' ⟨ι, ρ, M, s, M', S, R, e, q⟩ => w σ H R' ι ρ M s M' S R e q
theorem awh {l : Expr} {tl : TE} (hl : PE X l tl) : PI X tg l (fun σ H R => tl σ H fun x H1 => ∃ a, x = .ref a /\ ((∃ xs, SqL X.K H1 a xs) /\ R (Itl X.K a) H1 \/ (∃ xs, SqT X.K H1 a xs) /\ R (Itt X.K a) H1)) := by
 intro pins s σ H R I h
 refine thn (hl pins s σ H _ I h) fun v s1 ⟨x, H1, I1, r1, q1⟩ => ?_
 obtain ⟨a, e, ⟨⟨xs, hq⟩, q⟩ | ⟨⟨xs, hq⟩, q⟩⟩ := q1
 . subst e
   cases r1
   obtain ⟨its, rv, p, hz⟩ := I1.list hq
   refine wpAny_pyIter_list p.isList ?_
   refine ⟨s1.heap.objs.size, [s1.heap.objs.size], _, _, H1, rfl, I1.kept (t' := s1.toks) fun b o e => Heap.get?_push_of_some _ e, ak6 a _, ⟨_, Heap.get?_push_size _ rfl, rfl, rfl⟩, fun b hb => ?_, q⟩
   have e : b = s1.heap.objs.size := by simpa using hb
   subst e
   exact I1.fpOk (Nat.le_refl _) (I1.hok.fresh (Nat.le_refl _))
 . subst e
   cases r1
   obtain ⟨its, rv, p, hz⟩ := I1.tuple hq
   refine wpAny_pyIter_tuple (show s1.heap.IsTuple a its.toArray from p) ?_
   refine ⟨s1.heap.objs.size, [s1.heap.objs.size], _, _, H1, rfl, I1.kept (t' := s1.toks) fun b o e => Heap.get?_push_of_some _ e, aj3 a _, ⟨_, Heap.get?_push_size _ rfl, rfl, rfl⟩, fun b hb => ?_, q⟩
   have e : b = s1.heap.objs.size := by simpa using hb
   subst e
   exact I1.fpOk (Nat.le_refl _) (I1.hok.fresh (Nat.le_refl _))
theorem afx {p : Addr} {ds : List Dv} {s : Src} (hs : ∀ ι1 H1 M1, LeX ι H ι1 H1 -> SimM nm X.K ι1 H1 M1 -> (∀ i d, s.item i M1 = some d -> ∃ vs v, H1 p = some (.lst vs) /\ vs[i]? = some v /\ Rep X.K ι1 H1 d v) /\ (s.fin M1 = true -> ∃ vs, H1 p = some (.lst vs) /\ vs.length <= s.len)) :
 akx nm X.K ι H s (Itl X.K p) := fun ι1 H1 M1 le S1 => by
 obtain ⟨a, b⟩ := hs ι1 H1 M1 le S1
 refine ⟨fun i d hi hd => ?_, fun hf => ?_⟩
 . obtain ⟨vs, v, h1, h2, h3⟩ := a i d hd
   refine ⟨⟨vs, v, SqL.of h1, h2⟩, fun u H2 ⟨e, y⟩ => ?_⟩
   subst e
   have := y vs (SqL.of h1)
   rw [h2] at this
   cases this
   exact ⟨Le.refl _ _, S1, h3⟩
 . obtain ⟨vs, h1, h2⟩ := b hf
   exact ⟨vs, SqL.of h1, h2⟩
theorem aw5 (ha : PE X a (tE nm W X.K a')) : PI X tg a (tI nm W X.K (.val a')) :=
 PI.of (awh ha) fun σ H R' ι ρ M s M' S R e q => by
  rw [MW.uz] at e
  obtain ⟨x, M1, e1, e⟩ := aa e
  obtain ⟨e, rfl⟩ := fu e
  refine one S R e1 fun ι1 H1 v le S1 R1 r => ?_
  cases r with
  | @tup p ds vs h1 r1 =>
   simp only [MW.srcOf] at e
   cases e
   refine ⟨p, rfl, .inr ⟨⟨vs, SqT.of h1⟩, q ι1 H1 _ le S1 fun ι2 H2 M2 le2 S2 => ⟨fun i d hi hd => ?_, fun _ => ⟨vs, SqT.of (le2.tup _ _ h1), by rw [<- r1.length]; exact Nat.le_refl _⟩⟩⟩⟩
   have hd : ds[i]? = some d := hd
   obtain ⟨v, g1, g2⟩ := (r1.monoX le2).get hd
   refine ⟨⟨vs, v, SqT.of (le2.tup _ _ h1), g1⟩, fun u H3 ⟨ee, yy⟩ => ?_⟩
   subst ee
   have := yy vs (SqT.of (le2.tup _ _ h1))
   rw [g1] at this
   cases this
   exact ⟨Le.refl _ _, S2, g2⟩
  | @vl p ds vs h1 n1 r1 =>
   simp only [MW.srcOf] at e
   cases e
   refine ⟨p, rfl, .inl ⟨⟨vs, SqL.of h1⟩, q ι1 H1 _ le S1 (afx (ds := ds) fun ι2 H2 M2 le2 S2 => ⟨fun i d hd => ?_, fun _ => ⟨vs, le2.lst _ _ n1.1 h1, by rw [<- r1.length]; exact Nat.le_refl _⟩⟩)⟩⟩
   have hd : ds[i]? = some d := hd
   obtain ⟨v, g1, g2⟩ := (r1.monoX le2).get hd
   exact ⟨vs, v, le2.lst _ _ n1.1 h1, g1, g2⟩
  | @ref n p h1 =>
   simp only [MW.srcOf] at e
   obtain ⟨ds, hn, rfl⟩ : ∃ ds, M'[n]? = some (.lst ds) /\ s = .live n ds.length := by
    split at e
    . rename_i ds hn; cases e; exact ⟨ds, hn, rfl⟩
    . cases e
   obtain ⟨vs, g1, g2⟩ := S1.obj n _ p hn h1
   refine ⟨p, rfl, .inl ⟨⟨vs, SqL.of g1⟩, q ι1 H1 _ le S1 (afx (ds := ds) fun ι2 H2 M2 le2 S2 => ⟨fun i d hd => ?_, fun hf => ?_⟩)⟩⟩
   . simp only [Src.item] at hd
     split at hd
     . rename_i ds2 hn2
       split at hd
       . obtain ⟨vs2, k1, k2⟩ := S2.obj n _ p hn2 (le2.get h1)
         obtain ⟨v, k3, k4⟩ := k2.get hd
         exact ⟨vs2, v, k1, k3, k4⟩
       . cases hd
     . cases hd
   . simp only [Src.fin] at hf
     split at hf
     . rename_i ds2 hn2
       obtain ⟨vs2, k1, k2⟩ := S2.obj n _ p hn2 (le2.get h1)
       refine ⟨vs2, k1, ?_⟩
       rw [<- k2.length]
       have : ds2.length = ds.length := by simpa using hf
       rw [this]
       exact Nat.le_refl _
     . cases hf
  | _ => simp [MW.srcOf] at e
theorem axd {pr : Pos} (hg : Gl X "range") (hm : X.mg "range" = none) (ha : PE X a (tE nm W X.K a')) (hst : noStar a = true) : PI X tg (.Call (.Name "range" pr) [a] [] pos) (tI nm W X.K (.rng a')) :=
 PI.of (amw hg hm (aal ha ab3 (bu hst _ _)) (bu hst _ _)) fun σ H R' ι ρ M s M' S R e q => by
  rw [MW.ab9] at e
  obtain ⟨x, M1, e1, e⟩ := aa e
  refine yx (es' := .cons a' .nil) (ds := [x]) (M1 := M1) S R (by rw [MW.su, e1]; simp) fun ι1 H1 vs le S1 R1 r => ?_
  obtain ⟨i, hx⟩ : ∃ i, x = .int i := by cases x <;> first | exact ⟨_, rfl⟩ | cases e
  subst hx
  have e : (if i.natAbs <= 100000 then Res.ok (Src.con ((List.range i.toNat).map fun (k : Nat) => MW.D.int (k : Int))) M1 else .bad) = .ok s M' := e
  split at e <;> cases e
  rename_i hi
  cases r with
  | cons r1 r2 =>
   cases r1
   cases r2
   refine ⟨i, rfl, by omega, by omega, q ι1 H1 _ le S1 fun ι2 H2 M2 le2 S2 => ⟨fun j d hj hd => ?_, fun _ => ?_⟩⟩
   . have hl : j < i.toNat := by simpa [Src.len] using hj
     have hd : ((List.range i.toNat).map fun (k : Nat) => MW.D.int (k : Int))[j]? = some d := hd
     rw [List.getElem?_map, List.getElem?_range hl] at hd
     have hd : MW.D.int (j : Int) = d := by simpa using hd
     subst hd
     refine ⟨hl, fun u H3 ⟨ee, yy⟩ => ?_⟩
     subst ee yy
     exact ⟨Le.refl _ _, S2, by rw [Int.zero_add]; exact .int _⟩
   . show i.toNat <= _
     simp [Src.len]
theorem ald {K : Fg} {k : Nat} (R : EnvR K ι H ρ σ) : EnvR K ι H (ρ ++ List.replicate k none) (σ ++ List.replicate k none) := R.append (EnvR.nones k (by simp))
theorem anw {n k : Nat} {t : Tg} {σ2 : St} (hn : σ.length = n) (ho : ∀ i ∈ il t, n <= i) (h : ∀ j, j ∉ il t -> σ2[j]? = (σ ++ List.replicate k none)[j]?) : ∀ (j : Nat) v, (σ ++ List.replicate k none)[j]? = some (some v) -> σ2[j]? = some (some v) := fun j v e => by
 by_cases hj : j ∈ il t
 . have := ho j hj
   rw [List.getElem?_append_right (by omega), List.getElem?_replicate] at e
   split at e <;> simp at e
 . rw [h j hj]; exact e
def ap2 (o : Option Dv) : List Dv := match o with | some x => [x] | none => []
theorem aik {fin : Store -> Bool} {item : Nat -> Store -> Option Dv} {body : Dv -> Store -> Res (Option Dv)} {k i : Nat} {ds : List Dv} {M M' : Store} (h : MW.jb fin item body (k + 1) i M = .ok ds M') :
 ∃ d o M1 rest, item i M = some d /\ body d M = .ok o M1 /\ MW.jb fin item body k (i + 1) M1 = .ok rest M' /\ ds = ap2 o ++ rest := by
 simp only [MW.jb] at h
 split at h
 . cases h
 . rename_i d hd
   obtain ⟨o, M1, e1, h⟩ := aa h
   obtain ⟨rest, M2, e2, h⟩ := aa h
   cases h
   exact ⟨d, o, M1, rest, hd, e1, e2, by cases o <;> rfl⟩
theorem RepL.snoc {K : Fg} {ds : List Dv} {vs : List V} {d : Dv} {v : V} (r : RepL K ι H ds vs) (h : Rep K ι H d v) : RepL K ι H (ds ++ [d]) (vs ++ [v]) := r.append (.cons h .nil)
theorem amc {v : Bool} {k : Nat} {t : Tg} {it : Itr} {e' : Ex} {d : Dv} {M' : Store} (h : (Ex.comp v k t it e').den W ρ M = .ok d M') (hv : v = true) : ∃ s M1 ds, it.den W ρ M = .ok s M1 /\ s.len <= 100000 /\
 MW.jb s.fin s.item (fun d M => match t.put d (ρ ++ List.replicate k none) with | some ρ' => (e'.den W ρ' M).bind fun x M' => .ok (some x) M' | none => .bad) s.len 0 M1 = .ok ds M' /\ d = .vl ds := by
 subst hv
 rw [MW.wy] at h
 obtain ⟨s, M1, e1, h⟩ := aa h
 obtain ⟨ds, M2, e2, h⟩ := aa h
 rw [if_pos rfl] at h
 cases h
 unfold MW.di at e2
 split at e2
 . rename_i hl
   exact ⟨s, M1, ds, e1, hl, e2, rfl⟩
 . cases e2
def BodyOk (nm : Nm) (K : Fg) (σ2 : St) (tc : TT) (te : TE) (ρ2 : En) (M : Store) (o : Option Dv) (M' : Store) : Prop := ∀ ι H (G1 : V -> Hp -> Prop) (G0 : Hp -> Prop), SimM nm K ι H M -> EnvR K ι H ρ2 σ2 ->
 (∀ ι' H' v, Le ι H ι' H' -> SimM nm K ι' H' M' -> (match o with | some x => Rep K ι' H' x v -> G1 v H' | none => G0 H')) -> tc σ2 H fun b H3 => if b = true then te σ2 H3 fun v H4 => G1 v H4 else G0 H3
theorem af0 {N : List Str} {k : Nat} {t : Tg} {it : Itr} {tc : TT} {te : TE} {body : Dv -> Store -> Res (Option Dv)} {Q : VK} {s : Src} {ds : List Dv} {M' : Store} (hk : N.length - X.N.length = k) (ho : ∀ i ∈ il t, X.N.length <= i) (hσ : σ.length = X.N.length)
 (S : SimM nm X.K ι H M) (R : EnvR X.K ι H ρ σ) (e1 : it.den W ρ M = .ok s M1) (hlen : s.len <= 100000) (e2 : MW.jb s.fin s.item body s.len 0 M1 = .ok ds M')
 (q : ∀ ι' H' v, Le ι H ι' H' -> SimM nm X.K ι' H' M' -> Rep X.K ι' H' (.vl ds) v -> Q v H')
 (hb : ∀ d M2 o M3, body d M2 = .ok o M3 -> ∃ ρ5, t.put d (ρ ++ List.replicate k none) = some ρ5 /\ ∀ σ5, BodyOk nm X.K σ5 tc te ρ5 M2 o M3) : aeb (N.length - X.N.length) (tI nm W X.K it) (tGt nm X.K t) tc te σ H Q := by
 refine ⟨ι, ρ, M, s, M1, S, R, e1, fun ι1 H1 J le1 S1 sj D hD => ?_⟩
 rw [hk]
 refine ⟨fun i m H2 => m = s.len - i /\ i <= s.len /\ ∃ ι2 M2 acc vs rest, LeD D ι1 H1 (Io.hide ι2 D) H2 /\ SimM nm X.K (Io.hide ι2 D) H2 M2 /\ H2 D = some (.lst vs) /\ RepL X.K (Io.hide ι2 D) H2 acc vs /\ acc.length <= i /\
  MW.jb s.fin s.item body m i M2 = .ok rest M' /\ ds = acc ++ rest, ?_, ?_⟩
 . exact ⟨s.len, rfl, Nat.zero_le _, ι1, M1, [], [], ds, LeD.start hD _, S1.hide hD, cg, .nil, Nat.le_refl _, e2, rfl⟩
 . rintro i m H2 ⟨hm, hil, ι2, M2, acc, vs, rest, le2, S2, hd2, racc, hacc, e3, hds⟩
   have leP : Le ι1 H1 ι2 H2 := LeD.done le2
   have edel : ι2.δ = ι1.δ := leP.del
   have hoff : ι2.off D := ⟨(S2.del D List.mem_cons_self).1, fun z => by rw [edel] at z; exact (S1.fresh hD).2 z⟩
   obtain ⟨go, stop⟩ := sj (Io.hide ι2 D) H2 M2 (le2.toX hD) S2
   cases m with
   | zero =>
    simp only [MW.jb] at e3
    split at e3 <;> cases e3
    rename_i hfin
    have hi : i = s.len := by omega
    subst hi
    rw [List.append_nil] at hds
    subst hds
    exact .inl ⟨stop hfin, q ι2 H2 _ (le1.trans leP) S2.show (.vl hd2 hoff racc.show)⟩
   | succ m =>
    obtain ⟨d, o, M3, rest', h1, h2, h3, h4⟩ := aik e3
    obtain ⟨g1, g2⟩ := go i d (by omega) h1
    refine .inr ⟨g1, fun v H3 yv => ?_⟩
    obtain ⟨le3, S3, r3⟩ := g2 v H3 yv
    obtain ⟨ρ5, hput, bok⟩ := hb d M2 o M3 h2
    have R3 : EnvR X.K (Io.hide ι2 D) H3 ρ σ := ((R.mono le1).monoX (le2.toX hD)).mono le3
    refine ⟨Io.hide ι2 D, ρ ++ List.replicate k none, M2, d, ρ5, S3, ald R3, r3, hput, fun σ5 R5 l5 k5 => ⟨l5, anw hσ ho k5, ?_⟩⟩
    have hd3 := le3.lst D vs (S2.del D List.mem_cons_self).1 hd2
    refine bok σ5 (Io.hide ι2 D) H3 _ _ S3 R5 (fun ι6 H6 u le6 S6 => by
     have hd6 := le6.lst D vs (S2.del D List.mem_cons_self).1 hd3
     have le06 : LeD D ι1 H1 ι6 H6 := (le2.go le3).go le6
     have ei : ι6 = Io.hide ⟨ι6.l, ι2.δ⟩ D := by
      have := le6.del
      obtain ⟨l6, δ6⟩ := ι6
      simp only [Io.hide] at this ⊢
      rw [this]
     rw [ei] at le06 S6
     have racc6 : RepL X.K (Io.hide ⟨ι6.l, ι2.δ⟩ D) H6 acc vs := by rw [<- ei]; exact (racc.mono le3).mono le6
     cases o with
     | none =>
      refine ⟨m, Nat.lt_succ_self _, by omega, by omega, ⟨ι6.l, ι2.δ⟩, M3, acc, vs, rest', le06, S6, hd6, racc6, by omega, h3, ?_⟩
      rw [hds, h4]; rfl
     | some x =>
      intro r6
      rw [ei] at r6
      have hmem : D ∈ (Io.hide ⟨ι6.l, ι2.δ⟩ D).δ := List.mem_cons_self
      refine ⟨vs, m, hd6, ?_, Nat.lt_succ_self _, by omega, by omega, ⟨ι6.l, ι2.δ⟩, M3, acc ++ [x], vs ++ [u], rest', le06.grow hD hd6, S6.grow hd6 hmem, cg, (racc6.snoc r6).grow hd6 hmem, by simp; omega, h3, ?_⟩
      . rw [<- racc.length]
        exact Nat.lt_of_le_of_lt (Nat.le_trans hacc (Nat.le_trans hil hlen)) (by decide)
      . rw [hds, h4]; simp [ap2])
theorem afu {N : List Str} {k : Nat} {t : Tg} {it : Itr} {e' : Ex} (hk : N.length - X.N.length = k) (ho : ∀ i ∈ il t, X.N.length <= i) : ∀ σ H Q, σ.length = X.N.length -> tE nm W X.K (.comp true k t it e') σ H Q ->
 aeb (N.length - X.N.length) (tI nm W X.K it) (tGt nm X.K t) (fun _ H Q => Q true H) (tE nm W X.K e') σ H Q := fun σ H Q hσ hh => by
 obtain ⟨ι, ρ, M, d, M', S, R, e, q⟩ := hh
 obtain ⟨s, M1, ds, e1, hlen, e2, rfl⟩ := amc e rfl
 refine af0 hk ho hσ S R e1 hlen e2 q fun d M2 o M3 hb => ?_
 split at hb
 . rename_i ρ5 hput
   obtain ⟨x, M4, e5, hb⟩ := aa hb
   cases hb
   refine ⟨ρ5, hput, fun σ5 ι5 H5 G1 G0 S5 R5 g => ?_⟩
   show if true = true then _ else _
   rw [if_pos rfl]
   exact one (X := X) S5 R5 e5 fun ι6 H6 u le6 S6 R6 r6 => g ι6 H6 u le6 S6 r6
 . cases hb
theorem aic {k : Nat} {t : Tg} {it : Itr} {c' e' : Ex} {d : Dv} {M' : Store} (h : (Ex.compif true k t it c' e').den W ρ M = .ok d M') : ∃ s M1 ds, it.den W ρ M = .ok s M1 /\ s.len <= 100000 /\
 MW.jb s.fin s.item (fun d M => match t.put d (ρ ++ List.replicate k none) with | some ρ' => (c'.den W ρ' M).bind fun b M' => (match b with | .bl true => (e'.den W ρ' M').bind fun x M'' => .ok (some x) M'' | .bl false => .ok none M' | _ => .bad) | none => .bad) s.len 0 M1 = .ok ds M' /\ d = .vl ds := by
 rw [MW.ado] at h
 obtain ⟨s, M1, e1, h⟩ := aa h
 obtain ⟨ds, M2, e2, h⟩ := aa h
 rw [if_pos rfl] at h
 cases h
 unfold MW.di at e2
 split at e2
 . rename_i hl
   exact ⟨s, M1, ds, e1, hl, e2, rfl⟩
 . cases e2
theorem acn {N : List Str} {k : Nat} {t : Tg} {it : Itr} {c' e' : Ex} (hk : N.length - X.N.length = k) (ho : ∀ i ∈ il t, X.N.length <= i) : ∀ σ H Q, σ.length = X.N.length -> tE nm W X.K (.compif true k t it c' e') σ H Q ->
 aeb (N.length - X.N.length) (tI nm W X.K it) (tGt nm X.K t) (tQ nm W X.K c') (tE nm W X.K e') σ H Q := fun σ H Q hσ hh => by
 obtain ⟨ι, ρ, M, d, M', S, R, e, q⟩ := hh
 obtain ⟨s, M1, ds, e1, hlen, e2, rfl⟩ := aic e
 refine af0 hk ho hσ S R e1 hlen e2 q fun d M2 o M3 hb => ?_
 split at hb
 . rename_i ρ5 hput
   obtain ⟨x, M4, e5, hb⟩ := aa hb
   refine ⟨ρ5, hput, fun σ5 ι5 H5 G1 G0 S5 R5 g => ?_⟩
   split at hb
   . obtain ⟨y, M6, e6, hb⟩ := aa hb
     cases hb
     refine yw (X := X) S5 R5 e5 fun ι6 H6 le6 S6 R6 => ?_
     rw [if_pos rfl]
     exact one (X := X) S6 R6 e6 fun ι7 H7 u le7 S7 R7 r7 => g ι7 H7 u (le6.trans le7) S7 r7
   . cases hb
     refine yw (X := X) S5 R5 e5 fun ι6 H6 le6 S6 R6 => ?_
     rw [if_neg (by simp)]
     exact g ι6 H6 .non le6 S6
   . cases hb
 . cases hb
theorem PE.weakN {e : Expr} {t t' : TE} (h : PE X e t) (w : ∀ σ H Q, σ.length = X.N.length -> t' σ H Q -> t σ H Q) : PE X e t' := fun pins s σ H Q I q => h pins s σ H Q I (w σ H Q I.len q)
theorem PS.weakN {st : Stmt} {t t' : TS} (h : PS X st t) (w : ∀ D σ H, σ.length = X.N.length -> t' D σ H -> t D σ H) : PS X st t' := fun pins s σ H D I q => h pins s σ H D I (w D σ H I.len q)
theorem avn {N : List Str} {scope : Scope} {k : Nat} {t : Tg} {it : Itr} {e' : Ex} (B : BlkOk X N scope) (hcalm : X.calm = true) (hi : PI X tg iter (tI nm W X.K it)) (hg : ∀ C fp s H, PG (blk X N scope C fp s H) tg (tGt nm X.K t))
 (he : ∀ C fp s H, PE (blk X N scope C fp s H) elt (tE nm W X.K e')) (hs : je iter = true) (hk : N.length - X.N.length = k) (ho : ∀ i ∈ il t, X.N.length <= i) : PE X (.ListComp elt [⟨tg, iter, [], 0⟩] scope pos) (tE nm W X.K (.comp true k t it e')) :=
 PE.weakN (aim B hcalm hi hg (fun _ _ _ _ => .inl ⟨rfl, rfl⟩) he (jt hs X.env)) (afu hk ho)
theorem apa {N : List Str} {scope : Scope} {k : Nat} {t : Tg} {it : Itr} {c' e' : Ex} (B : BlkOk X N scope) (hcalm : X.calm = true) (hi : PI X tg iter (tI nm W X.K it)) (hg : ∀ C fp s H, PG (blk X N scope C fp s H) tg (tGt nm X.K t))
 (hc : ∀ C fp s H, PT (blk X N scope C fp s H) c (tQ nm W X.K c')) (he : ∀ C fp s H, PE (blk X N scope C fp s H) elt (tE nm W X.K e')) (hs : je iter = true) (hk : N.length - X.N.length = k) (ho : ∀ i ∈ il t, X.N.length <= i) : PE X (.ListComp elt [⟨tg, iter, [c], 0⟩] scope pos) (tE nm W X.K (.compif true k t it c' e')) :=
 PE.weakN (aim B hcalm hi hg (fun _ _ _ _ => .inr ⟨c, rfl, hc _ _ _ _⟩) he (jt hs X.env)) (acn hk ho)
theorem agi {i : Nat} {tt : TE} {e' : Ex} (h : ∀ σ H Q, σ.length = X.N.length -> tE nm W X.K e' σ H Q -> tt σ H Q) : ∀ D σ H, σ.length = X.N.length -> tS nm W X.K (.asg (.tg (.name i)) e') D σ H -> api tt (agc i) D σ H := fun D σ H hσ hh => by
 obtain ⟨ι, ρ, M, fl, ρ', M', S, R, e, q⟩ := hh
 rw [MW.ad1] at e
 obtain ⟨x, M1, e1, e⟩ := aa e
 obtain ⟨ρ2, M2, e2, e⟩ := aa e
 cases e
 rw [MW.amd] at e2
 obtain ⟨e3, e4⟩ := fu e2
 subst e4
 cases e3
 exact h σ H _ hσ (one S R e1 fun ι1 H1 v le S1 R1 r => q ι1 H1 _ le S1 (R1.set r i))
theorem alp {N : List Str} {scope : Scope} {k i : Nat} {y : Str} {py spos : Pos} {t : Tg} {it : Itr} {e' : Ex} (B : BlkOk X N scope) (hcalm : X.calm = true) (hi : PI X tg iter (tI nm W X.K it)) (hg : ∀ C fp s H, PG (blk X N scope C fp s H) tg (tGt nm X.K t))
 (he : ∀ C fp s H, PE (blk X N scope C fp s H) elt (tE nm W X.K e')) (hs : je iter = true) (hk : N.length - X.N.length = k) (ho : ∀ i ∈ il t, X.N.length <= i) (hN : X.N.Nodup) (hy : X.N[i]? = some y) (hl : X.env.scope.names.lookup y = some .local)
 (hsw : swapsWith (.ListComp elt [⟨tg, iter, [], 0⟩] scope pos) (some (.Name y py)) spos.line X.env = pure true) : PS X (.Assign [.Name y py] (.ListComp elt [⟨tg, iter, [], 0⟩] scope pos) spos) (tS nm W X.K (.asg (.tg (.name i)) (.comp true k t it e'))) :=
 PS.weakN (ajl B hcalm hi hg (fun _ _ _ _ => .inl ⟨rfl, rfl⟩) he (jt hs X.env) hN hy hl hsw) (agi (afu hk ho))
theorem ah8 {N : List Str} {scope : Scope} {k i : Nat} {y : Str} {py spos : Pos} {t : Tg} {it : Itr} {c' e' : Ex} (B : BlkOk X N scope) (hcalm : X.calm = true) (hi : PI X tg iter (tI nm W X.K it)) (hg : ∀ C fp s H, PG (blk X N scope C fp s H) tg (tGt nm X.K t))
 (hc : ∀ C fp s H, PT (blk X N scope C fp s H) c (tQ nm W X.K c')) (he : ∀ C fp s H, PE (blk X N scope C fp s H) elt (tE nm W X.K e')) (hs : je iter = true) (hk : N.length - X.N.length = k) (ho : ∀ i ∈ il t, X.N.length <= i) (hN : X.N.Nodup) (hy : X.N[i]? = some y) (hl : X.env.scope.names.lookup y = some .local)
 (hsw : swapsWith (.ListComp elt [⟨tg, iter, [c], 0⟩] scope pos) (some (.Name y py)) spos.line X.env = pure true) : PS X (.Assign [.Name y py] (.ListComp elt [⟨tg, iter, [c], 0⟩] scope pos) spos) (tS nm W X.K (.asg (.tg (.name i)) (.compif true k t it c' e'))) :=
 PS.weakN (ajl B hcalm hi hg (fun _ _ _ _ => .inr ⟨c, rfl, hc _ _ _ _⟩) he (jt hs X.env) hN hy hl hsw) (agi (acn hk ho))
end
def spF (nm : Nm) (W : Wld) (K : Fg) (n f : Nat) : Sp := fun vs H Q _ => ∃ ι M ds d M', SimM nm K ι H M /\ RepL K ι H ds vs /\ ds.length = n /\ W.call f ds M = .ok d M' /\ ∀ ι' H' v, Le ι H ι' H' -> SimM nm K ι' H' M' -> Rep K ι' H' d v -> Q v H'
section
variable {nm : Nm} {W : Wld} {X : Cx} {a b c o : Expr} {a' b' c' o' : Ex} {pos pos' apos : Pos} {ι : Io} {H : Hp} {σ : St} {ρ : En} {M M1 M2 : Store} {x y : Dv} {es : List Expr} {es' : Exs} {k n f : Nat} {fa C : Addr} {fd : FuncData} {ps : List Str} {m : Str}
theorem s_call {p : Pos} {x : Str} (F : FnOk X.prog X.w X.K X.mg X.base CX0 k fa fd ps (spF nm W X.K n f)) (hr : Room k X.A) (hg : Gl X x) (hm : X.mg x = some (.ref fa)) (hk : PySem.W.keepIn X.K (.ref fa) = true) (hb : Binds X.K fd ps [])
 (hlen : Exs.len es' = n) (ha : PA X (a :: es) (tEs nm W X.K es')) (hdb : (x == ("__debug__" : Str)) = false) (he : starEach (a :: es) X.env = (false, eval a X.env) :: starEach es X.env) (hpl : (backTo pos (starEach es X.env)).any (·.1) = false) :
 PE X (.Call (.Name x p) (a :: es) [] pos) (tE nm W X.K (.call f es')) :=
 PE.of (aqm (E := E0) F hr hg hm hk hb .nil agb ha hdb he hpl) fun σ H Q ι ρ M d M' S R e q => by
  rw [MW.am4] at e
  obtain ⟨ds, M1, e1, e⟩ := aa e
  refine yx S R e1 fun ι1 H1 vs le S1 R1 r => ?_
  rw [List.append_nil]
  exact ⟨ι1, M1, ds, d, M', S1, r, (kh e1).trans hlen, e, fun ι' H' v le' S' r' => q ι' H' v (le.trans le') S' r'⟩
theorem avz {p : Pos} {x : Str} {ci : Nat} {cl : MW.Cl} (Mk0 : Mk X.K C fa) (F : FnOk X.prog X.w X.K X.mg X.base CX0 k fa fd ps (spF nm W X.K (n + 1) f)) (hr : Room (k + 1) X.A) (hg : Gl X x) (hm : X.mg x = some (.ref C)) (hb : Binds X.K fd ps [])
 (hcl : W.cls[ci]? = some cl) (hin : cl.init = f) (hnm : nm.cls ci = some C)
 (hlen : Exs.len es' = n) (ha : PA X (a :: es) (tEs nm W X.K es')) (hdb : (x == ("__debug__" : Str)) = false) (he : starEach (a :: es) X.env = (false, eval a X.env) :: starEach es X.env) (hpl : (backTo pos (starEach es X.env)).any (·.1) = false) :
 PE X (.Call (.Name x p) (a :: es) [] pos) (tE nm W X.K (.make ci es')) :=
 PE.of (aq6 (E := E0) Mk0 F hr hg hm hb .nil agb ha hdb he hpl) fun σ H Q ι ρ M d M' S R e q => by
  rw [MW.apf] at e
  obtain ⟨ds, M1, e1, e⟩ := aa e
  rw [hcl] at e
  have e : ((W.call cl.init (.ref M1.length :: ds) (M1 ++ [.ins ci []])).bind fun r M2 => match r with | .non => .ok (.ref M1.length) M2 | _ => .bad) = .ok d M' := e
  obtain ⟨r0, M2, e2, e⟩ := aa e
  refine yx S R e1 fun ι1 H1 vs le S1 R1 r => fun p dx hp hdx hne => ?_
  rw [List.append_nil]
  have keep : ∀ a u, H1 a = some u -> upd (upd H1 dx (.own p)) p (.ins C dx []) a = some u := fun a u e => by rw [au (bc e hp), au (bc e hdx)]; exact e
  obtain ⟨S2, le2⟩ := S1.new (o := .ins ci []) hp keep fun _ => ⟨C, dx, [], hnm, cg, .nil⟩
  have rp : Rep X.K (ι1.add p) (upd (upd H1 dx (.own p)) p (.ins C dx [])) (.ref M1.length) (.ref p) := .ref (by show (ι1.l ++ [p])[M1.length]? = some p; rw [<- S1.len]; simp)
  refine ⟨ι1.add p, M1 ++ [.ins ci []], .ref M1.length :: ds, r0, M2, S2, .cons rp (r.mono le2), by rw [List.length_cons, kh e1, hlen], by rw [<- hin]; exact e2, fun ι' H' v le' S' r' => ?_⟩
  cases r' <;> try cases e
  exact ⟨rfl, q ι' H' _ (le.trans (le2.trans le')) S' (rp.mono le')⟩
theorem ac3 {K : Fg} (hno : ∀ i, nm.fld i ≠ m) : ∀ {fs : List (Nat × Dv)} {l : List (Str × V)}, PairsR K ι H (fun k k' => k' = nm.fld k) fs l -> l.lookup m = none
 | _, _, .nil => rfl
 | _, _, .cons (k := kk) (k' := kk') hk h t => by
  subst hk
  rw [List.lookup_cons]
  have z : (m == nm.fld kk) = false := by
   cases z : m == nm.fld kk with
   | false => rfl
   | true => exact absurd (eq_of_beq z).symm (hno kk)
  rw [z]
  exact ac3 hno t
theorem atl {mi ci : Nat} {cl : MW.Cl} {pl : Sem Bool} (ho : PE X o (tE nm W X.K o')) (c0 : Cls X.K C) (hme : Meth X.K C m fa) (F : FnOk X.prog X.w X.K X.mg X.base CX0 k fa fd ps (spF nm W X.K (n + 1) f)) (hr : Room k X.A) (hb : Binds X.K fd ps [])
 (huni : ∀ c' cl', W.cls[c']? = some cl' -> ∀ g, cl'.meths.lookup mi = some g -> nm.cls c' = some C /\ g = f) (hno : ∀ i, nm.fld i ≠ m)
 (hlen : Exs.len es' = n) (ha : PA X (a :: es) (tEs nm W X.K es')) (he : starEach (a :: es) X.env = (false, eval a X.env) :: starEach es X.env) (hpl : (backTo pos (starEach es X.env)).any (·.1) = false)
 (ht : eval (.Call (.Attribute o m apos) (a :: es) [] pos) X.env = (do
  let ov <- eval o X.env
  standAt apos.atName
  let (f, first) <- holding [ov] (getMethod ov m pl)
  callWith pos f first (backTo pos (starEach (a :: es) X.env)) (backToKw pos (keywordEach [] X.env)))) :
 PE X (.Call (.Attribute o m apos) (a :: es) [] pos) (tE nm W X.K (.meth o' mi es')) :=
 PE.of (aqr (E := E0) ho c0 hme F hr hb .nil agb ha he hpl ht) fun σ H Q ι ρ M d M' S R e q => by
  rw [MW.km] at e
  obtain ⟨x, M1, e1, e⟩ := aa e
  obtain ⟨ds, M2, e2, e⟩ := aa e
  refine one S R e1 fun ι1 H1 v le S1 R1 r => ?_
  obtain ⟨j, hx⟩ : ∃ j, x = .ref j := by cases x <;> first | exact ⟨_, rfl⟩ | cases e
  subst hx
  obtain ⟨p, rfl, hp⟩ : ∃ p, v = .ref p /\ ι1.l[j]? = some p := by cases r with | ref z => exact ⟨_, rfl, z⟩
  have e : (match M1[j]? with
   | some (.ins c _) => (match (W.cls[c]?).bind fun C => C.meths.lookup mi with
    | some f => W.call f (.ref j :: ds) M2
    | none => .bad)
   | _ => .bad) = Res.ok d M' := e
  cases hM : M1[j]? with
  | none => rw [hM] at e; cases e
  | some ob =>
   rw [hM] at e
   cases ob with
   | ins ci fs =>
    have e : (match (W.cls[ci]?).bind fun C => C.meths.lookup mi with | some f => W.call f (.ref j :: ds) M2 | none => .bad) = Res.ok d M' := e
    cases hL : (W.cls[ci]?).bind fun C => C.meths.lookup mi with
    | none => rw [hL] at e; cases e
    | some g =>
     rw [hL] at e
     have e : W.call g (.ref j :: ds) M2 = .ok d M' := e
     obtain ⟨cl', h1, h2⟩ := Option.bind_eq_some_iff.mp hL
     obtain ⟨h3, rfl⟩ := huni ci cl' h1 g h2
     obtain ⟨C', dx, l, g1, g2, g3⟩ := S1.obj j _ p hM hp
     rw [h3] at g1
     cases g1
     have hnone : l.lookup m = none := ac3 hno g3
     refine ⟨p, dx, l, rfl, g2, hnone, yx S1 R1 e2 fun ι2 H2 vs le2 S2 R2 r2 => ?_⟩
     rw [List.append_nil]
     exact ⟨ι2, M2, .ref j :: ds, d, M', S2, .cons (r.mono le2) r2, by rw [List.length_cons, kh e2, hlen], e, fun ι' H' v le' S' r' => q ι' H' v ((le.trans le2).trans le') S' r'⟩
   | _ => cases e
end
section
variable {nm : Nm} {W : Wld} {X : Cx} {a b c o : Expr} {a' b' c' o' : Ex} {pos pos' apos : Pos} {ι : Io} {H : Hp} {σ : St} {ρ : En} {M M1 M2 : Store} {x y : Dv} {es : List Expr} {es' : Exs}
theorem at6 : PE X (.Dict [] [] pos) (tE nm W X.K .dicT) := PE.of ao2 fun σ H Q ι ρ M d M' S R e q => by
 rw [MW.aop] at e
 cases e
 intro p hp
 obtain ⟨S2, le2⟩ := S.new (o := .dT []) (H' := upd H p (.dT [])) hp (fun a u e => by rw [au (bc e hp)]; exact e) fun _ => ⟨[], cg, .nil⟩
 exact q _ _ _ le2 S2 (.ref (by show (ι.l ++ [p])[M.length]? = some p; rw [<- S.len]; simp))
theorem au1 : PE X (.Dict [] [] pos) (tE nm W X.K .dicK) := PE.of am3 fun σ H Q ι ρ M d M' S R e q => by
 rw [MW.apc] at e
 cases e
 intro p hp
 obtain ⟨S2, le2⟩ := S.new (o := .dK []) (H' := upd H p (.dK [])) hp (fun a u e => by rw [au (bc e hp)]; exact e) fun _ => ⟨[], cg, .nil⟩
 exact q _ _ _ le2 S2 (.ref (by show (ι.l ++ [p])[M.length]? = some p; rw [<- S.len]; simp))
def a0o (nm : Nm) (K : Fg) : ajx := fun o i v H Q => ∃ ι M x y d M', SimM nm K ι H M /\ Rep K ι H x o /\ Rep K ι H y i /\ Rep K ι H d v /\ MW.setOp x y d M = some M' /\ ∀ H', Le ι H ι H' -> SimM nm K ι H' M' -> Q H'
theorem ada {n : Nat} (h : n < 100000) : n < sizeLine := Nat.lt_of_lt_of_le h aam
theorem aqt (hu : X.A.units + 1 < cLine) : aoq X (a0o nm X.K) := by
 intro pins s σ H o i v ov iv u Q I ro ri rv hh
 obtain ⟨ι, M, x, y, d, M', S, rx, ry, rd, e, q⟩ := hh
 obtain ⟨j, hx⟩ : ∃ j, x = .ref j := by cases x <;> first | exact ⟨_, rfl⟩ | cases e
 subst hx
 obtain ⟨p, rfl, hp⟩ : ∃ p, o = .ref p /\ ι.l[j]? = some p := by cases rx with | ref z => exact ⟨_, rfl, z⟩
 simp only [MW.setOp] at e
 split at e
 . rename_i xs hM
   split at e
   . rename_i k
     obtain ⟨qq, e1, e2⟩ := Option.map_eq_some_iff.mp e
     subst e2
     cases ry
     obtain ⟨vs, h1, h2⟩ := S.obj j _ p hM hp
     refine set_list pins s σ H _ _ v ov iv u Q I ro ri rv ⟨p, vs, k, qq, rfl, rfl, h1, by rw [<- h2.length]; exact e1, ?_⟩
     obtain ⟨S2, le2⟩ := S.put (u := .lst (vs.set qq v)) (o := .lst (xs.set qq d)) hM hp fun le => ⟨_, cg, (h2.mono le).set (rd.mono le) qq⟩
     exact q _ le2 S2
   . cases e
 . rename_i kvs hM
   obtain ⟨k, e1, e⟩ := Option.bind_eq_some_iff.mp e
   split at e <;> cases e
   rename_i hl
   obtain ⟨l, h1, h2⟩ := S.obj j _ p hM hp
   obtain ⟨b, rfl, hb⟩ := abp ry e1
   cases ro
   refine af1 (H' := upd H p (.dT (putK l k v))) (y := .ref b) (v := v) hu I (DPut.t h1 hb (by rw [<- h2.length]; exact ada hl)) ri rv fun s' I' => ⟨_, I', ?_⟩
   obtain ⟨S2, le2⟩ := S.put (u := .dT (putK l k v)) (o := .dT (MW.jq kvs k d)) hM hp fun le => ⟨_, cg, (h2.mono le).put (rd.mono le)⟩
   exact q _ le2 S2
 . rename_i kvs hM
   obtain ⟨k, e1, e⟩ := Option.bind_eq_some_iff.mp e
   split at e <;> cases e
   rename_i hl
   obtain ⟨l, h1, h2⟩ := S.obj j _ p hM hp
   have hy := ab1 ry e1
   subst hy
   cases ro
   refine af1 (H' := upd H p (.dK (putK l k v))) (y := kV k) (v := v) hu I (DPut.k h1 (by rw [<- h2.length]; exact ada hl)) ri rv fun s' I' => ⟨_, I', ?_⟩
   obtain ⟨S2, le2⟩ := S.put (u := .dK (putK l k v)) (o := .dK (MW.jq kvs k d)) hM hp fun le => ⟨_, cg, (h2.mono le).put (rd.mono le)⟩
   exact q _ le2 S2
 . cases e
theorem aav {e : Expr} (h : o9 e = true) (t : Expr) (l : Nat) (env : Env) : swapsWithSole [t] e l env = pure false := by
 unfold swapsWithSole
 exact zf h _ _ _
theorem ana (hu : X.A.units + 1 < cLine) (he : PE X a (tE nm W X.K a')) (ho : PE X o (tE nm W X.K o')) (hi : PE X b (tE nm W X.K b')) (hpl : o9 a = true)
 (ha : ∀ v, assign (.Subscript o b pos') X.env v = (do
  let ov <- holding [v] (eval o X.env)
  let iv <- holding [v, ov] (eval b X.env)
  standAt pos'
  holding [v, ov, iv] (setItem ov iv v)
  release [v, ov, iv] [])) : PS X (.Assign [.Subscript o b pos'] a pos) (tS nm W X.K (.asg (.sub o' b') a')) :=
 PS.of (ak7 he (atw ho hi (aqt (nm := nm) hu) ha) (aav hpl _ _ _) (by rfl) (by rfl)) fun D σ H ι ρ M fl ρ' M' S R e q => by
  rw [MW.ad1] at e
  obtain ⟨x, M1, e1, e⟩ := aa e
  obtain ⟨ρ2, M2, e2, e⟩ := aa e
  cases e
  rw [MW.asj] at e2
  obtain ⟨y, M3, e3, e2⟩ := aa e2
  obtain ⟨z, M4, e4, e2⟩ := aa e2
  obtain ⟨M5, M6, e5, e6⟩ := aa e2
  obtain ⟨e7, e8⟩ := fu e5
  subst e8
  cases e6
  refine one S R e1 fun ι1 H1 v le S1 R1 r => ?_
  refine one S1 R1 e3 fun ι2 H2 v2 le2 S2 R2 r2 => one S2 R2 e4 fun ι3 H3 v3 le3 S3 R3 r3 => ?_
  exact ⟨ι3, _, y, z, x, _, S3, r2.mono le3, r3, (r.mono le2).mono le3, e7, fun H' le' S' => q ι3 H' σ (((le.trans le2).trans le3).trans le') S' (R3.mono le')⟩
theorem aon {f : Nat} {n : Str} (hn : n = nm.fld f) (hcl : ∀ c C, nm.cls c = some C -> Cls X.K C /\ NoAttr X.K C n) (he : PE X a (tE nm W X.K a')) (ho : PE X o (tE nm W X.K o')) (hpl : o9 a = true) :
 PS X (.Assign [.Attribute o n pos'] a pos) (tS nm W X.K (.asg (.fld o' f) a')) :=
 PS.of (aud ho he (zf hpl _ _ _)) fun D σ H ι ρ M fl ρ' M' S R e q => by
  rw [MW.ad1] at e
  obtain ⟨x, M1, e1, e⟩ := aa e
  obtain ⟨ρ2, M2, e2, e⟩ := aa e
  cases e
  rw [MW.ata] at e2
  obtain ⟨y, M3, e3, e2⟩ := aa e2
  obtain ⟨M5, M6, e5, e6⟩ := aa e2
  obtain ⟨e7, e8⟩ := fu e5
  subst e8
  cases e6
  refine one S R e1 fun ι1 H1 v le S1 R1 r => one S1 R1 e3 fun ι2 H2 v2 le2 S2 R2 r2 => ?_
  obtain ⟨j, hx⟩ : ∃ j, y = .ref j := by cases y <;> first | exact ⟨_, rfl⟩ | cases e7
  subst hx
  obtain ⟨p, rfl, hp⟩ : ∃ p, v2 = .ref p /\ ι2.l[j]? = some p := by cases r2 with | ref z => exact ⟨_, rfl, z⟩
  simp only [MW.ux] at e7
  split at e7
  . rename_i c fs hM
    have hl : fs.length < 1000 := by
     by_cases z : fs.length < 1000
     . exact z
     . rw [if_neg z] at e7; cases e7
    rw [if_pos hl] at e7
    cases e7
    obtain ⟨C, dx, l, h1, h2, h3⟩ := S2.obj j _ p hM hp
    subst hn
    obtain ⟨g1, g2⟩ := hcl c C h1
    refine ⟨p, C, dx, l, rfl, h2, g1, g2, by rw [<- h3.length]; exact hl, ?_⟩
    obtain ⟨S3, le3⟩ := S2.put (u := .ins C dx (putF (nm.fld f) v l)) (o := .ins c (MW.yq f x fs)) hM hp fun le' => ⟨C, dx, _, h1, cg, (h3.mono le').putF ((r.mono le2).mono le')⟩
    exact q ι2 _ σ ((le.trans le2).trans le3) S3 (R2.mono le3)
  . cases e7
theorem CallR.weak {f : Value} {r r' : List V -> Hp -> VK -> Prop} (h : CallR X f r) (w : ∀ xs H Q, r' xs H Q -> r xs H Q) : CallR X f r' := fun pins s σ H xs us Q I rs q => h pins s σ H xs us Q I rs (w xs H Q q)
def rB (nm : Nm) (K : Fg) (b : Blt) : List V -> Hp -> VK -> Prop := fun vs H Q => ∃ ι M ds d M', SimM nm K ι H M /\ RepL K ι H ds vs /\ MW.bx b ds M = .ok d M' /\ ∀ ι' H' v, Le ι H ι' H' -> SimM nm K ι' H' M' -> Rep K ι' H' d v -> Q v H'
theorem CallR.of {f : Value} {bb : Blt} {r : List V -> Hp -> VK -> Prop} (h : CallR X f r) (w : ∀ vs H Q ι M ds d M', SimM nm X.K ι H M -> RepL X.K ι H ds vs -> MW.bx bb ds M = .ok d M' -> (∀ ι' H' v, Le ι H ι' H' -> SimM nm X.K ι' H' M' -> Rep X.K ι' H' d v -> Q v H') -> r vs H Q) : CallR X f (rB nm X.K bb) :=
 CallR.weak h fun vs H Q ⟨ι, M, ds, d, M', S, r, e, q⟩ => w vs H Q ι M ds d M' S r e q
theorem agp {t : Blt} : ∀ σ H Q, tE nm W X.K (.blt t es') σ H Q -> tCB (rB nm X.K t) (tEs nm W X.K es') σ H Q := fun σ H Q hh => by
 obtain ⟨ι, ρ, M, d, M', S, R, e, q⟩ := hh
 rw [MW.aiq] at e
 obtain ⟨ds, M1, e1, e⟩ := aa e
 exact yx S R e1 fun ι1 H1 vs le S1 R1 r => ⟨ι1, M1, ds, d, M', S1, r, e, fun ι' H' v le' S' r' => q ι' H' v (le.trans le') S' r'⟩
theorem akh {t : Blt} {x : Str} {id : String} {p : Pos} (hc : CallR X (.builtin id) (rB nm X.K t)) (hg : Gl X x) (hm : X.mg x = none) (hv : bootBuiltins x = some (.builtin id)) (ha : PA X (a :: es) (tEs nm W X.K es')) (hn : x ≠ "__name__") (hdb : (x == ("__debug__" : Str)) = false)
 (he : starEach (a :: es) X.env = (false, eval a X.env) :: starEach es X.env) (hpl : (backTo pos (starEach es X.env)).any (·.1) = false) : PE X (.Call (.Name x p) (a :: es) [] pos) (tE nm W X.K (.blt t es')) := PE.weak (anf hc hg hm hv ha hn hdb he hpl) agp
theorem ahz {t : Blt} {x : Str} {T : String} {p : Pos} (hc : CallR X (.type T) (rB nm X.K t)) (hg : Gl X x) (hm : X.mg x = none) (hv : bootBuiltins x = some (.type T)) (ha : PA X (a :: es) (tEs nm W X.K es')) (hn : x ≠ "__name__") (hdb : (x == ("__debug__" : Str)) = false)
 (he : starEach (a :: es) X.env = (false, eval a X.env) :: starEach es X.env) (hpl : (backTo pos (starEach es X.env)).any (·.1) = false) : PE X (.Call (.Name x p) (a :: es) [] pos) (tE nm W X.K (.blt t es')) := PE.weak (al9 hc hg hm hv ha hn hdb he hpl) agp
theorem aac {ds : List Dv} {vs : List V} {K : Fg} (r : RepL K ι H ds vs) {d : Dv} (h : ds = [d]) : ∃ v, vs = [v] /\ Rep K ι H d v := by
 subst h
 cases r with | cons h t => cases t; exact ⟨_, rfl, h⟩
theorem aq3 : CallR X (.type "tuple") (rB nm X.K .tuple) := CallR.of af7 fun vs H Q ι M ds d M' S r e q => by
 cases r with
 | nil => simp [MW.bx] at e
 | @cons x v _ _ h t =>
  cases t with
  | cons h2 t2 => simp [MW.bx] at e
  | nil =>
   have e : Res.ofOpt ((MW.cu M x).map MW.D.tup) M = .ok d M' := e
   obtain ⟨e1, e2⟩ := fu e
   subst e2
   obtain ⟨xs, e3, rfl⟩ := Option.map_eq_some_iff.mp e1
   obtain ⟨p, us, rfl, hp, ru⟩ := m5 S h e3
   rcases hp with hp | hp
   . refine ⟨p, us, rfl, .inl ⟨SqL.of hp, fun l hl => ?_⟩⟩
     obtain ⟨S2, le2, r2⟩ := uy S hl ru
     exact q ι _ _ le2 S2 r2
   . exact ⟨p, us, rfl, .inr ⟨SqT.of hp, q ι H _ (Le.refl _ _) S (.tup hp ru)⟩⟩
theorem avd : CallR X (.type "list") (rB nm X.K .list) := CallR.of ag0 fun vs H Q ι M ds d M' S r e q => by
 cases r with
 | nil => simp [MW.bx] at e
 | @cons x v _ _ h t =>
  cases t with
  | cons h2 t2 => simp [MW.bx] at e
  | nil =>
   have e : (match MW.cu M x with | some ds => MW.new (.lst ds) M | none => .bad) = Res.ok d M' := e
   cases e3 : MW.cu M x with
   | none => rw [e3] at e; cases e
   | some xs =>
    rw [e3] at e
    cases e
    obtain ⟨p, us, rfl, hp, ru⟩ := m5 S h e3
    refine ⟨p, us, rfl, hp.imp SqL.of SqT.of, fun l hl => ?_⟩
    obtain ⟨S2, le2, r2⟩ := ae7 S hl ru
    exact q _ _ _ le2 S2 r2
theorem aya : CallR X (.builtin "len") (rB nm X.K .len) := CallR.of aht fun vs H Q ι M ds d M' S r e q => by
 cases r with
 | nil => simp [MW.bx] at e
 | @cons x v _ _ h t =>
  cases t with
  | cons h2 t2 => simp [MW.bx] at e
  | nil =>
   have fin : ∀ xs, (MW.cu M x = some xs) -> d = .int xs.length -> M' = M -> ∃ p ys, [v] = [V.ref p] /\ (SqL X.K H p ys \/ SqT X.K H p ys) /\ Q (.int ys.length) H := fun xs e3 e1 e2 => by
    subst e1 e2
    obtain ⟨p, us, rfl, hp, ru⟩ := m5 S h e3
    exact ⟨p, us, rfl, hp.imp SqL.of SqT.of, by rw [<- ru.length]; exact q ι H _ (Le.refl _ _) S (.int _)⟩
   cases h with
   | fz e1 r1 =>
    cases e
    exact ⟨_, _, rfl, .inl e1.sq, by rw [<- r1.length]; exact q ι H _ (Le.refl _ _) S (.int _)⟩
   | @ref n p e1 =>
    have e : (match M[n]? with | some (.lst ds) => Res.ok (MW.D.int ds.length) M | _ => .bad) = Res.ok d M' := e
    split at e
    . rename_i ds hM
      cases e
      exact fin ds (by simp [MW.cu, MW.asList, hM]) rfl rfl
    . cases e
   | tup e1 r1 => cases e; exact fin _ rfl rfl rfl
   | vl e1 n1 r1 => cases e; exact fin _ rfl rfl rfl
   | _ => cases e
end
open MW
variable {M : Store}
theorem gf {k n : Nat} {a : D} (h : ∀ n, a ≠ .ref n) (h2 : ∀ ds, a ≠ .vl ds) : MW.eqD M (k+1) a (.ref n) = none := by
 have ha : MW.asList M a = none := by cases a <;> first | rfl | exact absurd rfl (h _) | exact absurd rfl (h2 _)
 cases a <;> first | exact absurd rfl (h _) | exact absurd rfl (h2 _) | (unfold MW.eqD; dsimp only; rw [ha]; cases MW.asList M (.ref n) <;> rfl)
theorem mz {k n : Nat} {a : D} (h : ∀ n, a ≠ .ref n) (h2 : ∀ ds, a ≠ .vl ds) : MW.eqD M (k+1) (.ref n) a = none := by
 have ha : MW.asList M a = none := by cases a <;> first | rfl | exact absurd rfl (h _) | exact absurd rfl (h2 _)
 cases a <;> first | exact absurd rfl (h _) | exact absurd rfl (h2 _) | (unfold MW.eqD; dsimp only; rw [ha]; cases MW.asList M (.ref n) <;> rfl)
theorem jd (k i j : Nat) : MW.eqD M (k+1) (.ref i) (.ref j) = match asList M (.ref i), asList M (.ref j) with
 | some as, some bs => if as.length = bs.length then eqL (eqD M k) as bs else some false
 | none, none => aaz (eqD M k) M (.ref i) (.ref j)
 | _, _ => none := rfl
theorem adt (k : Nat) (ds : List D) (j : Nat) : MW.eqD M (k+1) (.vl ds) (.ref j) = match asList M (.ref j) with
 | some bs => if ds.length = bs.length then eqL (eqD M k) ds bs else some false
 | none => none := by
 show (match some ds, asList M (.ref j) with
  | some as, some bs => if as.length = bs.length then eqL (eqD M k) as bs else some false
  | none, none => aaz (eqD M k) M (.vl ds) (.ref j)
  | _, _ => none) = _
 cases asList M (.ref j) <;> rfl
theorem pq (k : Nat) (ds : List D) (j : Nat) : MW.eqD M (k+1) (.ref j) (.vl ds) = match asList M (.ref j) with
 | some bs => if bs.length = ds.length then eqL (eqD M k) bs ds else some false
 | none => none := by
 show (match asList M (.ref j), some ds with
  | some as, some bs => if as.length = bs.length then eqL (eqD M k) as bs else some false
  | none, none => aaz (eqD M k) M (.ref j) (.vl ds)
  | _, _ => none) = _
 cases asList M (.ref j) <;> rfl
theorem abw {f : D -> D -> Option Bool} {i j : Nat} {r : Bool} (h : aaz f M (.ref i) (.ref j) = some r) : ∃ ka kb, M[i]? = some (.dT ka) /\ M[j]? = some (.dT kb) /\ yc ka = true /\ yc kb = true /\ ((i = j /\ r = true) \/ (i ≠ j /\ (if ka.length = kb.length then eqK f kb ka else some false) = some r)) := by
 unfold aaz at h
 dsimp only at h
 split at h
 . rename_i ka kb h1 h2
   split at h
   . rename_i hk
     rw [Bool.and_eq_true] at hk
     split at h
     . rename_i e; cases h; exact ⟨ka, kb, h1, h2, hk.1, hk.2, .inl ⟨e, rfl⟩⟩
     . rename_i e; exact ⟨ka, kb, h1, h2, hk.1, hk.2, .inr ⟨e, h⟩⟩
   . cases h
 . cases h
theorem aa6 {a b : D} {r : Bool} (h : dw M a b = some r) : yl M a = false /\ eqD M 6 a b = some r := by
 unfold dw at h
 split at h
 . cases h
 . rename_i hd; exact ⟨by simpa using hd, h⟩
end Sm
namespace STb
open PySem SetTable
def Srt (xs : Array Nat) : Prop := ∀ (i j a b : Nat), xs[i]? = some a -> xs[j]? = some b -> i < j -> a < b
theorem ar5 {xs : Array Nat} {j : Nat} (hs : Srt xs) : ∀ (fuel lo hi : Nat), lo <= hi -> hi <= xs.size -> hi - lo <= fuel ->
 (∀ (i a : Nat), xs[i]? = some a -> i < lo -> a < j) -> (∀ (i a : Nat), xs[i]? = some a -> hi <= i -> j <= a) ->
 below.go xs j fuel lo hi <= xs.size /\ (∀ (i a : Nat), xs[i]? = some a -> i < below.go xs j fuel lo hi -> a < j) /\ (∀ (i a : Nat), xs[i]? = some a -> below.go xs j fuel lo hi <= i -> j <= a) := by
 intro fuel
 induction fuel with
 | zero =>
  intro lo hi h1 h2 h3 h4 h5
  unfold below.go
  have : lo = hi := by omega
  subst this
  exact ⟨h2, h4, h5⟩
 | succ fuel ih =>
  intro lo hi h1 h2 h3 h4 h5
  unfold below.go
  by_cases hlt : lo < hi
  . simp only [if_pos hlt]
    have hm : (lo + hi) / 2 < xs.size := by omega
    have hg : xs[(lo + hi) / 2]? = some xs[(lo + hi) / 2] := by simp [hm]
    have hgd : xs.getD ((lo + hi) / 2) j = xs[(lo + hi) / 2] := by simp [Array.getD, hm]
    rw [hgd]
    by_cases hc : xs[(lo + hi) / 2] < j
    . rw [if_pos hc]
      refine ih _ _ (by omega) h2 (by omega) (fun i a e l => ?_) h5
      by_cases hi' : i = (lo + hi) / 2
      . subst hi'; rw [hg] at e; cases e; exact hc
      . exact Nat.lt_trans (hs _ _ _ _ e hg (by omega)) hc
    . rw [if_neg hc]
      refine ih _ _ (by omega) (by omega) (by omega) h4 (fun i a e l => ?_)
      by_cases hi' : i = (lo + hi) / 2
      . subst hi'; rw [hg] at e; cases e; omega
      . have := hs _ _ _ _ hg e (by omega); omega
  . rw [if_neg hlt]
    have : lo = hi := by omega
    subst this
    exact ⟨h2, h4, h5⟩
theorem uq {xs : Array Nat} {j : Nat} (hs : Srt xs) : below xs j <= xs.size /\ (∀ (i a : Nat), xs[i]? = some a -> i < below xs j -> a < j) /\ (∀ (i a : Nat), xs[i]? = some a -> below xs j <= i -> j <= a) :=
 ar5 hs _ _ _ (Nat.zero_le _) (Nat.le_refl _) (by omega) (fun i a _ h => absurd h (Nat.not_lt_zero _)) (fun i a e h => by
  have := (Array.getElem?_eq_some_iff.mp e).1; omega)
theorem below_at {xs : Array Nat} {i j : Nat} (hs : Srt xs) (h : xs[i]? = some j) : below xs j = i := by
 obtain ⟨h1, h2, h3⟩ := uq (j := j) hs
 rcases Nat.lt_trichotomy (below xs j) i with l | l | l
 . have li := (Array.getElem?_eq_some_iff.mp h).1
   have hg : xs[below xs j]? = some xs[below xs j] := by simp
   have a := h3 _ _ hg (Nat.le_refl _)
   have b := hs _ _ _ _ hg h l
   omega
 . exact l
 . have := h2 _ _ h l; omega
theorem afo (j : Nat) : has #[] j = false := by simp [has]
theorem abi {t : SetTable} {i j : Nat} (hs : Srt t.place) : t.slot j = .live i ↔ t.place[i]? = some j := by
 unfold slot
 constructor
 . intro h
   dsimp only at h
   split at h
   . rename_i e; cases h; simpa using e
   . split at h <;> cases h
 . intro h
   dsimp only
   rw [below_at hs h, h]
   simp
theorem akk {t : SetTable} {j : Nat} (hs : Srt t.place) (hd : t.dummies = #[]) : t.slot j = .empty ↔ ∀ i : Nat, t.place[i]? ≠ some j := by
 constructor
 . intro h i e
   rw [(abi hs).mpr e] at h; cases h
 . intro h
   unfold slot
   dsimp only
   rw [hd, afo, if_neg (by simpa using h _)]
   rfl
theorem qu {α : Type} (xs : Array α) (p : Nat) (x : α) (hp : p <= xs.size) (i : Nat) : (insertAt xs p x)[i]? = if i < p then xs[i]? else if i = p then some x else xs[i - 1]? := by
 rw [<- Array.getElem?_toList, toList_insertAt]
 have hl : (xs.toList.take p).length = p := by simp; omega
 by_cases h1 : i < p
 . rw [if_pos h1, List.getElem?_append_left (by omega), List.getElem?_take, if_pos h1, Array.getElem?_toList]
 . rw [if_neg h1, List.getElem?_append_right (by omega), hl]
   by_cases h2 : i = p
   . subst h2; simp
   . rw [if_neg h2]
     obtain ⟨q, hq⟩ : ∃ q, i = p + q + 1 := ⟨i - p - 1, by omega⟩
     subst hq
     rw [show p + q + 1 - p = q + 1 by omega, List.getElem?_cons_succ, List.getElem?_drop, show p + q + 1 - 1 = p + q by omega, Array.getElem?_toList]
theorem aat {α : Type} (xs : Array α) (p : Nat) (x : α) : (insertAt xs p x).size = xs.size + 1 := by
 have := (insertAt_perm xs p x).length_eq
 simpa using this
def up (p i : Nat) : Nat := if i < p then i else i + 1
theorem v4 {α : Type} (xs : Array α) (p : Nat) (x : α) (hp : p <= xs.size) (i : Nat) : (insertAt xs p x)[up p i]? = xs[i]? := by
 rw [qu xs p x hp]
 unfold up
 by_cases h : i < p
 . simp [h]
 . rw [if_neg h, if_neg (by omega), if_neg (by omega)]; rfl
theorem qd {α : Type} (xs : Array α) (p : Nat) (x : α) (hp : p <= xs.size) : (insertAt xs p x)[p]? = some x := by
 rw [qu xs p x hp]; simp
theorem yh (p i : Nat) : i = p \/ ∃ k, i = up p k := by
 unfold up
 rcases Nat.lt_trichotomy i p with h | h | h
 . exact .inr ⟨i, by simp [h]⟩
 . exact .inl h
 . exact .inr ⟨i - 1, by rw [if_neg (by omega)]; omega⟩
theorem arz {xs : Array Nat} {j : Nat} (hs : Srt xs) (hn : ∀ i : Nat, xs[i]? ≠ some j) : Srt (insertAt xs (below xs j) j) := by
 obtain ⟨h1, h2, h3⟩ := uq (j := j) hs
 intro a b x y ea eb l
 rcases yh (below xs j) a with rfl | ⟨a', rfl⟩ <;> rcases yh (below xs j) b with hb | ⟨b', rfl⟩
 . subst hb; omega
 . rw [qd _ _ _ h1] at ea
   rw [v4 _ _ _ h1] at eb
   cases ea
   have : below xs j <= b' := by unfold up at l; split at l <;> omega
   have g := h3 _ _ eb this
   rcases Nat.lt_or_eq_of_le g with g | g
   . exact g
   . subst g; exact absurd eb (hn _)
 . subst hb
   rw [qd _ _ _ h1] at eb
   rw [v4 _ _ _ h1] at ea
   cases eb
   exact h2 _ _ ea (by unfold up at l; split at l <;> omega)
 . rw [v4 _ _ _ h1] at ea eb
   exact hs _ _ _ _ ea eb (by unfold up at l; split at l <;> split at l <;> omega)
def adv (m : Nat) (p : Probe) : Probe := ({ SetTable.fresh 0 0 true with mask := m } : SetTable).advance p
theorem au0 (t : SetTable) (p : Probe) : t.advance p = adv t.mask p := rfl
theorem aeq {m : Nat} {p : Probe} (h : p.more > 0) : adv m p = { p with j := p.j + 1, more := p.more - 1 } := if_pos h
theorem ac8 {m : Nat} {p : Probe} (h : ¬ p.more > 0) : adv m p = { p with j := (leap m p.i p.perturb).1, more := runEnd m (leap m p.i p.perturb).1 - (leap m p.i p.perturb).1, i := (leap m p.i p.perturb).1, perturb := (leap m p.i p.perturb).2 } := if_neg h
def beg (m i pt : Nat) : Probe := { j := i, more := runEnd m i - i, i := i, perturb := pt, dummy := none }
def P (m : Nat) (h : Int) : Nat -> Probe
 | 0 => beg m (bits h % (m + 1)) (bits h)
 | n + 1 => adv m (P m h n)
theorem am9 (t : SetTable) (h : Int) : t.probeStart h = P t.mask h 0 := rfl
theorem aet (m : Nat) (h : Int) : ∀ n, (P m h n).dummy = none
 | 0 => rfl
 | n + 1 => by
  show (adv m (P m h n)).dummy = none
  by_cases q : (P m h n).more > 0
  . rw [aeq q]; exact aet m h n
  . rw [ac8 q]; exact aet m h n
def I (m : Nat) (h : Int) : Nat -> Nat
 | 0 => bits h % (m + 1)
 | T + 1 => (I m h T * 5 + 1 + bits h / 32 ^ (T + 1)) % (m + 1)
theorem aro (m i : Nat) : runEnd m i - i <= 9 := by unfold runEnd; split <;> omega
theorem ad4 {m : Nat} {h : Int} {n i pt : Nat} (e : P m h n = beg m i pt) : ∀ c, c <= runEnd m i - i -> P m h (n + c) = { j := i + c, more := runEnd m i - i - c, i := i, perturb := pt, dummy := none }
 | 0, _ => by rw [Nat.add_zero, e]; rfl
 | c + 1, hc => by
  have := ad4 e c (by omega)
  show adv m (P m h (n + c)) = _
  rw [this, aeq (by show 0 < runEnd m i - i - c; omega)]
  simp only
  congr 1
theorem amv {m : Nat} {h : Int} {n i pt : Nat} (e : P m h n = beg m i pt) : P m h (n + (runEnd m i - i) + 1) = beg m ((i * 5 + 1 + pt / 32) % (m + 1)) (pt / 32) := by
 show adv m (P m h (n + (runEnd m i - i))) = _
 rw [ad4 e _ (Nat.le_refl _), ac8 (by simp)]
 rfl
theorem ak4 (m : Nat) (h : Int) : ∀ T, ∃ n, n <= 10 * T /\ P m h n = beg m (I m h T) (bits h / 32 ^ T)
 | 0 => ⟨0, by omega, by simp [P, I]⟩
 | T + 1 => by
  obtain ⟨n, h1, h2⟩ := ak4 m h T
  have := aro m (I m h T)
  refine ⟨_, ?_, (amv h2).trans ?_⟩
  . omega
  . rw [Nat.div_div_eq_div_mul, <- Nat.pow_succ]; rfl
def f5 (m x : Nat) : Nat := (x * 5 + 1) % (m + 1)
def it (m : Nat) : Nat -> Nat -> Nat
 | 0, x => x
 | k + 1, x => f5 m (it m k x)
theorem abj (m a x : Nat) : ∀ k, it m (a + k) x = it m k (it m a x)
 | 0 => rfl
 | k + 1 => by show f5 m (it m (a + k) x) = _; rw [abj m a x k]; rfl
def Cov (m : Nat) : Prop := ∀ i j, i <= m -> j <= m -> ∃ k, k <= m /\ it m k i = j
theorem awp {m : Nat} (h0 : it m (m + 1) 0 = 0) (h : ∀ j, j <= m -> ∃ k, k <= m /\ it m k 0 = j) : Cov m := fun i j hi hj => by
 obtain ⟨a, la, ea⟩ := h i hi
 obtain ⟨b, lb, eb⟩ := h j hj
 by_cases hab : a <= b
 . refine ⟨b - a, by omega, ?_⟩
   rw [<- ea, <- abj, show a + (b - a) = b by omega, eb]
 . refine ⟨m + 1 + b - a, by omega, ?_⟩
   rw [<- ea, <- abj, show a + (m + 1 + b - a) = (m + 1) + b by omega, abj, h0, eb]
def orb (m : Nat) : Nat -> Nat -> List Nat
 | 0, _ => []
 | k + 1, x => x :: orb m k (f5 m x)
theorem ajg {m : Nat} : ∀ {k x j : Nat}, j ∈ orb m k x -> ∃ q, q < k /\ it m q x = j
 | 0, _, _, h => by simp [orb] at h
 | k + 1, x, j, h => by
  simp only [orb, List.mem_cons] at h
  rcases h with rfl | h
  . exact ⟨0, by omega, rfl⟩
  . obtain ⟨q, l, e⟩ := ajg h
    refine ⟨1 + q, by omega, ?_⟩
    rw [abj]; exact e
theorem zp {m : Nat} (h0 : it m (m + 1) 0 = 0) (h : ((List.range (m + 1)).all fun j => (orb m (m + 1) 0).contains j) = true) : Cov m :=
 awp h0 fun j hj => by
  have := List.all_eq_true.mp h j (by simp; omega)
  obtain ⟨q, l, e⟩ := ajg (by simpa using this)
  exact ⟨q, by omega, e⟩
def Msk (m : Nat) : Prop := m = 7 \/ m = 15 \/ m = 31 \/ m = 63 \/ m = 127
theorem azy : Cov 7 := zp (by decide +kernel) (by decide +kernel)
theorem aw7 : Cov 15 := zp (by decide +kernel) (by decide +kernel)
theorem ayl : Cov 31 := zp (by decide +kernel) (by decide +kernel)
theorem ayu : Cov 63 := zp (by decide +kernel) (by decide +kernel)
theorem awu : Cov 127 := zp (by decide +kernel) (by decide +kernel)
theorem Msk.cov {m : Nat} (h : Msk m) : Cov m := by
 rcases h with rfl | rfl | rfl | rfl | rfl
 . exact azy
 . exact aw7
 . exact ayl
 . exact ayu
 . exact awu
theorem ari (h : Int) : bits h < 2 ^ 64 := by
 unfold bits
 have h1 := Int.emod_nonneg h (b := 2 ^ 64) (by decide)
 have h2 := Int.emod_lt_of_pos h (b := 2 ^ 64) (by decide)
 omega
theorem auu (m : Nat) (h : Int) : ∀ T, I m h T <= m
 | 0 => Nat.le_of_lt_succ (Nat.mod_lt (bits h) (Nat.succ_pos m))
 | T + 1 => Nat.le_of_lt_succ (Nat.mod_lt (I m h T * 5 + 1 + bits h / 32 ^ (T + 1)) (Nat.succ_pos m))
theorem amu (m : Nat) (h : Int) : ∀ k, I m h (13 + k) = it m k (I m h 13)
 | 0 => rfl
 | k + 1 => by
  show (I m h (13 + k) * 5 + 1 + bits h / 32 ^ (13 + k + 1)) % (m + 1) = f5 m (it m k (I m h 13))
  have : bits h / 32 ^ (13 + k + 1) = 0 := by
   apply Nat.div_eq_of_lt
   refine Nat.lt_of_lt_of_le (ari h) ?_
   calc 2 ^ 64 <= 32 ^ 13 := by decide
    _ <= 32 ^ (13 + k + 1) := Nat.pow_le_pow_right (by decide) (by omega)
  rw [this, amu m h k]; rfl
theorem cover {m : Nat} (hm : Msk m) (h : Int) (j : Nat) (hj : j <= m) : ∃ T, T <= 13 + m /\ I m h T = j := by
 obtain ⟨k, lk, e⟩ := hm.cov (I m h 13) j (auu m h 13) hj
 exact ⟨13 + k, by omega, (amu m h k).trans e⟩
theorem asb {m : Nat} (hm : Msk m) (h : Int) (j : Nat) (hj : j <= m) : ∃ n, n < 10 * turns m /\ (P m h n).j = j := by
 obtain ⟨T, lT, e⟩ := cover hm h j hj
 obtain ⟨n, ln, e2⟩ := ak4 m h T
 exact ⟨n, by unfold turns; omega, by rw [e2]; exact e⟩
theorem ak5 (a m : Nat) : a % (m + 1) <= m := Nat.le_of_lt_succ (Nat.mod_lt a (Nat.succ_pos m))
theorem abl {m i : Nat} (h : i <= m) : i <= runEnd m i /\ runEnd m i <= m := by unfold runEnd; split <;> omega
theorem atq (m : Nat) (h : Int) : ∀ n, (P m h n).j + (P m h n).more <= m
 | 0 => by
  have := abl (ak5 (bits h) m)
  show bits h % (m + 1) + (runEnd m (bits h % (m + 1)) - bits h % (m + 1)) <= m
  omega
 | n + 1 => by
  have ih := atq m h n
  show (adv m (P m h n)).j + (adv m (P m h n)).more <= m
  by_cases q : (P m h n).more > 0
  . rw [aeq q]; simp only; omega
  . rw [ac8 q]
    have := abl (ak5 ((P m h n).i * 5 + 1 + (P m h n).perturb / 32) m)
    show (leap m (P m h n).i (P m h n).perturb).1 + (runEnd m (leap m (P m h n).i (P m h n).perturb).1 - (leap m (P m h n).i (P m h n).perturb).1) <= m
    have e : (leap m (P m h n).i (P m h n).perturb).1 = ((P m h n).i * 5 + 1 + (P m h n).perturb / 32) % (m + 1) := rfl
    rw [e]; omega
theorem a0l (m : Nat) (h : Int) (n : Nat) : (P m h n).j <= m := by have := atq m h n; omega
def Occ (t : SetTable) (j : Nat) : Prop := ∃ i : Nat, t.place[i]? = some j
structure TOk (t : SetTable) (es : Array (Int × Value)) : Prop where
 msk : Msk t.mask
 dum : t.dummies = #[]
 siz : t.place.size = es.size
 srt : Srt t.place
 bnd : ∀ (i j : Nat), t.place[i]? = some j -> j <= t.mask
 ful : t.place.size <= t.mask
 rch : ∀ (i j : Nat) e, t.place[i]? = some j -> es[i]? = some e -> ∃ n, (P t.mask e.1 n).j = j /\ ∀ m, m < n -> Occ t (P t.mask e.1 m).j
theorem TOk.fits {t : SetTable} {es : Array (Int × Value)} (k : TOk t es) : t.fits es.size = true := by
 unfold SetTable.fits fill
 rw [k.dum]
 simp [k.siz]
 have := k.ful; have := k.siz; omega
theorem Msk.odd {m : Nat} (h : Msk m) : m % 2 = 1 := by rcases h with rfl | rfl | rfl | rfl | rfl <;> rfl
theorem TOk.way {t : SetTable} {es : Array (Int × Value)} (k : TOk t es) : t.gaveWay = false := by
 unfold gaveWay; rw [k.msk.odd]; rfl
theorem am2 {xs : Array Nat} {m : Nat} (hs : Srt xs) (h : xs.size <= m) : ∃ j, j <= m /\ ∀ i : Nat, xs[i]? ≠ some j := by
 apply Classical.byContradiction
 intro hn
 have all : ∀ j, j <= m -> ∃ i : Nat, xs[i]? = some j := fun j hj => by
  apply Classical.byContradiction
  intro hc
  exact hn ⟨j, hj, fun i e => hc ⟨i, e⟩⟩
 have : ∀ j, j <= m -> ∀ i : Nat, xs[i]? = some j -> j <= i := by
  intro j
  induction j with
  | zero => intro _ i _; omega
  | succ j ih =>
   intro hj i e
   obtain ⟨i', e'⟩ := all j (by omega)
   have := ih (by omega) i' e'
   rcases Nat.lt_trichotomy i i' with l | l | l
   . have := hs _ _ _ _ e e' l; omega
   . subst l; rw [e] at e'; injection e' with e'; omega
   . omega
 obtain ⟨i, e⟩ := all m (Nat.le_refl _)
 have h1 := this m (Nat.le_refl _) i e
 have h2 := (Array.getElem?_eq_some_iff.mp e).1
 omega
structure Fst (t : SetTable) (h : Int) (N : Nat) : Prop where
 lt : N < 10 * turns t.mask
 emp : ¬ Occ t (P t.mask h N).j
 occ : ∀ m, m < N -> Occ t (P t.mask h m).j
theorem least {p : Nat -> Prop} : ∀ {n : Nat}, p n -> ∃ k, k <= n /\ p k /\ ∀ m, m < k -> ¬ p m := by
 intro n
 induction n using Nat.strongRecOn with
 | ind n ih =>
  intro h
  by_cases hc : ∃ m, m < n /\ p m
  . obtain ⟨m, l, hm⟩ := hc
    obtain ⟨k, l2, a, b⟩ := ih m l hm
    exact ⟨k, by omega, a, b⟩
  . exact ⟨n, Nat.le_refl _, h, fun m l hm => hc ⟨m, l, hm⟩⟩
theorem TOk.fst {t : SetTable} {es : Array (Int × Value)} (k : TOk t es) (h : Int) : ∃ N, Fst t h N := by
 obtain ⟨j, hj, e⟩ := am2 k.srt k.ful
 obtain ⟨n, ln, en⟩ := asb k.msk h j hj
 obtain ⟨N, l, a, b⟩ := least (p := fun n => ¬ Occ t (P t.mask h n).j) (n := n) (fun ⟨i, c⟩ => e i (by rw [en] at c; exact c))
 exact ⟨N, by omega, a, fun m hm => Classical.not_not.mp (b m hm)⟩
theorem avm {t : SetTable} {es : Array (Int × Value)} (k : TOk t es) {h : Int} {N : Nat} (F : Fst t h N) (ha : Nat -> Int) : ∀ (fuel n : Nat), n <= N -> N - n < fuel ->
 (probe.go t ha h fuel (P t.mask h n) = some (.empty (P t.mask h N).j none) /\ ∀ m, n <= m -> m < N -> ∀ i : Nat, t.place[i]? = some (P t.mask h m).j -> ha i ≠ h)
 \/ ∃ m i : Nat, n <= m /\ m < N /\ t.place[i]? = some (P t.mask h m).j /\ ha i = h /\ (∀ q, n <= q -> q < m -> ∀ i : Nat, t.place[i]? = some (P t.mask h q).j -> ha i ≠ h)
  /\ probe.go t ha h fuel (P t.mask h n) = some (.candidate (P t.mask h m).j i (P t.mask h (m + 1))) := by
 intro fuel
 induction fuel with
 | zero => intro n _ l; omega
 | succ fuel ih =>
  intro n hn l
  unfold probe.go
  by_cases e : n = N
  . subst e
    left
    rw [(akk k.srt k.dum).mpr (fun i c => F.emp ⟨i, c⟩)]
    simp only
    rw [aet]
    exact ⟨rfl, fun m a b => by omega⟩
  . obtain ⟨i, hi⟩ := F.occ n (by omega)
    rw [(abi k.srt).mpr hi]
    simp only [au0]
    have hnx : adv t.mask (P t.mask h n) = P t.mask h (n + 1) := rfl
    rw [hnx]
    by_cases hh : ha i = h
    . right
      refine ⟨n, i, Nat.le_refl _, by omega, hi, hh, fun q a b => by omega, ?_⟩
      rw [if_pos (by simp [hh])]
    . rw [if_neg (by simp [hh])]
      have un : ∀ i' : Nat, t.place[i']? = some (P t.mask h n).j -> ha i' ≠ h := fun i' e' => by
       have a := below_at k.srt e'
       have b := below_at k.srt hi
       rw [<- a, b]; exact hh
      rcases ih (n + 1) (by omega) (by omega) with ⟨a, b⟩ | ⟨m, i', a, b, c, d, e1, e2⟩
      . left
        refine ⟨a, fun m x y => ?_⟩
        by_cases q : m = n
        . subst q; exact un
        . exact b m (by omega) y
      . right
        refine ⟨m, i', by omega, b, c, d, fun q x y => ?_, e2⟩
        by_cases z : q = n
        . subst z; exact un
        . exact e1 q (by omega) y
theorem TOk.ahead {t : SetTable} {es : Array (Int × Value)} (k : TOk t es) {h : Int} {N : Nat} (F : Fst t h N) {i : Nat} {e : Int × Value} (he : es[i]? = some e) (hh : e.1 = h) : ∃ m, m < N /\ t.place[i]? = some (P t.mask h m).j := by
 have li : i < t.place.size := by rw [k.siz]; exact (Array.getElem?_eq_some_iff.mp he).1
 have hp : t.place[i]? = some t.place[i] := by simp [li]
 obtain ⟨n, a, b⟩ := k.rch i _ e hp he
 subst hh
 refine ⟨n, ?_, by rw [a]; exact hp⟩
 rcases Nat.lt_trichotomy n N with l | l | l
 . exact l
 . subst l; exact absurd ⟨i, by rw [a]; exact hp⟩ F.emp
 . exact absurd (b N l) F.emp
theorem ae1 {t : SetTable} {j : Nat} (hs : Srt t.place) (q : Nat) : Occ (t.put j).1 q ↔ q = j \/ Occ t q := by
 obtain ⟨h1, h2, h3⟩ := uq (j := j) hs
 constructor
 . rintro ⟨i, e⟩
   have e : (insertAt t.place (below t.place j) j)[i]? = some q := e
   rcases yh (below t.place j) i with rfl | ⟨i', rfl⟩
   . rw [qd _ _ _ h1] at e; cases e; exact .inl rfl
   . rw [v4 _ _ _ h1] at e; exact .inr ⟨i', e⟩
 . rintro (rfl | ⟨i, e⟩)
   . exact ⟨_, qd _ _ _ h1⟩
   . exact ⟨up (below t.place j) i, (v4 _ _ _ h1 i).trans e⟩
theorem TOk.put {t : SetTable} {es : Array (Int × Value)} (k : TOk t es) {h : Int} {x : Value} {N : Nat} (F : Fst t h N) (room : t.place.size + 1 <= t.mask) :
 TOk (t.put (P t.mask h N).j).1 (insertAt es (t.put (P t.mask h N).j).2 (h, x)) := by
 obtain ⟨h1, h2, h3⟩ := uq (j := (P t.mask h N).j) k.srt
 have h1' : below t.place (P t.mask h N).j <= es.size := by rw [<- k.siz]; exact h1
 refine ⟨k.msk, ?_, ?_, ?_, ?_, ?_, ?_⟩
 . show (if has t.dummies _ then _ else t.dummies) = #[]
   rw [k.dum, afo]; rfl
 . show (insertAt t.place _ _).size = (insertAt es _ _).size
   rw [aat, aat, k.siz]
 . exact arz k.srt (fun i e => F.emp ⟨i, e⟩)
 . intro i j e
   rcases (ae1 k.srt j).mp ⟨i, e⟩ with rfl | ⟨i', e'⟩
   . exact a0l _ _ _
   . exact k.bnd i' j e'
 . show (insertAt t.place _ _).size <= t.mask
   rw [aat]; exact room
 . intro i j e hp he
   have hp : (insertAt t.place (below t.place (P t.mask h N).j) (P t.mask h N).j)[i]? = some j := hp
   have he : (insertAt es (below t.place (P t.mask h N).j) (h, x))[i]? = some e := he
   show ∃ n, (P t.mask e.1 n).j = j /\ ∀ m, m < n -> Occ (t.put (P t.mask h N).j).1 (P t.mask e.1 m).j
   rcases yh (below t.place (P t.mask h N).j) i with rfl | ⟨i', rfl⟩
   . rw [qd _ _ _ h1] at hp
     rw [qd _ _ _ h1'] at he
     cases hp; cases he
     exact ⟨N, rfl, fun m l => (ae1 k.srt _).mpr (.inr (F.occ m l))⟩
   . rw [v4 _ _ _ h1] at hp
     rw [v4 _ _ _ h1'] at he
     obtain ⟨n, a, b⟩ := k.rch i' j e hp he
     exact ⟨n, a, fun m l => (ae1 k.srt _).mpr (.inr (b m l))⟩
abbrev OcO (ow : Array (Option Nat)) (j : Nat) : Prop := ∃ i, ow[j]? = some (some i)
structure Own (m : Nat) (ow : Array (Option Nat)) (hs : List Int) : Prop where
 siz : ow.size = m + 1
 cnt : ow.toList.countP Option.isSome = hs.length
 lt : ∀ (j i : Nat), ow[j]? = some (some i) -> i < hs.length
 inj : ∀ (j j' i : Nat), ow[j]? = some (some i) -> ow[j']? = some (some i) -> j = j'
 at' : ∀ (i : Nat) h, hs[i]? = some h -> ∃ j n, ow[j]? = some (some i) /\ (P m h n).j = j /\ ∀ q, q < n -> OcO ow (P m h q).j
theorem getD_none {m : Nat} {ow : Array (Option Nat)} (hz : ow.size = m + 1) {j : Nat} (h : (ow.getD j (some 0)).isNone = true) : ow[j]? = some none := by
 by_cases l : j < ow.size
 . simp [Array.getD, l] at h; simp [l, h]
 . simp [Array.getD, l] at h
theorem getD_some {m : Nat} {ow : Array (Option Nat)} (hz : ow.size = m + 1) {j : Nat} (hj : j <= m) (h : ¬ (ow.getD j (some 0)).isNone = true) : OcO ow j := by
 have l : j < ow.size := by omega
 simp [Array.getD, l] at h
 unfold OcO
 rw [show ow[j]? = some ow[j] by simp [l]]
 cases e : ow[j] with
 | none => exact absurd e h
 | some i => exact ⟨i, rfl⟩
theorem amk {m : Nat} {ow : Array (Option Nat)} (hz : ow.size = m + 1) (h : Int) : ∀ (fuel T n : Nat), P m h n = beg m (I m h T) (bits h / 32 ^ T) -> (∀ q, q < n -> OcO ow (P m h q).j) ->
 (∃ k, k < fuel /\ ow[I m h (T + k)]? = some none) -> ∃ j n', layClean.free m ow fuel (I m h T) (bits h / 32 ^ T) = some j /\ (P m h n').j = j /\ ow[j]? = some none /\ ∀ q, q < n' -> OcO ow (P m h q).j := by
 intro fuel
 induction fuel with
 | zero => rintro T n _ _ ⟨k, l, _⟩; omega
 | succ fuel ih =>
  rintro T n e hq ⟨k, lk, ek⟩
  have hI := auu m h T
  obtain ⟨r1, r2⟩ := abl hI
  unfold layClean.free
  cases hf : (List.range (runEnd m (I m h T) + 1 - I m h T)).find? fun k => (ow.getD (I m h T + k) (some 0)).isNone with
  | some c =>
   obtain ⟨a, b, d⟩ := List.find?_range_eq_some.mp hf
   have b := List.mem_range.mp b
   refine ⟨_, n + c, rfl, by rw [ad4 e c (by omega)], getD_none hz a, fun q l => ?_⟩
   by_cases hn : q < n
   . exact hq q hn
   . obtain ⟨c', rfl⟩ : ∃ c', q = n + c' := ⟨q - n, by omega⟩
     rw [ad4 e c' (by omega)]
     show OcO ow (I m h T + c')
     exact getD_some hz (by omega) (fun hh => by
      have := d c' (by omega)
      simp only [hh] at this
      cases this)
  | none =>
   have hall := List.find?_eq_none.mp hf
   have occ : ∀ c, c <= runEnd m (I m h T) - I m h T -> OcO ow (I m h T + c) := fun c hc => getD_some hz (by omega) (hall c (List.mem_range.mpr (by omega)))
   cases k with
   | zero =>
    obtain ⟨i, ei⟩ := occ 0 (by omega)
    rw [Nat.add_zero] at ek ei
    rw [ek] at ei; cases ei
   | succ k =>
    have pe : bits h / 32 ^ T / 32 = bits h / 32 ^ (T + 1) := by rw [Nat.div_div_eq_div_mul, <- Nat.pow_succ]
    have := ih (T + 1) (n + (runEnd m (I m h T) - I m h T) + 1) (by rw [amv e, pe]; rfl) (fun q l => ?_) ⟨k, by omega, by rw [show T + 1 + k = T + (k + 1) by omega]; exact ek⟩
    . obtain ⟨j, n', e1, e2⟩ := this
      refine ⟨j, n', ?_, e2⟩
      rw [<- e1]
      show layClean.free m ow fuel ((I m h T * 5 + 1 + bits h / 32 ^ T / 32) % (m + 1)) (bits h / 32 ^ T / 32) = _
      rw [pe]; rfl
    . by_cases hn : q < n
      . exact hq q hn
      . obtain ⟨c', rfl⟩ : ∃ c', q = n + c' := ⟨q - n, by omega⟩
        rw [ad4 e c' (by omega)]
        show OcO ow (I m h T + c')
        exact occ c' (by omega)
theorem Own.room {m : Nat} {ow : Array (Option Nat)} {hs : List Int} (k : Own m ow hs) (h : hs.length <= m) : ∃ j, j <= m /\ ow[j]? = some none := by
 apply Classical.byContradiction
 intro hn
 have : ow.toList.countP Option.isSome = ow.toList.length := List.countP_eq_length.mpr fun a ha => by
  obtain ⟨j, hj, e⟩ := List.getElem_of_mem ha
  cases a with
  | some i => rfl
  | none =>
   have hj' : j < ow.size := by simpa using hj
   refine absurd ⟨j, by have := k.siz; omega, ?_⟩ hn
   rw [<- Array.getElem?_toList, List.getElem?_eq_getElem hj, e]
 rw [k.cnt] at this
 have := k.siz
 simp at *
 omega
theorem Own.free {m : Nat} {ow : Array (Option Nat)} {hs : List Int} (hm : Msk m) (k : Own m ow hs) (hl : hs.length <= m) (h : Int) : ∃ j n', layClean.free m ow (turns m) (bits h % (m + 1)) (bits h) = some j /\ (P m h n').j = j /\ ow[j]? = some none /\ ∀ q, q < n' -> OcO ow (P m h q).j := by
 obtain ⟨j, hj, e⟩ := k.room hl
 obtain ⟨T, lT, eT⟩ := cover hm h j hj
 have := amk k.siz h (turns m) 0 0 (by simp [P, I]) (fun q l => by omega) ⟨T, by unfold turns; omega, by rw [Nat.zero_add, eT]; exact e⟩
 simpa [I] using this
theorem Own.lay {m : Nat} {ow : Array (Option Nat)} {hs : List Int} (k : Own m ow hs) {h : Int} {j n' : Nat} (e1 : (P m h n').j = j) (e2 : ow[j]? = some none) (e3 : ∀ q, q < n' -> OcO ow (P m h q).j) :
 Own m (ow.setIfInBounds j (some hs.length)) (hs ++ [h]) := by
 have lj : j < ow.size := (Array.getElem?_eq_some_iff.mp e2).1
 have get : ∀ q : Nat, (ow.setIfInBounds j (some hs.length))[q]? = if j = q then some (some hs.length) else ow[q]? := fun q => by
  rw [Array.getElem?_setIfInBounds]; split <;> simp_all
 have occ : ∀ q, OcO ow q -> OcO (ow.setIfInBounds j (some hs.length)) q := fun q ⟨i, e⟩ => by
  refine ⟨i, ?_⟩
  rw [get, if_neg (fun h => by subst h; rw [e2] at e; cases e)]; exact e
 refine ⟨by simp [k.siz], ?_, fun q i e => ?_, fun q q' i e e' => ?_, fun i h' e => ?_⟩
 . rw [Array.toList_setIfInBounds, List.countP_set (by simpa using lj), k.cnt]
   have : ow.toList[j]'(by simpa using lj) = none := by
    have := (Array.getElem?_eq_some_iff.mp e2).2
    simpa using this
   rw [this]; simp
 . rw [get] at e
   split at e
   . cases e; simp
   . have := k.lt q i e; simp; omega
 . rw [get] at e e'
   split at e <;> split at e'
   . omega
   . cases e; have := k.lt _ _ e'; omega
   . cases e'; have := k.lt _ _ e; omega
   . exact k.inj q q' i e e'
 . by_cases l : i < hs.length
   . rw [List.getElem?_append_left l] at e
     obtain ⟨j', n, a, b, c⟩ := k.at' i h' e
     refine ⟨j', n, ?_, b, fun q l => occ _ (c q l)⟩
     rw [get, if_neg (fun h => by subst h; rw [e2] at a; cases a)]; exact a
   . have hi : i = hs.length := by
      have := (List.getElem?_eq_some_iff.mp e).1
      simp at this; omega
     subst hi
     simp at e
     subst e
     exact ⟨j, n', by rw [get, if_pos rfl], e1, fun q l => occ _ (e3 q l)⟩
theorem aiw {m : Nat} (hm : Msk m) : ∀ (rest hs : List Int) (ow : Array (Option Nat)), Own m ow hs -> hs.length + rest.length <= m + 1 ->
 ∃ ow', rest.foldl (fun acc h => do
  let (owner, k) <- acc
  let j <- layClean.free m owner (turns m) (bits h % (m + 1)) (bits h)
  pure (owner.setIfInBounds j (some k), k + 1)) (some (ow, hs.length)) = some (ow', hs.length + rest.length) /\ Own m ow' (hs ++ rest)
 | [], hs, ow, k, _ => ⟨ow, rfl, by simpa using k⟩
 | h :: rest, hs, ow, k, l => by
  obtain ⟨j, n', e0, e1, e2, e3⟩ := k.free hm (by simp at l; omega) h
  have k' := k.lay e1 e2 e3
  obtain ⟨ow', a, b⟩ := aiw hm rest (hs ++ [h]) _ k' (by simp at l ⊢; omega)
  refine ⟨ow', ?_, by simpa using b⟩
  rw [List.foldl_cons]
  have : (do
   let (owner, k) <- some (ow, hs.length)
   let j <- layClean.free m owner (turns m) (bits h % (m + 1)) (bits h)
   pure (owner.setIfInBounds j (some k), k + 1)) = some (ow.setIfInBounds j (some hs.length), (hs ++ [h]).length) := by
   show (layClean.free m ow (turns m) (bits h % (m + 1)) (bits h) >>= _) = _
   rw [e0]
   simp
  rw [this, a]
  simp; omega
theorem ani {m : Nat} (hm : Msk m) (hs : Array Int) (l : hs.size <= m + 1) : ∃ ow, layClean m hs = some ow /\ Own m ow hs.toList := by
 have k0 : Own m (Array.replicate (m + 1) none) [] := ⟨by simp, by simp, fun j i e => by simp [Array.getElem?_replicate] at e, fun j j' i e => by simp [Array.getElem?_replicate] at e, fun i h e => by simp at e⟩
 obtain ⟨ow, a, b⟩ := aiw hm hs.toList [] _ k0 (by simpa using l)
 refine ⟨ow, ?_, by simpa using b⟩
 unfold layClean
 rw [<- Array.foldl_toList]
 exact (congrArg (Option.map (·.1)) a).trans rfl
def lv (m : Nat) (ow : Array (Option Nat)) : List (Nat × Nat) := (List.range (m + 1)).filterMap fun j => (ow.getD j none).map (j, ·)
theorem ww {m : Nat} {ow : Array (Option Nat)} {hs : List Int} (k : Own m ow hs) {j i : Nat} : (j, i) ∈ lv m ow ↔ ow[j]? = some (some i) := by
 unfold lv
 rw [List.mem_filterMap]
 constructor
 . rintro ⟨q, a, b⟩
   obtain ⟨i', e1, e2⟩ := Option.map_eq_some_iff.mp b
   cases e2
   have : j < ow.size := by rw [k.siz]; exact List.mem_range.mp a
   simp [Array.getD, this] at e1
   simp [this, e1]
 . intro e
   have l := (Array.getElem?_eq_some_iff.mp e).1
   refine ⟨j, List.mem_range.mpr (by rw [<- k.siz]; exact l), ?_⟩
   have : ow.getD j none = some i := by simp [Array.getD, l, (Array.getElem?_eq_some_iff.mp e).2]
   rw [this]; rfl
theorem alj (m : Nat) (ow : Array (Option Nat)) : (lv m ow).Pairwise fun a b => a.1 < b.1 := by
 unfold lv
 refine List.Pairwise.filterMap _ (fun a a' hlt b hb b' hb' => ?_) List.pairwise_lt_range
 obtain ⟨_, _, rfl⟩ := Option.map_eq_some_iff.mp hb
 obtain ⟨_, _, rfl⟩ := Option.map_eq_some_iff.mp hb'
 exact hlt
theorem arc {m : Nat} {ow : Array (Option Nat)} {hs : List Int} (k : Own m ow hs) : ((lv m ow).map (·.2)).Perm (List.range hs.length) := by
 refine (List.perm_ext_iff_of_nodup ?_ List.nodup_range).mpr fun i => ?_
 . rw [List.nodup_iff_pairwise_ne, List.pairwise_map]
   refine (alj m ow).imp_of_mem fun {a b} ha hb hlt e => ?_
   have := k.inj a.1 b.1 a.2 ((ww k).mp ha) (by rw [e]; exact (ww k).mp hb)
   omega
 . rw [List.mem_map, List.mem_range]
   constructor
   . rintro ⟨a, ha, rfl⟩; exact k.lt _ _ ((ww k).mp ha)
   . intro l
     obtain ⟨j, n, a, _⟩ := k.at' i _ (List.getElem?_eq_getElem l)
     exact ⟨(j, i), (ww k).mpr a, rfl⟩
theorem al6 {α β : Type} {g : α -> Option β} : ∀ {l : List α}, (∀ x ∈ l, (g x).isSome = true) -> ∀ q : Nat, (l.filterMap g)[q]? = l[q]?.bind g
 | [], _, q => by simp
 | x :: l, h, q => by
  have hx := h x (List.mem_cons_self ..)
  obtain ⟨y, e⟩ := Option.isSome_iff_exists.mp hx
  rw [List.filterMap_cons_some e]
  cases q with
  | zero => simp [e]
  | succ q => simpa using al6 (fun x hx => h x (List.mem_cons_of_mem _ hx)) q
theorem arx {m : Nat} (hm : Msk m) (fg mv : Nat) (ld pl : Bool) (es : Array (Int × Value)) (l : es.size <= m) :
 ∃ t order, laid m fg mv ld pl (es.map (·.1)) = some (t, order) /\ t.mask = m /\ TOk t (order.filterMap (es[·]?)) /\ (order.filterMap (es[·]?)).toList.Perm es.toList /\ (order.filterMap (es[·]?)).size = es.size
  /\ t.led = ld /\ t.plain = pl /\ t.finger = fg := by
 obtain ⟨ow, e, k⟩ := ani hm (es.map (·.1)) (by simp; omega)
 have hperm := arc k
 simp at hperm
 have hlen : (lv m ow).length = es.size := by have := hperm.length_eq; simpa using this
 have hsz : ((((lv m ow).map (·.2)).toArray).filterMap (es[·]?)).size = es.size := by
  have := (hperm.filterMap (es[·]?)).length_eq
  rw [filterMap_getElem?_range] at this
  rw [<- Array.length_toList, Array.toList_filterMap, this]; simp
 refine ⟨{ mask := m, place := ((lv m ow).map (·.1)).toArray, dummies := #[], finger := fg, led := ld, moves := mv, plain := pl }, ((lv m ow).map (·.2)).toArray, ?_, rfl, ?_, ?_, ?_, rfl, rfl, rfl⟩
 . unfold laid; rw [e]; rfl
 . have hsome : ∀ x ∈ (lv m ow).map (·.2), (es[x]?).isSome = true := fun x hx => by
    have := List.mem_range.mp (hperm.mem_iff.mp hx)
    simp; exact this
   have get : ∀ q : Nat, ((((lv m ow).map (·.2)).toArray).filterMap (es[·]?))[q]? = ((lv m ow)[q]?).bind fun a => es[a.2]? := fun q => by
    rw [<- Array.getElem?_toList, Array.toList_filterMap, al6 hsome, List.getElem?_map]
    cases (lv m ow)[q]? <;> rfl
   have plc : ∀ q j : Nat, (((lv m ow).map (·.1)).toArray)[q]? = some j ↔ ∃ i, (lv m ow)[q]? = some (j, i) := fun q j => by
    simp only [List.getElem?_toArray, List.getElem?_map, Option.map_eq_some_iff]
    constructor
    . rintro ⟨a, h, rfl⟩; exact ⟨a.2, h⟩
    . rintro ⟨i, h⟩; exact ⟨_, h, rfl⟩
   refine ⟨hm, rfl, ?_, ?_, ?_, ?_, ?_⟩
   . show (((lv m ow).map (·.1)).toArray).size = _
     rw [hsz]; simp [hlen]
   . intro i j a b ea eb lt
     obtain ⟨i1, e1⟩ := (plc i a).mp ea
     obtain ⟨i2, e2⟩ := (plc j b).mp eb
     obtain ⟨l1, g1⟩ := List.getElem?_eq_some_iff.mp e1
     obtain ⟨l2, g2⟩ := List.getElem?_eq_some_iff.mp e2
     have := List.pairwise_iff_getElem.mp (alj m ow) i j l1 l2 lt
     rw [g1, g2] at this
     exact this
   . intro i j e
     obtain ⟨i1, e1⟩ := (plc i j).mp e
     have := (ww k).mp (List.mem_of_getElem? e1)
     have := (Array.getElem?_eq_some_iff.mp this).1
     rw [k.siz] at this
     show j <= m
     omega
   . show (((lv m ow).map (·.1)).toArray).size <= m
     simp [hlen]; exact l
   . intro q j e' hp he
     obtain ⟨i, e1⟩ := (plc q j).mp hp
     rw [get, e1] at he
     have he : es[i]? = some e' := he
     obtain ⟨j', n, a, b, c⟩ := k.at' i e'.1 (by simp [he])
     have hj := k.inj j j' i ((ww k).mp (List.mem_of_getElem? e1)) a
     subst hj
     refine ⟨n, b, fun w lw => ?_⟩
     obtain ⟨i', ei'⟩ := c w lw
     obtain ⟨z, hz⟩ := List.mem_iff_getElem?.mp ((ww k).mpr ei')
     exact ⟨z, (plc z _).mpr ⟨i', hz⟩⟩
 . rw [Array.toList_filterMap]
   have := hperm.filterMap (es[·]?)
   rw [filterMap_getElem?_range] at this
   exact this
 . exact hsz
theorem al7 : ∀ n, n < 32 -> Msk (sizeAbove (grown n) - 1) /\ n <= sizeAbove (grown n) - 1 /\ n + 1 <= sizeAbove (grown n) - 1 /\ ¬ (n * 5 >= (sizeAbove (grown n) - 1) * 3) /\ sizeAbove (grown n) <= 128 := by
 unfold Msk; decide +kernel
theorem apw : ∀ n, n < 64 -> Msk (sizeAbove (n * 2) - 1) /\ n <= sizeAbove (n * 2) - 1 /\ ¬ (n * 5 >= (sizeAbove (n * 2) - 1) * 3) /\ sizeAbove (n * 2) <= 128 := by
 unfold Msk; decide +kernel
section
variable {prog : Program} {w : World} {K : Type} [DecidableEq K] {knd : KeyKind prog w K} {A : Around} {E : Value -> Shared -> Prop} {s : Shared}
theorem akz {v : Value} (n : Nat) (h : carriedByValue v = true) : ofAClassStatement n v = pure false := by
 cases v <;> first | (simp [carriedByValue] at h; done) | (unfold ofAClassStatement; rfl)
theorem aef {ks : List K} {a : Addr} {Q : Bool -> Shared -> Prop} (hk : IsTupleKey knd s.heap ks a) (h : Q false s) : wpAny (model prog w) A (ofAClassStatement 8 (.ref a)) Q E s := by
 have hT := hk.typeIs
 obtain ⟨o, items, n, ho, _, hd, hi⟩ := hk
 unfold ofAClassStatement
 refine wpAny_bind (wpAny_typeOf hT ?_)
 show wpAny _ _ (if ("tuple" == "tuple") = true then _ else _) _ _ s
 rw [if_pos (by decide)]
 refine wpAny_bind (wpAny_pure ?_)
 simp only [Bool.not_true, Bool.false_eq_true, if_false]
 refine wpAny_bind (wpAny_seqItems ho hd ?_)
 refine wpAny_bind ?_
 show wpAny _ _ (forIn items _ _) _ _ s
 rw [<- Array.forIn_toList]
 refine wpAny_forIn_list _ (fun rest r s' => r.1 = none /\ s' = s /\ ∀ v ∈ rest, carriedByValue v = true) _ ?_ ?_ _ _ ⟨rfl, rfl, hi.byValue⟩
 . rintro v rest r s' ⟨hr, rfl, hall⟩
   rw [akz _ (hall v List.mem_cons_self)]
   refine wpAny_bind (wpAny_pure ?_)
   simp only [Bool.false_eq_true, if_false]
   exact wpAny_pure ⟨rfl, rfl, fun u hu' => hall u (List.mem_cons_of_mem _ hu')⟩
 . rintro ⟨r1, r2⟩ s' ⟨hr, rfl, _⟩
   simp only at hr
   subst hr
   exact wpAny_pure h
theorem anh {ks : List K} {a : Addr} {st : List Value} {Q : Bool -> Shared -> Prop} (hk : IsTupleKey knd s.heap ks a) (hs : ∀ v ∈ st, ∃ ks b, v = .ref b /\ IsTupleKey knd s.heap ks b) (h : Q false s) :
 wpAny (model prog w) A (searchCouldBeSeen (.ref a) st) Q E s := by
 unfold searchCouldBeSeen
 refine wpAny_bind ?_
 refine wpAny_forIn_list _ (fun rest r s' => r.1 = none /\ s' = s /\ ∀ v ∈ rest, ∃ ks b, v = .ref b /\ IsTupleKey knd s.heap ks b) _ ?_ ?_ _ _ ⟨rfl, rfl, hs⟩
 . rintro v rest r s' ⟨hr, rfl, hall⟩
   obtain ⟨ks', b, rfl, hb⟩ := hall v List.mem_cons_self
   have hall' : ∀ v ∈ rest, ∃ ks b, v = .ref b /\ IsTupleKey knd s'.heap ks b := fun v hv => hall v (List.mem_cons_of_mem _ hv)
   dsimp only
   split
   . exact wpAny_pure ⟨rfl, rfl, hall'⟩
   . refine wpAny_bind (wpAny_eqIsQuiet_tuple hk ?_)
     simp only [Bool.not_true, Bool.false_eq_true, if_false]
     refine wpAny_bind (wpAny_eqIsQuiet_tuple hb ?_)
     simp only [Bool.not_true, Bool.false_eq_true, if_false]
     refine wpAny_bind (aef hk ?_)
     simp only [Bool.false_eq_true, if_false]
     refine wpAny_bind (aef hb ?_)
     simp only [Bool.false_eq_true, if_false]
     exact wpAny_pure ⟨rfl, rfl, hall'⟩
 . rintro ⟨r1, r2⟩ s' ⟨hr, rfl, _⟩
   simp only at hr
   subst hr
   exact wpAny_pure h
def ent (knd : KeyKind prog w K) (x : List K × Addr) : Int × Value := (tupleKeyHash knd x.1, .ref x.2)
theorem ah3 {es : Array (Int × Value)} {xs : List (List K × Addr)} (he : es.toList = xs.map (ent knd)) (j : Nat) : es[j]? = (xs[j]?).map (ent knd) := by
 rw [<- Array.getElem?_toList, he, List.getElem?_map]
theorem alm {a p : Addr} {k : List K} {o : Obj} {es : Array (Int × Value)} {ep : Nat} {t : SetTable} {xs : List (List K × Addr)} {adding : Bool} {N : Nat}
 (hu : A.units < cLine) (hk : IsTupleKey knd s.heap k p) (ho : s.heap.get? a = some o) (hd : o.data = .set es ep t) (T : TOk t es) (he : es.toList = xs.map (ent knd))
 (hx : ∀ x ∈ xs, IsTupleKey knd s.heap x.1 x.2) (hn : (xs.map (·.1)).Nodup) (F : Fst t (tupleKeyHash knd k) N)
 {Q : SetFound -> Shared -> Prop} (hin : ∀ (i : Nat) x, xs[i]? = some x -> x.1 = k -> Q (.there (if adding then none else some i)) s) (hout : (∀ x ∈ xs, x.1 ≠ k) -> Q (.free (P t.mask (tupleKeyHash knd k) N).j false) s) :
 ∀ (fuel n : Nat) (st : Option Probe), n <= N -> N - n < fuel -> st.getD (t.probeStart (tupleKeyHash knd k)) = P t.mask (tupleKeyHash knd k) n ->
  (∀ m, m < n -> ∀ (i : Nat) x, t.place[i]? = some (P t.mask (tupleKeyHash knd k) m).j -> xs[i]? = some x -> x.1 ≠ k) ->
  wpAny (model prog w) A (setSearchFrom a (.ref p) (tupleKeyHash knd k) adding fuel st) Q E s := by
 intro fuel
 induction fuel with
 | zero => intro n st _ l; omega
 | succ fuel ih =>
  intro n st hnN l hst hbef
  unfold setSearchFrom
  refine wpAny_bind (wpAny_setState_of ho hd T.fits ?_)
  dsimp only
  rw [T.way, hst]
  simp only [Bool.false_eq_true, if_false]
  have key := avm T F (fun i => (es[i]?.map (·.1)).getD 0) (10 * turns t.mask) n hnN (by have := F.lt; omega)
  generalize hpr : t.probe _ (tupleKeyHash knd k) (P t.mask (tupleKeyHash knd k) n) = pr
  have hpr : t.probe (fun i => (es[i]?.map (·.1)).getD 0) (tupleKeyHash knd k) (P t.mask (tupleKeyHash knd k) n) = pr := hpr
  have atI : ∀ (i j : Nat), t.place[i]? = some j -> ∃ x, xs[i]? = some x /\ es[i]? = some (ent knd x) := fun i j e => by
   have li : i < es.size := by rw [<- T.siz]; exact (Array.getElem?_eq_some_iff.mp e).1
   have lx : i < xs.length := by have := congrArg List.length he; simp at this; omega
   refine ⟨xs[i], by simp [lx], ?_⟩
   rw [ah3 he]; simp [lx]
  rcases key with ⟨e, hno⟩ | ⟨m, i, h1, h2, h3, h4, h5, e⟩
  . have e : pr = _ := hpr.symm.trans e
    subst e
    dsimp only
    refine wpAny_pure (hout fun x hxm hxk => ?_)
    obtain ⟨i, hi⟩ := List.mem_iff_getElem?.mp hxm
    have hei : es[i]? = some (ent knd x) := by rw [ah3 he, hi]; rfl
    obtain ⟨m, lm, hp⟩ := T.ahead F hei (by unfold ent; rw [hxk])
    by_cases hmn : m < n
    . exact hbef m hmn i x hp hi hxk
    . refine hno m (by omega) lm i hp ?_
      rw [hei]; show tupleKeyHash knd x.1 = _; rw [hxk]
  . have e : pr = _ := hpr.symm.trans e
    subst e
    dsimp only
    obtain ⟨x, hxi, hei⟩ := atI i _ h3
    have hkx := hx x (List.mem_of_getElem? hxi)
    have seen : ∀ {R : Bool -> Shared -> Prop}, R false s -> wpAny (model prog w) A (searchCouldBeSeen (.ref p) ((es.filter (·.1 == tupleKeyHash knd k)).toList.map (·.2))) R E s := fun hR => anh hk (fun v hv => by
     obtain ⟨y, hy, rfl⟩ := List.mem_map.mp hv
     have hy' : y ∈ es.toList := by simp at hy; simpa using hy.1
     rw [he] at hy'
     obtain ⟨z, hz, rfl⟩ := List.mem_map.mp hy'
     exact ⟨z.1, z.2, rfl, hx z hz⟩) hR
    rcases Bool.eq_false_or_eq_true t.led with hled | hled
    all_goals
     simp only [hled, Bool.not_true, Bool.not_false, Bool.false_eq_true, if_false, if_true]
     first
     | (rw [hei]; show wpAny _ _ (holding [.ref x.2] (eqBool (.ref x.2) (.ref p)) >>= _) _ _ _)
     | (refine wpAny_bind (seen ?_); simp only [Bool.false_eq_true, if_false]; rw [hei]; show wpAny _ _ (holding [.ref x.2] (eqBool (.ref x.2) (.ref p)) >>= _) _ _ _)
     refine wpAny_bind (wpAny_holding (wpAny_eqBool_tuple hu hkx hk ?_))
     refine wpAny_bind (wpAny_setState_of ho hd T.fits ?_)
     dsimp only
     have hsm : t.sameMemory t.moves t.mask = some true := by unfold sameMemory; simp
     rw [hsm]
     dsimp only
     rw [if_pos rfl, (abi T.srt).mpr h3]
     dsimp only
     rw [hei]
     by_cases hxk : x.1 = k
     . have hd1 : decide (x.1 = k) = true := by simp [hxk]
       rw [hd1]
       have hq := hin i x hxi hxk
       cases adding
       . simp only [Bool.false_and, Bool.false_eq_true, if_false]
         refine wpAny_bind (wpAny_isSame_ref_self ?_)
         refine wpAny_bind (wpAny_pure ?_)
         simpa using wpAny_pure hq
       . simp only [Bool.and_self, if_true]
         exact wpAny_pure hq
     . have hd1 : decide (x.1 = k) = false := by simp [hxk]
       rw [hd1]
       simp only [Bool.and_false, Bool.false_eq_true, if_false]
       refine wpAny_bind (wpAny_isSame_ref_self ?_)
       refine wpAny_bind (wpAny_pure ?_)
       simp only [if_true]
       refine ih (m + 1) _ (by omega) (by omega) rfl fun m' hm' i' x' hp' hxi' => ?_
       by_cases hc : m' < n
       . exact hbef m' hc i' x' hp' hxi'
       . by_cases hm : m' = m
         . subst hm
           have ei : i' = i := by rw [<- below_at T.srt hp', <- below_at T.srt h3]
           subst ei
           rw [hxi] at hxi'; cases hxi'; exact hxk
         . intro hxk'
           have hei' : es[i']? = some (ent knd x') := by rw [ah3 he, hxi']; rfl
           refine h5 m' (by omega) (by omega) i' hp' ?_
           rw [hei']; show tupleKeyHash knd x'.1 = _; rw [hxk']
end
section
variable {prog : Program} {w : World} {K : Type} [DecidableEq K] {knd : KeyKind prog w K} {pk : List K × Addr -> Prop} {A : Around} {E : Value -> Shared -> Prop} {s : Shared}
abbrev bt (w : World) : Bool := w.params.followText "set-order"
theorem aqb {Q : Bool -> Shared -> Prop} (h : Q (bt w) s) : wpAny (model prog w) A setsByText Q E s := by
 unfold setsByText
 exact wpAny_bind (wpAny_askSetting (wpAny_pure h))
def zq (knd : KeyKind prog w K) (pk : List K × Addr -> Prop) : Prop := ∀ x, pk x -> ∀ k ∈ x.1, ∀ v n, knd.is k v = true -> hashByValue n v = pure true
theorem ac0 : ∀ {ks : List K} {vs : List Value}, ItemsAre knd ks vs -> (∀ k ∈ ks, ∀ v n, knd.is k v = true -> hashByValue n v = pure true) -> ∀ v ∈ vs, ∀ n, hashByValue n v = pure true
 | _, _, .nil, _, v, h => by simp at h
 | _, _, .cons h t, hp, v, hv => by
  rcases List.mem_cons.mp hv with rfl | hv
  . exact fun n => hp _ List.mem_cons_self _ n h
  . exact ac0 t (fun k hk => hp k (List.mem_cons_of_mem _ hk)) v hv
theorem aku (hpk : zq knd pk) {ks : List K} {a : Addr} {Q : Bool -> Shared -> Prop} (hk : IsTupleKey knd s.heap ks a) (hp : pk (ks, a)) (h : Q true s) : wpAny (model prog w) A (hashByValue 8 (.ref a)) Q E s := by
 have hT := hk.typeIs
 obtain ⟨o, items, n, ho, _, hd, hi⟩ := hk
 unfold hashByValue
 refine wpAny_bind (wpAny_specialOf hT F.slot_tuple_hash.lookup ?_)
 dsimp only
 refine wpAny_bind (wpAny_seqItems ho hd ?_)
 refine wpAny_bind ?_
 show wpAny _ _ (forIn items _ _) _ _ s
 rw [<- Array.forIn_toList]
 refine wpAny_forIn_list _ (fun rest r s' => r.1 = none /\ s' = s /\ ∀ v ∈ rest, ∀ n, hashByValue n v = pure true) _ ?_ ?_ _ _ ⟨rfl, rfl, ac0 hi (hpk _ hp)⟩
 . rintro v rest r s' ⟨hr, rfl, hall⟩
   rw [hall v List.mem_cons_self]
   refine wpAny_bind (wpAny_pure ?_)
   simp only [Bool.not_true, Bool.false_eq_true, if_false]
   exact wpAny_pure ⟨rfl, rfl, fun u hu' => hall u (List.mem_cons_of_mem _ hu')⟩
 . rintro ⟨r1, r2⟩ s' ⟨hr, rfl, _⟩
   simp only at hr
   subst hr
   exact wpAny_pure h
structure SetX (knd : KeyKind prog w K) (pk : List K × Addr -> Prop) (h : Heap) (a : Addr) (xs : List (List K × Addr)) (o : Obj) (es : Array (Int × Value)) (ep : Nat) (t : SetTable) : Prop where
 get : h.get? a = some o
 exa : o.ExactSet
 dat : o.data = .set es ep t
 tab : TOk t es
 ent : es.toList = xs.map (ent knd)
 keys : ∀ x ∈ xs, IsTupleKey knd h x.1 x.2 /\ pk x
 nod : (xs.map (·.1)).Nodup
 led : t.led = !bt w
 pla : t.plain = true
def SetH (knd : KeyKind prog w K) (pk : List K × Addr -> Prop) (h : Heap) (a : Addr) (S : List K -> Prop) (n : Nat) : Prop := ∃ xs o es ep t, SetX knd pk h a xs o es ep t /\ (∀ k, S k ↔ k ∈ xs.map (·.1)) /\ xs.length = n /\ t.place.size * 5 < t.mask * 3
theorem SetX.size {h : Heap} {a : Addr} {xs : List (List K × Addr)} {o : Obj} {es : Array (Int × Value)} {ep : Nat} {t : SetTable} (X : SetX knd pk h a xs o es ep t) : es.size = xs.length := by
 have := congrArg List.length X.ent; simpa using this
theorem als (p : Addr) (es : Array (Int × Value)) : byScan (.ref p) es = false := by unfold byScan; simp [Value.scannable]
theorem ank {m : Nat} (h : Msk m) : 10 * turns m < 100000 := by rcases h with rfl | rfl | rfl | rfl | rfl <;> decide
theorem adm {a p : Addr} {k : List K} {xs : List (List K × Addr)} {o : Obj} {es : Array (Int × Value)} {ep : Nat} {t : SetTable} {adding : Bool} {N : Nat}
 (hu : A.units < cLine) (hk : IsTupleKey knd s.heap k p) (X : SetX knd pk s.heap a xs o es ep t) (F : Fst t (tupleKeyHash knd k) N)
 {Q : SetFound -> Shared -> Prop} (hin : ∀ (i : Nat) x, xs[i]? = some x -> x.1 = k -> Q (.there (if adding then none else some i)) s) (hout : (∀ x ∈ xs, x.1 ≠ k) -> Q (.free (P t.mask (tupleKeyHash knd k) N).j false) s) :
 wpAny (model prog w) A (setSearch a (.ref p) (tupleKeyHash knd k) adding) Q E s := by
 unfold setSearch
 exact alm hu hk X.get X.dat X.tab X.ent (fun x hx => (X.keys x hx).1) X.nod F hin hout 100000 0 none (Nat.zero_le _) (by have := F.lt; have := ank X.tab.msk; omega) (am9 _ _) (fun m l => by omega)
theorem aqs {a p : Addr} {k : List K} {S : List K -> Prop} {n : Nat} {Q : Option Nat -> Shared -> Prop} (hu : A.units < cLine) (hk : IsTupleKey knd s.heap k p) (hS : SetH knd pk s.heap a S n)
 (h : ∀ r : Option Nat, (r.isSome = true ↔ S k) -> Q r s) : wpAny (model prog w) A (setFind a (.ref p) (tupleKeyHash knd k)) Q E s := by
 obtain ⟨xs, o, es, ep, t, X, hm, _, _⟩ := hS
 obtain ⟨N, F⟩ := X.tab.fst (tupleKeyHash knd k)
 unfold setFind setFindIn
 refine wpAny_bind (wpAny_setState_of X.get X.dat X.tab.fits ?_)
 dsimp only
 rw [als]
 simp only [Bool.false_eq_true, if_false]
 refine wpAny_bind (adm hu hk X F (fun i x hi hx => ?_) (fun hno => ?_))
 . simp only [Bool.false_eq_true, if_false]
   exact wpAny_pure (h _ (by simp; exact (hm k).mpr (List.mem_map.mpr ⟨x, List.mem_of_getElem? hi, hx⟩)))
 . dsimp only
   refine wpAny_pure (h _ ?_)
   simp only [Option.isSome_none, Bool.false_eq_true, false_iff]
   intro hs
   obtain ⟨x, hx, e⟩ := List.mem_map.mp ((hm k).mp hs)
   exact hno x hx e
end
theorem abo {α β : Type} {f : α -> β} : ∀ {l l' : List β}, l.Perm l' -> ∀ {xs : List α}, l' = xs.map f -> ∃ xs' : List α, l = xs'.map f /\ xs'.Perm xs := by
 intro l l' p
 induction p with
 | nil => intro xs e; cases xs with
  | nil => exact ⟨[], rfl, .nil⟩
  | cons _ _ => cases e
 | cons a p ih =>
  intro xs e
  cases xs with
  | nil => cases e
  | cons x xs =>
   simp only [List.map_cons, List.cons.injEq] at e
   obtain ⟨xs', e1, p1⟩ := ih e.2
   exact ⟨x :: xs', by simp [e1, e.1], p1.cons x⟩
 | swap a b l =>
  intro xs e
  match xs, e with
  | x :: y :: xs, e =>
   simp only [List.map_cons, List.cons.injEq] at e
   obtain ⟨rfl, rfl, rfl⟩ := e
   exact ⟨y :: x :: xs, rfl, .swap x y xs⟩
 | trans p q ih1 ih2 =>
  intro xs e
  obtain ⟨ys, e1, p1⟩ := ih2 e
  obtain ⟨zs, e2, p2⟩ := ih1 e1
  exact ⟨zs, e2, p2.trans p1⟩
section
variable {prog : Program} {w : World} {K : Type} [DecidableEq K] {knd : KeyKind prog w K} {pk : List K × Addr -> Prop} {A : Around} {E : Value -> Shared -> Prop} {s : Shared}
theorem ajt {h h' : Heap} {ks : List K} {p a : Addr} {o : Obj} {es ep t} (x : IsTupleKey knd h ks p) (ho : h.get? a = some o) (hd : o.data = .set es ep t) (hs : Heap.SameBut a h h') : IsTupleKey knd h' ks p := by
 obtain ⟨o', items, n, ho', hc, hd', hi⟩ := x
 have hne : p ≠ a := by
  rintro rfl
  obtain rfl : o' = o := Option.some.inj (ho'.symm.trans ho)
  rw [hd] at hd'; exact nomatch hd'
 exact ⟨o', items, n, (hs.2 p hne).trans ho', hc, hd', hi⟩
theorem newX {a : Addr} {xs xs' : List (List K × Addr)} {o : Obj} {es es' : Array (Int × Value)} {ep : Nat} {t t' : SetTable} {h : Heap} (X : SetX knd pk h a xs o es ep t) (T' : TOk t' es') (he : es'.toList = xs'.map (ent knd))
 (hk : ∀ x ∈ xs', IsTupleKey knd h x.1 x.2 /\ pk x) (hn : (xs'.map (·.1)).Nodup) (hl : t'.led = !bt w) (hp : t'.plain = true) :
 SetX knd pk (h.update a (Obj.putSet es' t')) a xs' { o with data := .set es' (ep + 1) t' } es' (ep + 1) t' := by
 have hg : (h.update a (Obj.putSet es' t')).get? a = some { o with data := .set es' (ep + 1) t' } := by
  have := Heap.get?_update_self (Obj.putSet es' t') X.get (by rw [putSet_of es' t' X.dat]; rfl)
  rw [putSet_of es' t' X.dat] at this; exact this
 exact ⟨hg, X.exa, rfl, T', he, fun x hx => ⟨ajt (hk x hx).1 X.get X.dat (Heap.SameBut.update h a _), (hk x hx).2⟩, hn, hl, hp⟩
theorem abh {n : Nat} (h : n <= 128) : n <= sizeLine := by rw [sizeLine_eq]; omega
theorem agw {a : Addr} {xs : List (List K × Addr)} {o : Obj} {es : Array (Int × Value)} {ep : Nat} {t : SetTable} {wanted : Nat} (X : SetX knd pk s.heap a xs o es ep t)
 (hm : Msk (sizeAbove wanted - 1)) (hz : es.size <= sizeAbove wanted - 1) (hb : sizeAbove wanted <= 128) {Q : Unit -> Shared -> Prop}
 (h : ∀ h' xs' o' es' ep' t', Heap.SameBut a s.heap h' -> SetX knd pk h' a xs' o' es' ep' t' -> xs'.Perm xs -> t'.mask = sizeAbove wanted - 1 -> t'.place.size = es.size -> Q () { s with heap := h' }) :
 wpAny (model prog w) A (setRelay a wanted) Q E s := by
 obtain ⟨t', order, e, e1, T', p, sz, hl, hp, _⟩ := arx hm t.finger (t.movedTo (sizeAbove wanted - 1)) t.led t.plain es hz
 unfold setRelay
 refine wpAny_bind (wpAny_setState_of X.get X.dat X.tab.fits ?_)
 dsimp only
 rw [if_neg (by have := abh hb; omega)]
 have er : t.relaid (es.map (·.1)) wanted = some (t', order) := e
 rw [er]
 refine wpAny_bind ?_
 have hif : wpAny (model prog w) A (if ((order.filterMap (es[·]?)).size != es.size) = true then (do unsupported "internal:set-table-lost-an-element"; pure (order.filterMap (es[·]?), t')) else pure (order.filterMap (es[·]?), t'))
  (fun r s' => wpAny (model prog w) A (storeSet a r.1 r.2) Q E s') E s := by
  rw [if_neg (by simp [sz])]
  refine wpAny_pure ?_
  obtain ⟨xs', ex, px⟩ := abo p X.ent
  have hX := newX X T' ex (fun x hx => X.keys x (px.mem_iff.mp hx)) ((px.map _).nodup_iff.mpr X.nod) (hl.trans X.led) (hp.trans X.pla)
  refine wpAny_storeSet_of X.get X.dat (h _ _ _ _ _ _ (Heap.SameBut.update s.heap a _) hX px e1 (by rw [T'.siz, sz])) (abh (by rw [sz]; omega))
 exact hif
theorem aly (hpk : zq knd pk) {a p : Addr} {k : List K} {S : List K -> Prop} {n : Nat} {Q : Bool -> Shared -> Prop} (hu : A.units < cLine) (hk : IsTupleKey knd s.heap k p) (hp : pk (k, p)) (hS : SetH knd pk s.heap a S n) (hn : n + 1 < 32)
 (h : ∀ h' n' b, Heap.SameBut a s.heap h' -> SetH knd pk h' a (fun k' => S k' \/ k' = k) n' -> n' <= n + 1 -> Q b { s with heap := h' }) :
 wpAny (model prog w) A (setAddHashed a (.ref p) (tupleKeyHash knd k)) Q E s := by
 obtain ⟨xs, o, es, ep, t, X, hm, hl, nf⟩ := hS
 obtain ⟨N, F⟩ := X.tab.fst (tupleKeyHash knd k)
 have hsz := X.size
 unfold setAddHashed setAddHashedIn
 refine wpAny_holding (wpAny_bind (wpAny_setState_of X.get X.dat X.tab.fits ?_))
 dsimp only
 rw [als]
 simp only [Bool.false_eq_true, if_false]
 refine wpAny_bind (adm hu hk X F (fun i x hi hx => ?_) (fun hno => ?_))
 . dsimp only
   refine wpAny_pure ?_
   have hSk : S k := (hm k).mpr (List.mem_map.mpr ⟨x, List.mem_of_getElem? hi, hx⟩)
   have := h s.heap n false (Heap.SameBut.refl a s.heap) ⟨xs, o, es, ep, t, X, fun k' => by
    rw [<- hm k']
    exact ⟨fun h => h.elim id (fun e => e ▸ hSk), .inl⟩, hl, nf⟩ (by omega)
   exact this
 . dsimp only
   refine wpAny_bind (wpAny_setState_of X.get X.dat X.tab.fits ?_)
   dsimp only
   have room : t.place.size + 1 <= t.mask := by have := X.tab.msk; rcases this with e | e | e | e | e <;> omega
   have T' := X.tab.put (x := .ref p) F room
   have hpl : (t.put (P t.mask (tupleKeyHash knd k) N).j).1.plain = true := X.pla
   rw [hpl]
   simp only [if_true]
   refine wpAny_bind (aku hpk hk hp ?_)
   simp only [if_true]
   obtain ⟨xs', ex, px⟩ := abo (f := ent knd) (insertAt_perm es (t.put (P t.mask (tupleKeyHash knd k) N).j).2 (tupleKeyHash knd k, .ref p)) (xs := xs ++ [(k, p)]) (by rw [Array.toList_push, X.ent, List.map_append]; rfl)
   have pm := px.map (·.1)
   have hnd : (xs'.map (·.1)).Nodup := pm.nodup_iff.mpr (by
    rw [List.map_append, List.nodup_append]
    refine ⟨X.nod, by simp, fun a ha b hb => ?_⟩
    simp at hb; subst hb
    rintro rfl
    obtain ⟨x, hx, e⟩ := List.mem_map.mp ha
    exact hno x hx e)
   have hkeys : ∀ x ∈ xs', IsTupleKey knd s.heap x.1 x.2 /\ pk x := fun x hx => by
    rcases List.mem_append.mp (px.mem_iff.mp hx) with hx | hx
    . exact X.keys x hx
    . simp at hx; subst hx; exact ⟨hk, hp⟩
   have hX := newX X T' ex hkeys hnd X.led X.pla
   have hmem : ∀ k', (S k' \/ k' = k) ↔ k' ∈ xs'.map (·.1) := fun k' => by
    rw [pm.mem_iff, List.map_append, List.mem_append, hm k']; simp
   have hlen : xs'.length = n + 1 := by rw [px.length_eq]; simp [hl]
   have hes : (insertAt es (t.put (P t.mask (tupleKeyHash knd k) N).j).2 (tupleKeyHash knd k, .ref p)).size = es.size + 1 := aat _ _ _
   refine wpAny_bind (wpAny_storeSet_of X.get X.dat ?_ (abh (by rw [hes]; omega)))
   have hplc : (t.put (P t.mask (tupleKeyHash knd k) N).j).1.place.size = es.size + 1 := by rw [T'.siz, hes]
   by_cases htf : (t.put (P t.mask (tupleKeyHash knd k) N).j).1.tooFull = true
   . rw [htf]
     simp only [Bool.not_false, Bool.and_self, if_true]
     obtain ⟨g1, g2, g3, g4, g5⟩ := al7 (es.size + 1) (by omega)
     refine wpAny_bind (agw hX g1 (by rw [hes]; omega) g5 fun h' xs2 o2 es2 ep2 t2 sb X2 p2 em ps => ?_)
     refine wpAny_pure (h h' (n + 1) true ((Heap.SameBut.update s.heap a _).trans sb) ⟨xs2, o2, es2, ep2, t2, X2, fun k' => ?_, by rw [p2.length_eq, hlen], ?_⟩ (by omega))
     . exact (hmem k').trans (p2.map (·.1)).mem_iff.symm
     . rw [ps, em, hes]; omega
   . rw [Bool.not_eq_true] at htf
     rw [htf]
     simp only [Bool.and_false, Bool.false_eq_true, if_false]
     refine wpAny_pure (h _ (n + 1) true (Heap.SameBut.update s.heap a _) ⟨xs', _, _, _, _, hX, hmem, hlen, ?_⟩ (by omega))
     unfold tooFull at htf
     have hf : (t.put (P t.mask (tupleKeyHash knd k) N).j).1.fill = es.size + 1 := by unfold fill; rw [hplc, T'.dum]; rfl
     rw [hf] at htf
     rw [hplc]
     simp at htf
     omega
end
open PySem
theorem upto {M : Model} {A : Around} {E : Value -> Shared -> Prop} {s : Shared} {β : Type} {f : Nat -> β -> Sem (ForInStep β)} {n : Nat} (J : Nat -> β -> Shared -> Prop) {Q : β -> Shared -> Prop}
 (turn : ∀ i b z, i < n -> J i b z -> wpAny M A (f i b) (fun r z' => match r with | .yield b' => J (i + 1) b' z' | .done b' => Q b' z') E z) (fin : ∀ b z, J n b z -> Q b z) {b : β} (start : J 0 b s) :
 wpAny M A (forIn [:n] b f) Q E s := by
 have go : ∀ (k i : Nat) (b : β) (z : Shared), n = i + k -> J i b z -> wpAny M A (forIn (List.range' i k) b f) Q E z := by
  intro k
  induction k with
  | zero => intro i b z e hj; subst e; exact wpAny_pure (fin b z hj)
  | succ k ih =>
   intro i b z e hj
   show wpAny M A (forIn (i :: List.range' (i + 1) k) b f) Q E z
   rw [List.forIn_cons]
   refine wpAny_bind (wpAny_mono (turn i b z (by omega) hj) (fun r z' hr => ?_) fun _ _ x => x)
   match r, hr with
   | .done b', hr => exact wpAny_pure hr
   | .yield b', hr => exact ih (i + 1) b' z' (by omega) hr
 have e : (forIn [:n] b f : Sem β) = forIn (List.range' 0 n) b f := by rw [Std.Legacy.Range.forIn_eq_forIn_range']; simp [Std.Legacy.Range.size]
 rw [e]
 exact go n 0 b s (by omega) start
theorem sub_dict_set : isSubtype (.type "dict") (.type "set") = pure false := by rw [isSubtype_type]; kernel_rfl
theorem sub_dict_frozenset : isSubtype (.type "dict") (.type "frozenset") = pure false := by rw [isSubtype_type]; kernel_rfl
section
variable {prog : Program} {w : World} {K : Type} [DecidableEq K] {knd : KeyKind prog w K} {pk : List K × Addr -> Prop} {A : Around} {E : Value -> Shared -> Prop} {s : Shared}
theorem je {v : Value} {T : String} {Q : Bool -> Shared -> Prop} (hT : s.TypeIs v T) (h1 : isSubtype (.type T) (.type "set") = pure false) (h2 : isSubtype (.type T) (.type "frozenset") = pure false) (h : Q false s) :
 wpAny (model prog w) A (Builtin.Frozenset.isAnySet v) Q E s := by
 unfold Builtin.Frozenset.isAnySet
 refine wpAny_bind (wpAny_isInstance hT h1 ?_)
 exact wpAny_isInstance hT h2 h
theorem a0i {v : Value} {Q : Bool -> Shared -> Prop} (hT : s.TypeIs v "set") (h : Q true s) : wpAny (model prog w) A (Builtin.Frozenset.isAnySet v) Q E s := by
 unfold Builtin.Frozenset.isAnySet
 refine wpAny_bind (wpAny_isInstance hT sub_set_self ?_)
 exact wpAny_pure h
def ir (w : World) : Obj := { cls := .type "set", dict := none, data := .set #[] 0 (.fresh 0 0 (!bt w)) }
theorem aqf {h : Heap} {a : Addr} (hg : h.get? a = some (ir w)) : SetH knd pk h a (fun _ => False) 0 :=
 ⟨[], ir w, #[], 0, _, ⟨hg, ⟨rfl, rfl, rfl⟩, rfl, ⟨.inl rfl, rfl, rfl, fun i j a b e => by simp [SetTable.fresh] at e, fun i j e => by simp [SetTable.fresh] at e, by simp [SetTable.fresh], fun i j e a => by simp [SetTable.fresh] at a⟩,
  rfl, fun x hx => by simp at hx, List.nodup_nil, rfl, rfl⟩, fun k => by simp, rfl, by simp [SetTable.fresh]⟩
theorem ass {a : Addr} {S : List K -> Prop} {n m : Nat} (hS : SetH knd pk s.heap a S n) (hl : n + m < 64) {Q : Unit -> Shared -> Prop}
 (h : ∀ h', Heap.SameBut a s.heap h' -> SetH knd pk h' a S n -> Q () { s with heap := h' }) : wpAny (model prog w) A (setRoomFor a m) Q E s := by
 obtain ⟨xs, o, es, ep, t, X, hm, hn, nf⟩ := hS
 have hsz := X.size
 unfold setRoomFor
 refine wpAny_bind (wpAny_setState_of X.get X.dat X.tab.fits ?_)
 dsimp only
 unfold roomFor
 have hps := X.tab.siz
 split
 . rename_i wanted e
   split at e
   . cases e
     obtain ⟨g1, g2, g3, g4⟩ := apw (t.place.size + m) (by omega)
     refine agw X g1 (by omega) g4 fun h' xs2 o2 es2 ep2 t2 sb X2 p2 em ps => h h' sb ⟨xs2, o2, es2, ep2, t2, X2, fun k' => ?_, by rw [p2.length_eq, hn], ?_⟩
     . exact (hm k').trans (p2.map (·.1)).mem_iff.symm
     . rw [ps, em]; omega
   . cases e
 . exact wpAny_pure (h s.heap (Heap.SameBut.refl _ _) ⟨xs, o, es, ep, t, X, hm, hn, nf⟩)
theorem SetH.get {h : Heap} {a : Addr} {S : List K -> Prop} {n : Nat} (hS : SetH knd pk h a S n) : ∃ o es ep t, h.get? a = some o /\ o.ExactSet /\ o.data = .set es ep t /\ t.fits es.size = true :=
 let ⟨_, o, es, ep, t, X, _⟩ := hS; ⟨o, es, ep, t, X.get, X.exa, X.dat, X.tab.fits⟩
theorem SetH.typeIs {a : Addr} {S : List K -> Prop} {n : Nat} (hS : SetH knd pk s.heap a S n) : s.TypeIs (.ref a) "set" :=
 let ⟨o, _, _, _, ho, hc, _⟩ := hS.get; ⟨o, ho, hc.1⟩
theorem SetH.congr {h : Heap} {a : Addr} {S S' : List K -> Prop} {n : Nat} (hS : SetH knd pk h a S n) (e : ∀ k, S k ↔ S' k) : SetH knd pk h a S' n :=
 let ⟨xs, o, es, ep, t, X, hm, r⟩ := hS; ⟨xs, o, es, ep, t, X, fun k => (e k).symm.trans (hm k), r⟩
theorem anb (hpk : zq knd pk) {id : String} {a d : Addr} {S : List K -> Prop} {n : Nat} {xs : List (List K × Addr × Value)} {Q : Unit -> Shared -> Prop} (hu : A.units < cLine) (hS : SetH knd pk s.heap a S n)
 (hd : s.heap.DictOfH (tupleKind knd) d xs) (hds : (d == sysModules) = false) (hpx : ∀ x ∈ xs, pk (x.1, x.2.1)) (hl : n + xs.length < 31)
 (h : ∀ h' n', Heap.SameBut a s.heap h' -> SetH knd pk h' a (fun k => S k \/ k ∈ xs.map (·.1)) n' -> Q () { s with heap := h' }) :
 wpAny (model prog w) A (Builtin.Frozenset.updateFrom id a (.ref d)) Q E s := by
 have hT := hd.typeIs
 obtain ⟨od, esd, epd, hod, hcd, hdd, hed, hxd, hnd⟩ := hd
 obtain ⟨o0, es0, ep0, t0, hg0, hc0, hd0, hf0⟩ := hS.get
 have hne : d ≠ a := by
  rintro rfl
  rw [hod] at hg0; cases hg0
  rw [hdd] at hd0; cases hd0
 have hlen : esd.size = xs.length := size_of_entries hed
 unfold Builtin.Frozenset.updateFrom
 refine wpAny_bind (je hT sub_dict_set sub_dict_frozenset ?_)
 simp only [Bool.false_eq_true, if_false]
 refine wpAny_bind (wpAny_typeOf hT ?_)
 rw [if_pos (by decide)]
 refine wpAny_bind (wpAny_rule ?_)
 refine wpAny_bind (m := Builtin.Frozenset.addrOf (.ref d)) (wpAny_pure ?_)
 rw [if_neg (by rw [hds]; decide)]
 refine wpAny_bind (wpAny_dictEpoch hod hdd ?_)
 refine wpAny_bind (wpAny_dictEntries hod hdd ?_)
 refine wpAny_bind (ass hS (by omega) fun h1 sb1 hS1 => ?_)
 have hod1 : h1.get? d = some od := (sb1.2 d hne).trans hod
 refine wpAny_bind (wpAny_dictEntries hod1 hdd ?_)
 refine wpAny_bind ?_
 refine upto (fun i _ z => ∃ h' n', z = { s with heap := h' } /\ SetH knd pk h' a (fun k => S k \/ k ∈ (xs.take i).map (·.1)) n' /\ n' <= n + i /\ Heap.SameBut a s.heap h') (fun i _ z lt inv => ?_) (fun _ z inv => ?_) ⟨h1, n, rfl, hS1.congr (fun k => by simp), by omega, sb1⟩
 . obtain ⟨h', n', rfl, hS', hn', sb'⟩ := inv
   have hod' : h'.get? d = some od := (sb'.2 d hne).trans hod
   refine wpAny_bind (wpAny_dictEntries hod' hdd ?_)
   have lx : i < xs.length := by omega
   have he : esd[i]? = some (entryOfKey (tupleKind knd) xs[i]) := by rw [entry_at hed]; simp [lx]
   rw [he]
   have hkk : IsTupleKey knd h' xs[i].1 xs[i].2.1 := ajt (hxd _ (List.getElem_mem lx)) hg0 hd0 sb'
   show wpAny _ _ (holding [.ref xs[i].2.1] (setAddHashed a (.ref xs[i].2.1) (tupleKeyHash knd xs[i].1)) >>= _) _ _ _
   refine wpAny_bind (wpAny_holding (aly (s := { s with heap := h' }) hpk hu hkk (hpx _ (List.getElem_mem lx)) hS' (by omega) fun h'' n'' b sb'' hS'' hn'' => ?_))
   refine wpAny_bind (wpAny_dictEpoch ((sb''.2 d hne).trans hod') hdd ?_)
   rw [bne_self_eq_false]
   refine wpAny_pure ⟨h'', n'', rfl, hS''.congr (fun k => ?_), by omega, sb'.trans sb''⟩
   rw [List.take_add_one, List.map_append, List.mem_append, show xs[i]? = some xs[i] by simp [lx]]
   simp [or_assoc]
 . obtain ⟨h', n', rfl, hS', hn', sb'⟩ := inv
   refine wpAny_pure (h h' n' sb' (hS'.congr fun k => ?_))
   rw [List.take_of_length_le (by omega)]
end
section
variable {prog : Program} {w : World} {K : Type} [DecidableEq K] {knd : KeyKind prog w K} {pk : List K × Addr -> Prop} {A : Around} {E : Value -> Shared -> Prop} {s : Shared}
theorem arp {v : Value} {R : Value -> Shared -> Prop} (post : R (.ref s.heap.objs.size) { s with heap := s.heap.push (ir w) }) :
 codeAny (model prog w) A (.call (.builtin "set.__new__") ⟨[.type "set", v], []⟩) (wants R E) s := by
 refine codeAny_call_builtin F.plain_set_new F.entry_set_new (wpAny_of_eq (F.newCall_set_1 v) ?_)
 have sub := sub_set_self
 unfold Builtin.«set.__new__» Builtin.Frozenset.newClass
 wp_walk
 exact wpAny_askSetting (wpAny_pure (wpAny_bind (wpAny_alloc (wpAny_pure (wpAny_pure post)))))
set_option maxHeartbeats 3200000 in
theorem ac2 {x : Value} {R : Shared -> Prop} {Q : Value -> Shared -> Prop}
 (hup : wpAny (model prog w) A.in1.in1 (Builtin.Frozenset.updateFrom "set.__init__" s.heap.objs.size x) (fun _ s' => R s') E { s with heap := s.heap.push (ir w) })
 (h : ∀ s', R s' -> Q (.ref s.heap.objs.size) s') :
 wpAny (model prog w) A (call (.type "set") [x]) Q E s := by
 obtain ⟨c, tl, hmro⟩ := F.called_set.mro
 have hmade := F.called_set.made
 have hsub := F.called_set.sub
 refine wpAny_call (codeAny_of_tree ?_)
 show wpAny _ _ (callAny (.type "set") _) _ _ _
 refine wpAny_pure ⟨Code.quiet_builtin _ (by decide +kernel), codeAny_builtin F.entry_type_call ?_⟩
 rw [Around.under_plain (weight_type_call_type "set" [x] []) rfl]
 have h1 := F.called_set.notType
 have h2 := F.called_set.canCreate
 have hct := F.typeCall_set_1 x
 repeat (any_goals (first | assumption | wp_step))
 refine codeAny_mono (arp (v := x) (E := E) (R := fun obj s₁ => obj = .ref s.heap.objs.size /\ s₁ = { s with heap := s.heap.push (ir w) }) ⟨rfl, rfl⟩) fun r s₁ hr => ?_
 cases r with
 | error e => exact hr
 | ok fl =>
  cases fl with
  | ret obj =>
   obtain ⟨rfl, rfl⟩ := hr
   have hS : (s.heap.push (ir w)).get? s.heap.objs.size = some (ir w) := Heap.get?_push_size _ rfl
   have hT : Shared.TypeIs { s with heap := s.heap.push (ir w) } (.ref s.heap.objs.size) "set" := ⟨_, hS, rfl⟩
   have hli := F.called_set.init.lookup
   have hbi := F.called_set.init.bind (.ref s.heap.objs.size)
   repeat (any_goals (first | assumption | wp_step))
   refine codeAny_mono (codeAny_call_builtin (R := wants (fun r s₂ => r = .none /\ R s₂) E) F.called_set.init.plain F.entry_set_init (check_set_init_1 hT ?_)) fun r₂ s₂ hr₂ => ?_
   . unfold Builtin.«set.__init__» noKeywords
     generalize hUF : Builtin.Frozenset.updateFrom = UF at hup ⊢
     unfold ir at hS hT hup ⊢
     wp_walk
     exact wpAny_mono hup (fun _ s' hr => wpAny_pure ⟨rfl, hr⟩) (fun e s' he => he)
   . cases r₂ with
     | error e => exact hr₂
     | ok fl₂ =>
      cases fl₂ with
      | ret r =>
       obtain ⟨rfl, hq⟩ := hr₂
       repeat (any_goals (first | assumption | wp_step))
       exact h _ hq
      | _ => exact hr₂.elim
  | _ => exact hr.elim
end
open PyProof.Rows (F.entry_set_update_loop F.plain_set_update_loop)
section
variable {prog : Program} {w : World} {K : Type} [DecidableEq K] {knd : KeyKind prog w K} {pk : List K × Addr -> Prop} {A : Around} {E : Value -> Shared -> Prop} {s : Shared}
theorem abz {h h' : Heap} {ks : List K} {p : Addr} {wr : List Addr} (hk : IsTupleKey knd h ks p) (hp : p ∉ wr) (hm : ∀ b o, b ∉ wr -> h.get? b = some o -> h'.get? b = some o) : IsTupleKey knd h' ks p :=
 let ⟨o, items, n, ho, r⟩ := hk; ⟨o, items, n, hm p o hp ho, r⟩
theorem SetH.moved {h h' : Heap} {a : Addr} {S : List K -> Prop} {n : Nat} {wr : List Addr} (hS : SetH knd pk h a S n) (ha : a ∉ wr) (hw : ∀ (b : Addr) (ks : List K), b ∈ wr -> ¬ IsTupleKey knd h ks b)
 (hm : ∀ b o, b ∉ wr -> h.get? b = some o -> h'.get? b = some o) : SetH knd pk h' a S n :=
 let ⟨xs, o, es, ep, t, X, r⟩ := hS
 ⟨xs, o, es, ep, t, ⟨hm a o ha X.get, X.exa, X.dat, X.tab, X.ent, fun x hx => ⟨abz (X.keys x hx).1 (fun hc => hw _ _ hc (X.keys x hx).1) hm, (X.keys x hx).2⟩, X.nod, X.led, X.pla⟩, r⟩
theorem arb (hpk : zq knd pk) {R : Result -> Shared -> Prop} {I : Addr} {fp wr : List Addr} {G : Array GenState -> Array GenState -> Prop} {n : Nat} {P : Nat -> Value -> Prop} {St : Nat -> Shared -> Prop}
 (hu : A.in1.units < cLine) (W : WalksS prog w A.in1 I fp wr G n P St) (a : Addr) (haf : a ∉ fp) (ks : List (List K × Addr)) (hkl : ks.length = n) (hval : ∀ i v x, P i v -> ks[i]? = some x -> v = .ref x.2) (hpx : ∀ x ∈ ks, pk x) (hb : n < 31)
 (hkw : ∀ x ∈ ks, x.2 ∉ wr) (hnk : ∀ i (s : Shared), St i s -> ∀ (b : Addr) (ks : List K), b ∈ wr -> ¬ IsTupleKey knd s.heap ks b) :
 ∀ (k i n' : Nat) (s : Shared), n - i = k -> i <= n -> St i s -> (∀ x ∈ ks, IsTupleKey knd s.heap x.1 x.2) ->
  SetH knd pk s.heap a (fun k' => k' ∈ (ks.take i).map (·.1)) n' -> n' <= i ->
  (∀ s' n'', Moved (a :: wr) G s s' -> SetH knd pk s'.heap a (fun k' => k' ∈ ks.map (·.1)) n'' -> R (.ok (.ret .none)) s') ->
  codeAny (model prog w) A (.builtin "set.update.loop" ⟨[.ref a, .ref I], []⟩) R s := by
 have haw : a ∉ wr := fun h => haf (W.sub _ h)
 have hsub : ∀ b ∈ wr, b ∈ a :: wr := fun b hb => List.mem_cons_of_mem _ hb
 intro k
 induction k with
 | zero =>
  intro i n' s hk hi hst hkeys hS hn' hR
  have hin : i = n := by omega
  subst hin
  refine codeAny_builtin F.entry_set_update_loop ?_
  rw [Around.under_plainId F.plain_set_update_loop _]
  show wpAny _ A.in1 (pyNext (.ref I) >>= _) _ _ s
  refine wpAny_bind (W.done s _ _ hst fun s' hm => ?_)
  show wpAny _ A.in1 (ret Value.none) _ _ s'
  refine wpAny_pure (hR s' n' (hm.mono hsub) ((hS.moved haw (hnk _ s hst) hm.heap).congr fun k => ?_))
  rw [List.take_of_length_le (by omega)]
 | succ k ih =>
  intro i n' s hk hi hst hkeys hS hn' hR
  have hlt : i < n := by omega
  refine codeAny_builtin F.entry_set_update_loop ?_
  rw [Around.under_plainId F.plain_set_update_loop _]
  show wpAny _ A.in1 (pyNext (.ref I) >>= _) _ _ s
  refine wpAny_bind (W.item i s _ _ hlt hst fun v s' hP hst' hm => ?_)
  have lx : i < ks.length := by omega
  have hgx : ks[i]? = some ks[i] := by simp [lx]
  obtain rfl := hval i v _ hP hgx
  have hxm := List.getElem_mem lx
  have hS' := hS.moved haw (hnk _ s hst) hm.heap
  have hkeys' : ∀ x ∈ ks, IsTupleKey knd s'.heap x.1 x.2 := fun x hx => abz (hkeys x hx) (hkw x hx) hm.heap
  show wpAny _ A.in1 (holding [Value.ref ks[i].2] (setAdd a (.ref ks[i].2)) >>= _) _ _ s'
  refine wpAny_bind (wpAny_holding ?_)
  unfold setAdd
  refine wpAny_holding ?_
  refine wpAny_bind (wpAny_pyHash_tuple hu (hkeys' _ hxm) ?_)
  refine aly (s := { s' with toks := s'.toks + (ks[i].1.length + 1) }) hpk hu (hkeys' _ hxm) (hpx _ hxm) hS' (by omega) fun h' n2 b hsb hS2 hn2 => ?_
  obtain ⟨oa, esa, epa, ta, hga, hca, hda, hfa⟩ := hS'.get
  refine wpAny_pure ⟨plainId_quiet F.plain_set_update_loop _, ih (i + 1) n2 _ (by omega) hlt (W.frame _ s' _ _ hst' (Nat.le_add_right _ _) fun b hb o e => ?_) (fun x hx => ajt (hkeys' x hx) hga hda hsb) (hS2.congr fun k => ?_) (by omega) fun s'' n3 hm'' hS'' => ?_⟩
  . rw [hsb.2 b (fun h : b = a => haf (by rw [<- h]; exact hb))]; exact e
  . rw [List.take_add_one, List.map_append, List.mem_append, hgx]; simp
  . refine hR s'' n3 (Moved.trans W.gtrans ((hm.mono hsub).then_heap (Nat.le_add_right _ _) fun b o hb e => ?_) hm'') hS''
    rw [hsb.2 b (fun h : b = a => hb (by rw [h]; exact List.mem_cons_self))]; exact e
theorem aod (hpk : zq knd pk) {id : String} {a l : Addr} {ks : List (List K × Addr)} {items : Array Value} {Q : Unit -> Shared -> Prop} (hh : A.handled = none) (hu : A.in1.units + 1 < cLine) (hS : SetH knd pk s.heap a (fun _ => False) 0)
 (hl : s.heap.IsList l items) (hit : items.toList = ks.map fun x => .ref x.2) (hkeys : ∀ x ∈ ks, IsTupleKey knd s.heap x.1 x.2) (hpx : ∀ x ∈ ks, pk x) (hlen : ks.length < 31)
 (h : ∀ h' tk n', (∀ b o, b ≠ a -> s.heap.get? b = some o -> h'.get? b = some o) -> SetH knd pk h' a (fun k => k ∈ ks.map (·.1)) n' -> Q () { s with heap := h', toks := tk }) :
 wpAny (model prog w) A (Builtin.Frozenset.updateFrom id a (.ref l)) Q E s := by
 have hT : s.TypeIs (.ref l) "list" := let ⟨o, ho, hc, _⟩ := hl; ⟨o, ho, hc⟩
 have hsz : items.size = ks.length := by rw [<- Array.length_toList, hit]; simp
 obtain ⟨oa, esa, epa, ta, hga, hca, hda, hfa⟩ := hS.get
 unfold Builtin.Frozenset.updateFrom
 refine wpAny_bind (je hT F.sub_list_set F.sub_list_frozenset ?_)
 simp only [Bool.false_eq_true, if_false]
 refine wpAny_bind (wpAny_typeOf hT ?_)
 rw [if_neg (by decide)]
 refine wpAny_bind (wpAny_pyIter_list hl ?_)
 refine wpAny_bind (wpAny_runValue ?_)
 have hlt : l < s.heap.objs.size := let ⟨o, ho, _⟩ := hl; Heap.lt_size ho
 have hat : a < s.heap.objs.size := Heap.lt_size hga
 have hla : l ≠ a := by
  rintro rfl
  obtain ⟨o, ho, _, n, hd⟩ := hl
  rw [ho] at hga; cases hga
  rw [hd] at hda; cases hda
 have hneI : l ≠ s.heap.objs.size := Nat.ne_of_lt hlt
 have haf : a ∉ [s.heap.objs.size, l] := by
  simp only [List.mem_cons, List.not_mem_nil, or_false, not_or]
  exact ⟨Nat.ne_of_lt hat, fun e => hla e.symm⟩
 have keep : ∀ b o, s.heap.get? b = some o -> (s.heap.push { cls := .type "list_iterator", data := .fields #[.ref l, .int 0 0] }).get? b = some o := fun b o e => Heap.get?_push_of_some _ e
 refine arb hpk (by omega) ((Walks.list (by simp [hh]) _ l hneI items).toS) a haf ks hsz.symm (fun i v x hv hx => ?_) hpx (by omega) (fun x hx hc => ?_) (fun i s' st b kk hb hkb => ?_) items.size 0 0 _ (by omega) (Nat.zero_le _)
  ⟨⟨_, Heap.get?_push_size _ rfl, rfl, rfl⟩, hl.push _⟩ (fun x hx => abz (wr := []) (hkeys x hx) (by simp) fun b o _ e => keep b o e) ?_ (Nat.le_refl _) ?_
 . have : items.toList[i]? = some v := by simpa using hv
   rw [hit, List.getElem?_map, hx] at this
   exact (Option.some.inj this).symm
 . simp at hc
   obtain ⟨o, _, _, ho, _⟩ := hkeys x hx
   have := Heap.lt_size ho
   rw [hc] at this
   exact Nat.lt_irrefl _ this
 . simp at hb
   subst hb
   obtain ⟨o, _, _, ho, hc, _⟩ := hkb
   obtain ⟨⟨o', ho', hc', _⟩, _⟩ := st
   rw [ho] at ho'; cases ho'
   rw [hc] at hc'
   exact absurd hc' (by decide)
 . refine (hS.moved (wr := []) (by simp) (by simp) fun b o _ e => keep b o e).congr fun k => by simp
 . intro s' n'' hm hS'
   obtain ⟨h', g', d', tk', os'⟩ := s'
   have eg : g' = s.gens := hm.gens
   have ed : d' = s.drawn := hm.drawn
   have eo : os' = s.os := hm.os
   subst eg; subst ed; subst eo
   show wpAny _ _ _ _ _ _
   refine wpAny_pure (h h' tk' n'' (fun b o hb e => ?_) hS')
   refine hm.heap b o ?_ (keep b o e)
   simp only [List.mem_cons, List.not_mem_nil, or_false, not_or]
   exact ⟨hb, Nat.ne_of_lt (Heap.lt_size e)⟩
end
theorem adz {α : Type} : ∀ {l : List α} {i : Nat} (h : i < l.length), (l[i] :: l.eraseIdx i).Perm l
 | x :: l, 0, _ => List.Perm.refl _
 | x :: l, i + 1, h => by
  have ih := adz (l := l) (i := i) (by simpa using h)
  simp only [List.getElem_cons_succ, List.eraseIdx_cons_succ]
  exact (List.Perm.swap x _ _).trans (ih.cons x)
theorem ait {α : Type} (nx : Nat -> Nat) : ∀ (fuel k : Nat) (left : List α) (out : Array α), left.length = fuel -> (pickOrder.go nx fuel k left out).toList.Perm (out.toList ++ left)
 | 0, k, left, out, h => by
  have : left = [] := List.length_eq_zero_iff.mp h
  subst this
  unfold pickOrder.go; simp
 | fuel + 1, k, left, out, h => by
  unfold pickOrder.go
  have hq : nx k % left.length < left.length := Nat.mod_lt _ (by omega)
  rw [List.getElem?_eq_getElem hq]
  dsimp only
  refine (ait nx fuel (k + 1) _ _ (by rw [List.length_eraseIdx]; split <;> omega)).trans ?_
  rw [Array.toList_push, List.append_assoc]
  refine List.Perm.append_left _ ?_
  exact adz hq
theorem amg {α : Type} (nx : Nat -> Nat) (xs : Array α) : (pickOrder nx xs).toList.Perm xs.toList := by
 unfold pickOrder
 simpa using ait nx xs.size 0 xs.toList #[] (by simp)
theorem aea {α : Type} [DecidableEq α] : ∀ {l1 l2 : List α}, l1.Nodup -> l1 ⊆ l2 -> l2.length <= l1.length -> ∀ x ∈ l2, x ∈ l1
 | [], l2, _, _, h, x, hx => by
  have : l2 = [] := List.length_eq_zero_iff.mp (by simpa using h)
  subst this; simp at hx
 | a :: l1, l2, hn, hs, h, x, hx => by
  by_cases e : x = a
  . subst e; exact List.mem_cons_self
  . refine List.mem_cons_of_mem _ ?_
    have ha : a ∈ l2 := hs List.mem_cons_self
    have hn' := List.nodup_cons.mp hn
    refine aea (l2 := l2.erase a) hn'.2 (fun y hy => ?_) ?_ x ((List.mem_erase_of_ne e).mpr hx)
    . exact (List.mem_erase_of_ne (fun (e : y = a) => hn'.1 (by rw [<- e]; exact hy))).mpr (hs (List.mem_cons_of_mem _ hy))
    . rw [List.length_erase_of_mem ha]; simp at h; omega
theorem ag8 : entryFor table "set.__ne__" = some Builtin.«frozenset.__ne__» :=
 entryFor_alias (id' := "frozenset.__ne__") (by kernel_rfl) rfl (by decide +kernel) (by kernel_rfl)
theorem sub_set_frozenset : isSubtype (.type "set") (.type "frozenset") = pure false := by rw [isSubtype_type]; kernel_rfl
section
variable {prog : Program} {w : World} {K : Type} [DecidableEq K] {knd : KeyKind prog w K} {pk : List K × Addr -> Prop} {A : Around} {E : Value -> Shared -> Prop} {s : Shared}
theorem aqy {a : Addr} {xs : List (List K × Addr)} {o : Obj} {es : Array (Int × Value)} {ep : Nat} {t : SetTable} (X : SetX knd pk s.heap a xs o es ep t) {Q : Array (Int × Value) -> Shared -> Prop}
 (h : ∀ l, l.toList.Perm es.toList -> Q l s) : wpAny (model prog w) A (setWalk a) Q E s := by
 unfold setWalk
 refine wpAny_bind (wpAny_setState_of X.get X.dat X.tab.fits ?_)
 dsimp only
 refine wpAny_bind (aqb ?_)
 split
 . exact wpAny_bind (wpAny_askSetting (wpAny_pure (h _ (amg _ _))))
 . rename_i hb
   have hb : bt w = false := by simpa using hb
   split
   . rename_i hd
     have hd : (!t.plain && decide (es.size > 1)) = true := hd
     rw [X.pla] at hd; cases hd
   . refine wpAny_bind ?_
     have : wpAny (model prog w) A (if (!t.led && decide (es.size > 1)) = true then unsupported "set:maker-not-led" else pure ()) (fun _ s' => wpAny (model prog w) A (pure es) Q E s') E s := by
      rw [X.led, hb]
      simp only [Bool.not_false, Bool.not_true, Bool.false_and, Bool.false_eq_true, if_false]
      exact wpAny_pure (wpAny_pure (h es (List.Perm.refl _)))
     exact this
theorem al4 {ks : List K} {a : Addr} {Q : Bool -> Shared -> Prop} (hk : IsTupleKey knd s.heap ks a) (h : Q false s) : wpAny (model prog w) A (Builtin.Frozenset.quietEq (.ref a)) Q E s := by
 unfold Builtin.Frozenset.quietEq
 refine wpAny_bind (wpAny_specialOf hk.typeIs F.slot_tuple_eq.lookup ?_)
 refine wpAny_pure ?_
 have : (some (Value.builtin "tuple.__eq__") == some (Value.builtin "object.__eq__")) = false := by decide
 rw [this]; exact h
theorem aer {a : Addr} {xs : List (List K × Addr)} {o : Obj} {es : Array (Int × Value)} {ep : Nat} {t : SetTable} {h : Heap} (X : SetX knd pk h a xs o es ep t) {e : Int × Value} (he : e ∈ es.toList) : ∃ x ∈ xs, e = ent knd x := by
 rw [X.ent] at he
 obtain ⟨x, hx, rfl⟩ := List.mem_map.mp he
 exact ⟨x, hx, rfl⟩
theorem alu {a b : Addr} {xs ys : List (List K × Addr)} {o o' : Obj} {es es' : Array (Int × Value)} {ep ep' : Nat} {t t' : SetTable} (X : SetX knd pk s.heap a xs o es ep t) (Y : SetX knd pk s.heap b ys o' es' ep' t') {Q : List (Int × Value) -> Shared -> Prop}
 (h : ∀ l : List (Int × Value), l.Perm es.toList -> Q l s) : wpAny (model prog w) A (Builtin.Frozenset.walkUnseen a b) Q E s := by
 unfold Builtin.Frozenset.walkUnseen
 refine wpAny_bind (wpAny_setEntries_of X.get X.dat X.tab.fits ?_)
 refine wpAny_bind (wpAny_setEntries_of Y.get Y.dat Y.tab.fits ?_)
 refine wpAny_bind ?_
 refine wpAny_forIn_list _ (fun rest r s' => r.1 = none /\ s' = s /\ ∀ e ∈ rest, ∃ ks p, e.2 = .ref p /\ IsTupleKey knd s.heap ks p) _ ?_ ?_ _ _ ⟨rfl, rfl, fun e he => ?_⟩
 . rintro e rest r s' ⟨hr, rfl, hall⟩
   obtain ⟨ks, p, hep, hk⟩ := hall e List.mem_cons_self
   obtain ⟨h0, x0⟩ := e
   subst hep
   dsimp only
   refine wpAny_bind (al4 hk ?_)
   simp only [Bool.not_false, if_true]
   unfold Builtin.Frozenset.walk
   refine wpAny_bind (wpAny_bind (aqy X fun l hl => wpAny_pure ?_))
   exact wpAny_pure (wpAny_pure (h _ hl))
 . rintro ⟨r1, r2⟩ s' ⟨hr, rfl, _⟩
   simp only at hr
   subst hr
   exact wpAny_pure (h _ (List.Perm.refl _))
 . rcases List.mem_append.mp he with he | he
   . obtain ⟨x, hx, rfl⟩ := aer X he
     exact ⟨x.1, x.2, rfl, (X.keys x hx).1⟩
   . obtain ⟨x, hx, rfl⟩ := aer Y he
     exact ⟨x.1, x.2, rfl, (Y.keys x hx).1⟩
theorem aum {id : String} {a b : Addr} {S T : List K -> Prop} {n m : Nat} (hu : A.units < cLine) (hS : SetH knd pk s.heap a S n) (hT : SetH knd pk s.heap b T m) {Q : Bool -> Shared -> Prop}
 (h : ∀ c : Bool, (c = true ↔ n <= m /\ ∀ k, S k -> T k) -> Q c s) : wpAny (model prog w) A (Builtin.Frozenset.subsetOf id a b) Q E s := by
 have hT' := hT
 obtain ⟨xs, o, es, ep, t, X, hm, hn, _⟩ := hS
 obtain ⟨ys, o', es', ep', t', Y, hm', hn', _⟩ := hT
 have h1 := X.size
 have h2 := Y.size
 unfold Builtin.Frozenset.subsetOf Builtin.Frozenset.sizeOf
 refine wpAny_bind (wpAny_bind (wpAny_setEntries_of X.get X.dat X.tab.fits (wpAny_pure ?_)))
 refine wpAny_bind (wpAny_bind (wpAny_setEntries_of Y.get Y.dat Y.tab.fits (wpAny_pure ?_)))
 split
 . exact wpAny_pure (h false (by simp; omega))
 . refine wpAny_bind (wpAny_setEpoch_of X.get X.dat X.tab.fits ?_)
   refine wpAny_bind (alu X Y fun l hl => ?_)
   refine wpAny_bind ?_
   refine wpAny_forIn_list _ (fun rest r s' => r.1 = none /\ s' = s /\ (∀ e ∈ rest, ∃ x ∈ xs, e = ent knd x) /\ ∀ x ∈ xs, ent knd x ∈ rest \/ T x.1) _ ?_ ?_ _ _ ⟨rfl, rfl, fun e he => aer X (hl.mem_iff.mp he), fun x hx => .inl (hl.mem_iff.mpr (by rw [X.ent]; exact List.mem_map.mpr ⟨x, hx, rfl⟩))⟩
   . rintro e rest r s' ⟨hr, rfl, hall, hdone⟩
     obtain ⟨x, hx, rfl⟩ := hall e List.mem_cons_self
     show wpAny _ _ (holding [.ref x.2] (setFind b (.ref x.2) (tupleKeyHash knd x.1)) >>= _) _ _ _
     refine wpAny_bind (wpAny_holding (aqs hu (X.keys x hx).1 hT' fun r hr => ?_))
     cases r with
     | none =>
      simp only [Option.isNone_none, if_true]
      refine wpAny_pure (wpAny_pure (h false ?_))
      simp only [Bool.false_eq_true, false_iff, not_and, Classical.not_forall]
      intro _
      refine ⟨x.1, (hm x.1).mpr (List.mem_map.mpr ⟨x, hx, rfl⟩), fun hc => ?_⟩
      have := hr.mpr hc
      cases this
     | some i =>
      simp only [Option.isNone_some, Bool.false_eq_true, if_false]
      unfold Builtin.Frozenset.unchanged
      refine wpAny_bind (wpAny_bind (wpAny_setEpoch_of X.get X.dat X.tab.fits ?_))
      rw [if_neg (by simp)]
      refine wpAny_pure (wpAny_pure ⟨rfl, rfl, fun e he => hall e (List.mem_cons_of_mem _ he), fun y hy => ?_⟩)
      rcases hdone y hy with hc | hc
      . rcases List.mem_cons.mp hc with hc | hc
        . right
          have hTx : T x.1 := hr.mp rfl
          have e2 : y.2 = x.2 := by have := congrArg Prod.snd hc; unfold ent at this; injection this
          have : y.1 = x.1 := IsTupleKey.inj (X.keys y hy).1 (by rw [e2]; exact (X.keys x hx).1)
          rw [this]; exact hTx
        . exact .inl hc
      . exact .inr hc
   . rintro ⟨r1, r2⟩ s' ⟨hr, rfl, _, hdone⟩
     simp only at hr
     subst hr
     refine wpAny_pure (h true ?_)
     simp only [true_iff]
     refine ⟨by omega, fun k hk => ?_⟩
     obtain ⟨x, hx, rfl⟩ := List.mem_map.mp ((hm k).mp hk)
     rcases hdone x hx with hc | hc
     . simp at hc
     . exact hc
theorem aw6 {a b : Addr} {S T : List K -> Prop} {n m : Nat} (hu : A.in1.units < cLine) (hu0 : A.units < cLine) (hS : SetH knd pk s.heap a S n) (hT : SetH knd pk s.heap b T m) {Q : Value -> Shared -> Prop}
 (h : ∀ c : Bool, (c = true ↔ ¬ ∀ k, S k ↔ T k) -> Q (.bool c) s) : wpAny (model prog w) A (compareOp .NotEq (.ref a) (.ref b)) Q E s := by
 show wpAny _ _ (richCompare .NotEq (.ref a) (.ref b)) _ _ _
 refine wpAny_richCompare_same_room (op := .NotEq) hS.typeIs hT.typeIs F.slot_set_ne (wpAny_call_entry F.slot_set_ne hS.typeIs ag8 ?_ (F.args_set_ne_2 _ _)) hu0
 have fin : ∀ c : Bool, (c = true ↔ ∀ k, S k ↔ T k) -> Q (.bool !c) s := fun c hc => h _ (by cases c <;> simp_all)
 have hS' := hS
 have hT' := hT
 obtain ⟨xs, o, es, ep, t, X, hm, hn, _⟩ := hS'
 obtain ⟨ys, o', es', ep', t', Y, hm', hn', _⟩ := hT'
 have h1 := X.size
 have h2 := Y.size
 have same : (∀ k, S k ↔ T k) -> n = m := fun e => by
  have : (xs.map (·.1)).Perm (ys.map (·.1)) := (List.perm_ext_iff_of_nodup X.nod Y.nod).mpr fun k => by rw [<- hm k, <- hm' k]; exact e k
  have := this.length_eq
  simp at this; omega
 have back : n = m -> (∀ k, S k -> T k) -> ∀ k, S k ↔ T k := fun e hs k => ⟨hs k, fun hk => (hm k).mpr (aea X.nod (fun k hk => (hm' k).mp (hs k ((hm k).mpr hk))) (by simp; omega) k ((hm' k).mp hk))⟩
 show wpAny _ _ (Builtin.Frozenset.slot1 "__ne__" ⟨[.ref a, .ref b], []⟩ >>= _) _ _ _
 unfold Builtin.Frozenset.slot1 slotArgs
 simp only [List.isEmpty_nil, Bool.not_true, Bool.false_eq_true, ↓reduceIte, bind_assoc, List.length_cons, List.length_nil, bne_self_eq_false]
 refine wpAny_bind (wpAny_pure ?_)
 try dsimp only
 refine wpAny_bind (wpAny_pure ?_)
 try dsimp only
 refine wpAny_bind (a0i hT.typeIs ?_)
 simp only [Bool.not_true, Bool.false_eq_true, ↓reduceIte]
 refine wpAny_bind (m := Builtin.Frozenset.addrOf (.ref a)) (wpAny_pure ?_)
 refine wpAny_bind (m := Builtin.Frozenset.addrOf (.ref b)) (wpAny_pure ?_)
 unfold Builtin.Frozenset.sizeOf
 refine wpAny_bind (wpAny_bind (wpAny_setEntries_of X.get X.dat X.tab.fits (wpAny_pure ?_)))
 refine wpAny_bind (wpAny_bind (wpAny_setEntries_of Y.get Y.dat Y.tab.fits (wpAny_pure ?_)))
 refine wpAny_bind ?_
 split
 . rename_i hne
   refine wpAny_pure ?_
   refine wpAny_pure ⟨_, rfl, (fun e => nomatch e), fin false ?_⟩
   simp only [Bool.false_eq_true, false_iff]
   intro e
   have := same e
   simp at hne; omega
 . rename_i hne
   have hnm : n = m := by simp at hne; omega
   refine wpAny_bind (wpAny_bind (wpAny_isInstance hS.typeIs sub_set_frozenset ?_))
   refine wpAny_pure ?_
   simp only [Bool.false_eq_true, ↓reduceIte]
   refine aum hu hS hT fun c hc => ?_
   exact wpAny_pure ⟨_, rfl, (fun e => nomatch e), fin c (hc.trans ⟨fun e => back hnm e.2, fun e => ⟨by omega, fun k => (e k).mp⟩⟩)⟩
end
open PySem L2
def SmK (k : List Key) : Prop := ∃ i j : Int, -1 <= i /\ i < 9 /\ -1 <= j /\ j < 9 /\ k = [.inl i, .inl j]
def aga (i j : Int) : Int := reduceHash (Builtin.Tuple.tupleHashOf [hashInt i, hashInt j])
def rgI : List Int := [-1, 0, 1, 2, 3, 4, 5, 6, 7, 8]
theorem apn : (rgI.all fun i => rgI.all fun j => rgI.all fun i' => rgI.all fun j' => (aga i j != aga i' j') || (i == i' && j == j')) = true := by decide +kernel
theorem adw {i : Int} (h1 : -1 <= i) (h2 : i < 9) : i ∈ rgI := by
 have : i = -1 \/ i = 0 \/ i = 1 \/ i = 2 \/ i = 3 \/ i = 4 \/ i = 5 \/ i = 6 \/ i = 7 \/ i = 8 := by omega
 unfold rgI
 simp only [List.mem_cons, List.not_mem_nil, or_false]
 exact this
theorem amz {P : Program} {w : World} {k k' : List Key} (h : SmK k) (h' : SmK k') (e : tupleKeyHash (ak P w) k = tupleKeyHash (ak P w) k') : k = k' := by
 obtain ⟨i, j, a1, a2, a3, a4, rfl⟩ := h
 obtain ⟨i', j', b1, b2, b3, b4, rfl⟩ := h'
 have e : aga i j = aga i' j' := e
 have := List.all_eq_true.mp (List.all_eq_true.mp (List.all_eq_true.mp (List.all_eq_true.mp apn i (adw a1 a2)) j (adw a3 a4)) i' (adw b1 b2)) j' (adw b3 b4)
 rw [e] at this
 simp at this
 rw [this.1, this.2]
section
variable {prog : Program} {w : World} {A : Around} {E : Value -> Shared -> Prop} {s : Shared}
theorem ajv {ks : List Key} {a : Addr} {Q : Bool -> Shared -> Prop} (hk : IsTupleKey (ak prog w) s.heap ks a) (h : Q false s) : wpAny (model prog w) A (Builtin.Dict.quietEq (.ref a)) Q E s := by
 unfold Builtin.Dict.quietEq
 refine wpAny_bind (wpAny_specialOf hk.typeIs F.slot_tuple_eq.lookup ?_)
 refine wpAny_pure ?_
 have : (some (Value.builtin "tuple.__eq__") == some (Value.builtin "object.__eq__")) = false := by decide
 rw [this]; exact h
theorem ao7 {xs : List (List Key × Addr × Value)} (hn : (xs.map (·.1)).Nodup) (hs : ∀ x ∈ xs, SmK x.1) {x : List Key × Addr × Value} (hx : x ∈ xs) :
 ((xs.map (entryOfKey (tupleKind (ak prog w)))).filter (·.hash == tupleKeyHash (ak prog w) x.1)).length <= 1 := by
 induction xs with
 | nil => simp
 | cons y ys ih =>
  rw [List.map_cons, List.nodup_cons] at hn
  rw [List.map_cons]
  by_cases hy : tupleKeyHash (ak prog w) y.1 = tupleKeyHash (ak prog w) x.1
  . have e := amz (hs y List.mem_cons_self) (hs x hx) hy
    have none : (ys.map (entryOfKey (tupleKind (ak prog w)))).filter (·.hash == tupleKeyHash (ak prog w) x.1) = [] := by
     rw [List.filter_eq_nil_iff]
     intro z hz hq
     obtain ⟨z', hz', rfl⟩ := List.mem_map.mp hz
     have hq : tupleKeyHash (ak prog w) z'.1 = tupleKeyHash (ak prog w) x.1 := eq_of_beq (show (tupleKeyHash (ak prog w) z'.1 == tupleKeyHash (ak prog w) x.1) = true from hq)
     have := amz (hs z' (List.mem_cons_of_mem _ hz')) (hs x hx) hq
     exact hn.1 (List.mem_map.mpr ⟨z', hz', this.trans e.symm⟩)
    rw [List.filter_cons, none]
    split <;> simp
  . rw [List.filter_cons, if_neg (by show ¬ ((tupleKeyHash (ak prog w) y.1 == tupleKeyHash (ak prog w) x.1) = true); simpa using hy)]
    rcases List.mem_cons.mp hx with rfl | hx
    . exact absurd rfl hy
    . exact ih hn.2 (fun z hz => hs z (List.mem_cons_of_mem _ hz)) hx
theorem ah9 {id : String} {d : Addr} {o : Obj} {es : Array DictEntry} {ep : Nat} {xs : List (List Key × Addr × Value)} {Q : Array DictEntry -> Shared -> Prop} (ho : s.heap.get? d = some o) (hd : o.data = .dict es ep)
 (he : es.toList = xs.map (entryOfKey (tupleKind (ak prog w)))) (hk : ∀ x ∈ xs, IsTupleKey (ak prog w) s.heap x.1 x.2.1) (hn : (xs.map (·.1)).Nodup) (hs : ∀ x ∈ xs, SmK x.1) (h : Q es s) :
 wpAny (model prog w) A (Builtin.Dict.entriesForEmpty id d) Q E s := by
 unfold Builtin.Dict.entriesForEmpty
 refine wpAny_bind (wpAny_dictEntries ho hd ?_)
 refine wpAny_bind ?_
 rw [<- Array.forIn_toList]
 refine wpAny_forIn_list _ (fun rest _ s' => s' = s /\ ∀ e ∈ rest, ∃ x ∈ xs, e = entryOfKey (tupleKind (ak prog w)) x) _ ?_ ?_ _ _ ⟨rfl, fun e hm => ?_⟩
 . rintro e rest r s' ⟨rfl, hall⟩
   obtain ⟨x, hx, rfl⟩ := hall e List.mem_cons_self
   show wpAny _ _ (Builtin.Dict.quietEq (.ref x.2.1) >>= _) _ _ _
   refine wpAny_bind (ajv (hk x hx) ?_)
   simp only [Bool.not_false, if_true]
   have h1 := ao7 (prog := prog) (w := w) hn hs hx
   rw [if_neg (by
    intro hc
    have : (es.filter (·.hash == (entryOfKey (tupleKind (ak prog w)) x).hash)).size = ((xs.map (entryOfKey (tupleKind (ak prog w)))).filter (·.hash == tupleKeyHash (ak prog w) x.1)).length := by
     rw [<- he, <- Array.length_toList, Array.toList_filter]; rfl
    omega)]
   exact wpAny_pure ⟨rfl, fun e he => hall e (List.mem_cons_of_mem _ he)⟩
 . rintro b s' ⟨rfl, _⟩
   exact wpAny_pure h
 . rw [he] at hm
   obtain ⟨x, hx, rfl⟩ := List.mem_map.mp hm
   exact ⟨x, hx, rfl⟩
theorem axe {h h' : Heap} {ks : List Key} {p a : Addr} (x : IsTupleKey (ak prog w) h ks p) (hs : ∀ b o, h.get? b = some o -> h'.get? b = some o) : IsTupleKey (ak prog w) h' ks p :=
 let ⟨o, items, n, ho, r⟩ := x; ⟨o, items, n, hs p o ho, r⟩
theorem ay8 {d : Addr} {xs : List (List Key × Addr × Value)} {Q : Value -> Shared -> Prop} (hds : (d == sysModules) = false) (hd : s.heap.DictOfH (tupleKind (ak prog w)) d xs) (hs : ∀ x ∈ xs, SmK x.1) (hsz : xs.length <= sizeLine)
 (h : ∀ h', h'.DictOfH (tupleKind (ak prog w)) s.heap.objs.size xs -> (∀ b o, s.heap.get? b = some o -> h'.get? b = some o) -> Q (.ref s.heap.objs.size) { s with heap := h' }) :
 wpAny (model prog w) A (call (.type "dict") [.ref d]) Q E s := by
 refine callType_codes (Q₁ := fun obj s₁ => obj = .ref s.heap.objs.size /\ s₁ = { s with heap := s.heap.push { cls := .type "dict", data := .dict #[] } }) F.kt_called_dict (F.kt_typeCall_dict_1 _) F.entry_dict_init (kt_code_dict_new _ ⟨rfl, rfl⟩) ?_
 rintro obj s₁ ⟨rfl, rfl⟩
 have hdT := hd.typeIs
 obtain ⟨od, esd, epd, hod, hcd, hdd, hed, hxd, hnd⟩ := hd
 have keep : ∀ b o, s.heap.get? b = some o -> (s.heap.push { cls := .type "dict", data := .dict #[] }).get? b = some o := fun b o e => Heap.get?_push_of_some _ e
 have hnew : (s.heap.push { cls := .type "dict", data := .dict #[] }).get? s.heap.objs.size = some { cls := .type "dict", data := .dict #[] } := Heap.get?_push_size _ rfl
 have hTn : Shared.TypeIs { s with heap := s.heap.push { cls := .type "dict", data := .dict #[] } } (.ref s.heap.objs.size) "dict" := ⟨_, hnew, rfl⟩
 have hT' : Shared.TypeIs { s with heap := s.heap.push { cls := .type "dict", data := .dict #[] } } (.ref d) "dict" := ⟨od, keep _ _ hod, hcd.1⟩
 have hod' := keep _ _ hod
 have hdo : s.heap.objs.size ≠ d := fun e => absurd (Heap.lt_size hod) (by rw [e]; exact Nat.lt_irrefl _)
 have hlen : esd.size = xs.length := size_of_entries hed
 refine ⟨hTn, F.args_dict_init_2 _ _, ?_⟩
 unfold Builtin.«dict.__init__»
 refine wpAny_bind ?_
 unfold Builtin.Dict.selfAndRest
 refine wpAny_bind (wpAny_notOrdered_dict hTn ?_)
 show wpAny _ _ (pure (s.heap.objs.size, [Value.ref d])) _ _ _
 refine wpAny_pure ?_
 show wpAny _ _ (Builtin.Dict.updateFrom "dict.__init__" s.heap.objs.size (.ref d) [] .none) _ _ _
 unfold Builtin.Dict.updateFrom
 refine wpAny_bind (wpAny_typeOf hT' ?_)
 rw [if_neg (by decide)]
 refine wpAny_bind ?_
 unfold Builtin.Dict.merge
 refine wpAny_bind ?_
 unfold Builtin.Dict.readDirectly
 refine wpAny_bind (wpAny_isInstance hT' isSubtype_dict_dict ?_)
 simp only [Bool.not_true, Bool.false_eq_true, if_false]
 refine wpAny_bind (wpAny_specialOf hT' F.slot_dict_iter.lookup (wpAny_pure ?_))
 simp only [beq_self_eq_true, if_true]
 refine wpAny_bind (wpAny_pure ?_)
 unfold Builtin.Dict.mergeDict
 rw [if_neg (by simpa using hdo)]
 unfold Builtin.Dict.showsAll
 rw [if_neg (by rw [hds]; exact Bool.false_ne_true)]
 refine wpAny_bind (wpAny_pure ?_)
 refine wpAny_bind (wpAny_dictEntries hod' hdd ?_)
 have kk : ∀ {h' : Heap}, (∀ b o, s.heap.get? b = some o -> h'.get? b = some o) -> ∀ x ∈ xs, (tupleKind (ak prog w)).is h' x.1 x.2.1 := fun hk x hx => axe (a := d) (hxd x hx) hk
 have emp : esd = #[] -> ∀ s', s' = { s with heap := s.heap.push { cls := .type "dict", data := .dict #[] } } -> wpAny (model prog w) A.in1.in1 (Builtin.Dict.addKeywords s.heap.objs.size [] >>= fun _ => ret Value.none) (fun fin s' => match fin with | .done f => wants (fun r s₂ => r = Value.none /\ Q (.ref s.heap.objs.size) s₂) E (.ok f) s' | .again c' => c'.quiet = true /\ codeAny (model prog w) A.in1 c' (wants (fun r s₂ => r = Value.none /\ Q (.ref s.heap.objs.size) s₂) E) s') (fun e s' => wants (fun r s₂ => r = Value.none /\ Q (.ref s.heap.objs.size) s₂) E (.error e) s') s' := fun he s' hs' => by
  have hx0 : xs = [] := List.length_eq_zero_iff.mp (by rw [<- hlen, he]; rfl)
  subst hs'
  refine wpAny_bind (wpAny_pure (wpAny_pure ⟨rfl, h _ ⟨_, #[], 0, hnew, ⟨rfl, rfl, rfl⟩, rfl, ?_, kk keep, hnd⟩ keep⟩))
  rw [hx0]; rfl
 dsimp only
 split
 . refine wpAny_bind (wpAny_dictEntries hnew rfl ?_)
   rw [if_pos (show (#[] : Array DictEntry).isEmpty = true from rfl)]
   refine wpAny_bind (ah9 hod' hdd hed (kk keep) hnd hs ?_)
   split
   . refine wpAny_bind (wpAny_updateDictKeysTo hnew rfl (wpAny_pure ?_) (by show esd.size <= _; omega))
     have keep2 : ∀ b o, s.heap.get? b = some o -> ((s.heap.push { cls := .type "dict", data := .dict #[] }).update s.heap.objs.size (Obj.mapDictKeys fun _ => esd)).get? b = some o := fun b o e => by
      rw [Heap.get?_update_other _ _ (Ne.symm (Nat.ne_of_lt (Heap.lt_size e)))]; exact keep b o e
     refine wpAny_bind (wpAny_pure (wpAny_pure ⟨rfl, h _ ⟨_, esd, 0 + 1, Heap.get?_update_self _ hnew (Obj.isFreed_of_dict (Obj.data_mapDictKeys rfl _)), ⟨rfl, rfl, rfl⟩, Obj.data_mapDictKeys rfl _, hed, kk keep2, hnd⟩ keep2⟩))
   . rename_i hne
     exact wpAny_pure (emp (Array.isEmpty_iff.mp (by simpa using hne)) _ rfl)
 . rename_i hf
   have he : esd = #[] := by
    apply Classical.byContradiction
    intro hne
    have hx : xs ≠ [] := fun e => hne (Array.eq_empty_of_size_eq_zero (by rw [hlen, e]; rfl))
    obtain ⟨x, ys, rfl⟩ := List.exists_cons_of_ne_nil hx
    have hall : (esd.all fun e => (keyPart e.key).isSome) = true := by
     simp only [Bool.not_eq_true', Bool.not_eq_false, Bool.and_eq_true] at hf
     exact hf.2
    rw [<- Array.all_toList, hed, List.map_cons, List.all_cons, Bool.and_eq_true] at hall
    exact Bool.noConfusion (hall.1 : (keyPart (.ref x.2.1)).isSome = true)
   refine wpAny_bind (wpAny_dictEpoch hod' hdd ?_)
   refine wpAny_bind (wpAny_dictEntries hod' hdd ?_)
   refine wpAny_bind ?_
   rw [he, Std.Legacy.Range.forIn_eq_forIn_range']
   simp only [Std.Legacy.Range.size, List.size_toArray, List.length_nil, Nat.sub_zero, Nat.zero_add, Nat.sub_self, Nat.div_one, List.range'_zero, List.forIn_nil]
   exact wpAny_pure (wpAny_pure (emp he _ rfl))
end
section
variable {prog : Program} {w : World} {A : Around} {E : Value -> Shared -> Prop} {s : Shared}
inductive HitsH (A : Around) (s : Shared) (kb : List (List Key × Addr × Value)) : List (List Key × Addr × Value) -> Bool -> Prop
 | nil : HitsH A s kb [] true
 | miss {k : List Key} {p : Addr} {v : Value} {r : List (List Key × Addr × Value)} : atKey kb k = none -> HitsH A s kb ((k, p, v) :: r) false
 | hit {k : List Key} {p q : Addr} {v y : Value} {r : List (List Key × Addr × Value)} {e b : Bool} : atKey kb k = some (q, y) -> SeqAt.EqAt A s v y e -> HitsH A s kb r b -> HitsH A s kb ((k, p, v) :: r) (e && b)
theorem HitsH.inv {kb : List (List Key × Addr × Value)} {k : List Key} {p : Addr} {v : Value} {r : List (List Key × Addr × Value)} {b : Bool} (h : HitsH A s kb ((k, p, v) :: r) b) :
 (atKey kb k = none /\ b = false) \/ ∃ q y e b', atKey kb k = some (q, y) /\ SeqAt.EqAt A s v y e /\ HitsH A s kb r b' /\ b = (e && b') := by
 cases h with
 | miss hn => exact .inl ⟨hn, rfl⟩
 | hit hy he hr => exact .inr ⟨_, _, _, _, hy, he, hr, rfl⟩
theorem aoa {b p : Addr} {k : List Key} {v : Value} {kb rest : List (List Key × Addr × Value)} {r : Bool} {Q : Bool -> Shared -> Prop} {g : Option Nat -> Sem Bool} (room : A.units < cLine) (key : IsTupleKey (ak prog w) s.heap k p) (db : s.heap.DictOfH (tupleKind (ak prog w)) b kb)
 (gn : g none = pure false) (gs : ∀ j, g (some j) = (do let l <- dictEntries b; match l[j]? with | some f => holding [f.val] (eqBool v f.val) | _ => unsupported "internal:dict-equal"))
 (hits : HitsH A s kb ((k, p, v) :: rest) r) (no : r = false -> Q false s) (yes : HitsH A s kb rest r -> Q true s) :
 wpAny (model prog w) A (dictFind b (.ref p) (tupleKeyHash (ak prog w) k) >>= g) Q E s := by
 obtain ⟨o, ents, ep, at1, _, at2, at3, at4, at5⟩ := db
 refine wpAny_bind (wpAny_dictFind_heap (knd := tupleKind (ak prog w)) room key at1 at2 at3 at4 at5 (fun none => ?_) fun j pv some' => ?_)
 . rw [gn]
   refine wpAny_pure (no ?_)
   rcases hits.inv with ⟨_, e⟩ | ⟨_, _, _, _, z, _⟩
   . exact e
   . rw [atKey_none_of_get none] at z; cases z
 . rw [gs]
   have there := atKey_of_get at5 some'
   refine wpAny_bind (wpAny_dictEntries at1 at2 ?_)
   rw [show ents[j]? = some (entryOfKey (tupleKind (ak prog w)) (k, pv)) by rw [entry_at at3, some']; rfl]
   rcases hits.inv with ⟨z, _⟩ | ⟨q, y, c, d, z, same, more, e⟩
   . rw [there] at z; cases z
   . have : pv = (q, y) := Option.some.inj (there.symm.trans z)
     subst this
     refine wpAny_holding (same prog w _ _ ?_)
     cases c
     . exact no e
     . exact yes (by rw [e]; exact more)
theorem ay9 {id : String} {a b : Addr} {ka kb : List (List Key × Addr × Value)} {r : Bool} {Q : Bool -> Shared -> Prop} (room : A.units < cLine) (na : (a == sysModules) = false) (nb : (b == sysModules) = false)
 (da : s.heap.DictOfH (tupleKind (ak prog w)) a ka) (db : s.heap.DictOfH (tupleKind (ak prog w)) b kb) (hits : ka.length = kb.length -> HitsH A s kb ka r) (post : Q (ka.length == kb.length && r) s) :
 wpAny (model prog w) A (Builtin.Dict.samePairs id a b) Q E s := by
 have db' := db
 obtain ⟨o, ents, ep, at1, _, at2, at3, at4, at5⟩ := da
 obtain ⟨o', ents', ep', at1', _, at2', at3', at4', at5'⟩ := db
 have la := size_of_entries at3
 have lb := size_of_entries at3'
 unfold Builtin.Dict.samePairs
 have sa : ∀ {d : Addr} {R : Unit -> Shared -> Prop}, (d == sysModules) = false -> R () s -> wpAny (model prog w) A (Builtin.Dict.showsAll d) R E s := fun hd hR => by
  unfold Builtin.Dict.showsAll; rw [hd]; exact wpAny_pure hR
 refine wpAny_bind (sa na (wpAny_bind (sa nb (wpAny_bind (wpAny_dictEntries at1 at2 (wpAny_bind (wpAny_dictEntries at1' at2' ?_)))))))
 rw [la, lb]
 split
 . rename_i ne
   have : (ka.length == kb.length) = false := by simpa using ne
   rw [this] at post
   exact wpAny_bind (wpAny_rule (wpAny_pure post))
 . rename_i eq
   have eq : ka.length = kb.length := by simpa using eq
   have post : Q r s := by simpa [eq] using post
   refine wpAny_bind (wpAny_dictEpoch at1 at2 (wpAny_bind ?_))
   refine upto (fun i q z => z = s /\ q = (none, ()) /\ HitsH A s kb (ka.drop i) r) (fun i q z lt inv => ?_) (fun q z inv => ?_) ⟨rfl, rfl, hits eq⟩
   . obtain ⟨rfl, rfl, inv⟩ := inv
     rw [List.drop_eq_getElem_cons lt] at inv
     refine wpAny_bind (wpAny_dictEntries at1 at2 ?_)
     rw [show ents[i]? = some (entryOfKey (tupleKind (ak prog w)) ka[i]) by rw [entry_at at3]; simp [lt]]
     refine wpAny_bind (wpAny_holding (aoa (v := ka[i].2.2) room (at4 _ (List.getElem_mem lt)) db' rfl (fun _ => rfl) inv (fun e => ?_) fun more => ?_))
     . subst e; exact wpAny_pure (wpAny_pure post)
     . refine wpAny_bind (wpAny_dictEpoch at1 at2 ?_)
       rw [bne_self_eq_false]
       exact wpAny_pure ⟨rfl, rfl, more⟩
   . obtain ⟨rfl, rfl, inv⟩ := inv
     rw [List.drop_length] at inv
     cases inv
     exact wpAny_pure post
theorem eqH {a b : Addr} {ka kb : List (List Key × Addr × Value)} {r : Bool} {Q : Value -> Shared -> Prop} (na : (a == sysModules) = false) (nb : (b == sysModules) = false)
 (da : s.heap.DictOfH (tupleKind (ak prog w)) a ka) (db : s.heap.DictOfH (tupleKind (ak prog w)) b kb) (room : A.units + 1 < cLine) (hits : ka.length = kb.length -> HitsH A.in1 s kb ka r) (post : Q (.bool (ka.length == kb.length && r)) s) :
 wpAny (model prog w) A (richCompare .Eq (.ref a) (.ref b)) Q E s := by
 have two : ∀ {R : Value × Value -> Shared -> Prop}, R (.ref a, .ref b) s -> wpAny (model prog w) A.in1 (Builtin.Dict.dictSlotArgs "__eq__" ⟨[.ref a, .ref b], []⟩) R E s := fun hR => wpAny_bind (wpAny_notOrdered_dict da.typeIs (wpAny_pure hR))
 have body : wpAny (model prog w) A.in1 (Builtin.«dict.__eq__» ⟨[.ref a, .ref b], []⟩) (fun f z => ∃ v, f = .done (.ret v) /\ v ≠ .notImplemented /\ Q v z) E s := by
  refine wpAny_bind (two (wpAny_bind (wpAny_isInstance (T := "dict") db.typeIs PySem.F.sub_dict_dict ?_)))
  refine wpAny_bind (wpAny_pure (wpAny_bind (wpAny_pure (wpAny_bind (ay9 (show A.units + 1 < cLine from room) na nb da db hits (wpAny_pure ⟨_, rfl, (fun z => nomatch z), ?_⟩))))))
  simpa using post
 exact wpAny_richCompare_same_room (op := .Eq) da.typeIs db.typeIs PySem.F.slot_dict_eq (wpAny_call_entry PySem.F.slot_dict_eq da.typeIs PySem.F.entry_dict_eq body (PySem.F.args_dict_eq_2 _ _)) (by omega)
theorem afq {P P' : Program} {w w' : World} : ∀ {ks : List Key} {vs : List Value}, ItemsAre (ak P w) ks vs -> ItemsAre (ak P' w') ks vs
 | _, _, .nil => .nil
 | _, _, .cons a b => .cons a (afq b)
theorem aho {P P' : Program} {w w' : World} {h : Heap} {d : Addr} {xs : List (List Key × Addr × Value)} (hd : h.DictOfH (tupleKind (ak P w)) d xs) (hi : ∀ x ∈ xs, ∀ k ∈ x.1, ∃ i, k = Sum.inl i) : h.DictOfH (tupleKind (ak P' w')) d xs := by
 obtain ⟨o, es, ep, h1, h2, h3, h4, h5, h6⟩ := hd
 refine ⟨o, es, ep, h1, h2, h3, ?_, fun x hx => ?_, h6⟩
 . rw [h4]
   refine List.map_congr_left fun x hx => ?_
   have : x.1.map (ak P w).hash = x.1.map (ak P' w').hash := List.map_congr_left fun k hk => by
    obtain ⟨i, rfl⟩ := hi x hx k hk; rfl
   show DictEntry.mk (reduceHash (Builtin.Tuple.tupleHashOf (x.1.map (ak P w).hash))) _ _ = DictEntry.mk (reduceHash (Builtin.Tuple.tupleHashOf (x.1.map (ak P' w').hash))) _ _
   rw [this]
 . obtain ⟨o', its, n, g1, g2, g3, g4⟩ := h5 x hx
   refine ⟨o', its, n, g1, g2, g3, ?_⟩
   exact afq g4
theorem af2 {P : Program} {a b : Addr} {ka kb : List (List Key × Addr × Value)} {r : Bool} (ha : (a == sysModules) = false) (hb : (b == sysModules) = false) (hab : a ≠ b)
 (da : s.heap.DictOfH (tupleKind (ak P w)) a ka) (db : s.heap.DictOfH (tupleKind (ak P w)) b kb) (ia : ∀ x ∈ ka, ∀ k ∈ x.1, ∃ i, k = Sum.inl i) (ib : ∀ x ∈ kb, ∀ k ∈ x.1, ∃ i, k = Sum.inl i)
 (hu : A.units + 1 < cLine) (hits : ka.length = kb.length -> HitsH A.in1 s kb ka r) : SeqAt.EqAt A s (.ref a) (.ref b) (ka.length == kb.length && r) := by
 intro prog' w' E Q hq
 unfold eqBool
 try with_reducible refine wpAny_holding ?_
 show wpAny _ _ (if (Value.ref a == Value.ref b) = true then _ else _) Q E s
 rw [if_neg (by intro h; have := eq_of_beq h; injection this with this; exact hab this)]
 exact wpAny_bind (eqH ha hb (aho da ia) (aho db ib) hu hits (wpAny_truthy_bool hq))
end
end STb
namespace Sm
open PySem L2
open MW (Ex Exs OEx Itr Stm Stms Lv Tg Res Store MO Wld Cp Op2 Blt Bm Kx Src)
def jg (f : Dv -> Dv -> Option Bool) (as bs : List Dv) (j : Nat) : Bool := match as[j]?, bs[j]? with
 | some a, some b => (f a b).getD false
 | _, _ => false
theorem j9 {f : Dv -> Dv -> Option Bool} : ∀ {as bs : List Dv} {r : Bool}, MW.eqL f as bs = some r -> (∀ (j : Nat) a b, as[j]? = some a -> bs[j]? = some b -> ∃ c, f a b = some c) /\
 r = ((List.range (min as.length bs.length)).all (jg f as bs) && as.length == bs.length)
 | [], [], r, h => by cases h; exact ⟨fun j a b e => by simp at e, by simp⟩
 | [], b :: bs, r, h => by cases h; exact ⟨fun j a b e => by simp at e, by simp⟩
 | a :: as, [], r, h => by cases h; exact ⟨fun j a b _ e => by simp at e, by simp⟩
 | a :: as, b :: bs, r, h => by
  simp only [MW.eqL] at h
  split at h
  . rename_i x y h1 h2
    cases h
    obtain ⟨g1, g2⟩ := j9 h2
    refine ⟨fun j a' b' e1 e2 => ?_, ?_⟩
    . cases j with
      | zero => simp at e1 e2; subst e1 e2; exact ⟨x, h1⟩
      | succ j => exact g1 j a' b' (by simpa using e1) (by simpa using e2)
    . rw [List.length_cons, List.length_cons, Nat.succ_min_succ, List.range_succ_eq_map, List.all_cons, List.all_map]
      have z : jg f (a :: as) (b :: bs) 0 = x := by simp [jg, h1]
      have z2 : (jg f (a :: as) (b :: bs) ∘ Nat.succ) = jg f as bs := by funext j; simp [jg]
      rw [z, z2, g2]
      have z3 : (as.length + 1 == bs.length + 1) = (as.length == bs.length) := by
       by_cases q : as.length = bs.length
       . simp [q]
       . have : ¬ (as.length + 1 = bs.length + 1) := by omega
         simp [q, this]
      rw [z3, Bool.and_assoc]
  . cases h
section
variable {nm : Nm} {W : Wld} {X : Cx} {a b c o : Expr} {a' b' c' o' : Ex} {pos pos' apos : Pos} {ι : Io} {H : Hp} {σ : St} {ρ : En} {M M1 M2 : Store} {x y : Dv} {es : List Expr} {es' : Exs} {K : Fg}
theorem xr {f : Dv -> Dv -> Option Bool} (hf : ∀ x y v r, Rep K ι H x v -> Rep K ι H y v -> f x y = some r -> r = true) : ∀ {as bs : List Dv} {vs : List V} {r : Bool}, RepL K ι H as vs -> RepL K ι H bs vs -> MW.eqL f as bs = some r -> r = true
 | _, _, _, _, .nil, .nil, h => by cases h; rfl
 | _, _, _, _, .cons h1 t1, .cons h2 t2, h => by
  simp only [MW.eqL] at h
  split at h
  . rename_i x y e1 e2
    cases h
    rw [hf _ _ _ _ h1 h2 e1, xr hf t1 t2 e2]
    rfl
  . cases h
theorem aid (S : SimM nm K ι H M) {v : V} {ds es : List Dv} (rx : Rep K ι H x v) (ry : Rep K ι H y v) (h1 : MW.asList M x = some ds) (h2 : MW.asList M y = some es) : ∃ vs, RepL K ι H ds vs /\ RepL K ι H es vs := by
 cases rx with
 | vl e1 n1 r1 =>
  cases ry with
  | vl e2 n2 r2 =>
   simp [MW.asList] at h1 h2
   subst h1 h2
   rw [e1] at e2
   cases e2
   exact ⟨_, r1, r2⟩
  | ref e2 => exact absurd (List.mem_of_getElem? e2) n1.1
  | _ => simp [MW.asList] at h2
 | @ref n p e1 =>
  cases ry with
  | vl e2 n2 r2 => exact absurd (List.mem_of_getElem? e1) n2.1
  | @ref n' _ e2 =>
   have hn : n = n' := by
    obtain ⟨l1, q1⟩ := List.getElem?_eq_some_iff.mp e1
    obtain ⟨l2, q2⟩ := List.getElem?_eq_some_iff.mp e2
    exact (List.getElem_inj S.nd).mp (q1.trans q2.symm)
   subst hn
   rw [h1] at h2
   cases h2
   simp only [MW.asList] at h1
   split at h1
   . rename_i q hM
     cases h1
     obtain ⟨vs, g1, g2⟩ := S.obj n _ p hM e1
     exact ⟨vs, g2, g2⟩
   . cases h1
  | _ => simp [MW.asList] at h2
 | _ => simp [MW.asList] at h1
theorem ae5 (S : SimM nm K ι H M) : ∀ (k : Nat) (x y : Dv) (v : V) (r : Bool), Rep K ι H x v -> Rep K ι H y v -> MW.eqD M k x y = some r -> r = true
 | 0, _, _, _, _, _, _, h => by cases h
 | k + 1, x, y, v, r, rx, ry, h => by
  have ih := ae5 S k
  have lists : ∀ ds es, MW.asList M x = some ds -> MW.asList M y = some es -> (if ds.length = es.length then MW.eqL (MW.eqD M k) ds es else some false) = some r -> r = true := fun ds es h1 h2 h3 => by
   obtain ⟨vs, r1, r2⟩ := aid S rx ry h1 h2
   rw [if_pos (r1.length.trans r2.length.symm)] at h3
   exact xr (fun x y v r a b c => ih x y v r a b c) r1 r2 h3
  cases rx with
  | non => cases ry; cases h; rfl
  | bl b => cases ry; cases h; simp
  | int i => cases ry; cases h; simp
  | str z => cases ry; cases h; simp
  | @tup p ds vs e1 r1 =>
   cases ry with
   | @tup _ es vs2 e2 r2 =>
    rw [e1] at e2
    cases e2
    exact xr (fun x y v r a b c => ih x y v r a b c) r1 r2 h
   | vl e2 n2 r2 => rw [e1] at e2; cases e2
   | fz e2 r2 => cases h
   | @ref n _ e2 => rw [gf (fun _ e => by cases e) (fun _ e => by cases e)] at h; cases h
  | @vl p ds vs e1 n1 r1 =>
   cases ry with
   | tup e2 r2 => rw [e1] at e2; cases e2
   | @vl _ es vs2 e2 n2 r2 => exact lists ds es rfl rfl h
   | fz e2 r2 => cases h
   | ref e2 => exact absurd (List.mem_of_getElem? e2) n1.1
  | fz e1 r1 =>
   cases ry with
   | @ref n _ e2 => rw [gf (fun _ e => by cases e) (fun _ e => by cases e)] at h; cases h
   | _ => cases h
  | @ref n p e1 =>
   cases ry with
   | tup e2 r2 => rw [mz (fun _ e => by cases e) (fun _ e => by cases e)] at h; cases h
   | vl e2 n2 r2 => exact absurd (List.mem_of_getElem? e1) n2.1
   | fz e2 r2 => rw [mz (fun _ e => by cases e) (fun _ e => by cases e)] at h; cases h
   | @ref n' _ e2 =>
    cases hl : MW.asList M (.ref n) with
    | none =>
     rw [jd, hl] at h
     cases hl2 : MW.asList M (.ref n') with
     | some es => rw [hl2] at h; cases h
     | none =>
      rw [hl2] at h
      obtain ⟨_, _, _, _, _, _, hc⟩ := abw h
      rcases hc with ⟨_, er⟩ | ⟨en, _⟩
      . exact er
      . obtain ⟨l1, q1⟩ := List.getElem?_eq_some_iff.mp e1
        obtain ⟨l2, q2⟩ := List.getElem?_eq_some_iff.mp e2
        exact absurd ((List.getElem_inj S.nd).mp (q1.trans q2.symm)) en
    | some ds =>
     cases hl2 : MW.asList M (.ref n') with
     | none => simp [MW.eqD, hl, hl2] at h
     | some es => exact lists ds es hl hl2 (by simpa [MW.eqD, hl, hl2] using h)
theorem Vals.getV {xs : List V} {us : List Value} {j : Nat} {v : V} {u : Value} (r : Vals xs us) (h1 : xs[j]? = some v) (h2 : us[j]? = some u) : RelV v u := by
 obtain ⟨u', e1, e2⟩ := L2.Vals.get r h1
 rw [h2] at e1
 cases e1
 exact e2
theorem jy {K : Fg} : ∀ {l : List (List Kx × Dv)} {l' : List (List Key × V)}, PairsR K ι H (fun k k' => k = k') l l' -> l'.map (·.1) = l.map (·.1)
 | _, _, .nil => rfl
 | _, _, .cons k h t => by simp [jy t, k]
theorem aag {l : List (List Key × V)} {xs : List (List Key × Addr × Value)} (r : KT H l xs) : xs.map (·.1) = l.map (·.1) /\ ∀ x ∈ xs, H x.2.1 = some (.tup (x.1.map kV)) := by
 induction r with
 | nil => exact ⟨rfl, by simp⟩
 | @cons p q ps qs hq t ih =>
  refine ⟨by simp [ih.1, hq.1], fun x hx => ?_⟩
  rcases List.mem_cons.mp hx with rfl | hx
  . rw [<- hq.1]; exact hq.2.1
  . exact ih.2 x hx
theorem aa5 {K : Fg} {l : List (List Kx × Dv)} {l' : List (List Key × V)} {xs : List (List Key × Addr × Value)} (h : MW.yc l = true) (g : PairsR K ι H (fun k k' => k = k') l l') (r : KT H l' xs) : ∀ x ∈ xs, ∀ k ∈ x.1, ∃ i, k = Sum.inl i := fun x hx k hk => by
 have e := (aag r).1.trans (jy g)
 have : x.1 ∈ l.map (·.1) := by rw [<- e]; exact List.mem_map.mpr ⟨x, hx, rfl⟩
 obtain ⟨y, hy, ey⟩ := List.mem_map.mp this
 simp only [MW.yc, List.all_eq_true] at h
 have := h y hy k (by rw [ey]; exact hk)
 cases k with
 | inl i => exact ⟨i, rfl⟩
 | inr s => cases this
theorem ac5 {pins : List (Addr × Obj)} {s : Shared} (I : Inv X pins σ H s) (S : SimM nm X.K ι H M) : ∀ (k : Nat) (A : Around) (x y : Dv) (v u : V) (v' u' : Value) (r : Bool), Room k A -> Rep X.K ι H x v -> Rep X.K ι H y u -> RelV v v' -> RelV u u' -> MW.eqD M k x y = some r -> SeqAt.EqAt A s v' u' r
 | 0, _, _, _, _, _, _, _, _, _, _, _, _, _, h => by cases h
 | k + 1, A, x, y, v, u, v', u', r, hr, rx, ry, rv, ru, h => by
  have ih := ac5 I S k A.in1
  have hr1 := hr.in1
  have elems : ∀ (ds es : List Dv) (vs ws : List V) (is js : List Value) (rr : Bool), RepL X.K ι H ds vs -> RepL X.K ι H es ws -> Vals vs is -> Vals ws js -> MW.eqL (MW.eqD M k) ds es = some rr ->
   ∀ j (h1 : j < is.toArray.size) (h2 : j < js.toArray.size), SeqAt.EqAt A.in1 s is.toArray[j] js.toArray[j] (jg (MW.eqD M k) ds es j) := fun ds es vs ws is js rr rd re rvs rws he j h1 h2 => by
   have l1 : j < ds.length := by rw [rd.length, rvs.length]; simpa using h1
   have l2 : j < es.length := by rw [re.length, rws.length]; simpa using h2
   have g1 : ds[j]? = some ds[j] := by simp [l1]
   have g2 : es[j]? = some es[j] := by simp [l2]
   obtain ⟨c, hc⟩ := (j9 he).1 j _ _ g1 g2
   obtain ⟨va, a1, a2⟩ := rd.get g1
   obtain ⟨wa, b1, b2⟩ := re.get g2
   have q1 : is[j]? = some is.toArray[j] := by simp
   have q2 : js[j]? = some js.toArray[j] := by simp
   have := ih _ _ va wa _ _ c hr1 a2 b2 (Vals.getV rvs a1 q1) (Vals.getV rws b1 q2) hc
   have z : jg (MW.eqD M k) ds es j = c := by simp [jg, g1, g2, hc]
   rw [z]
   exact this
  have lists : ∀ (p p2 : Addr) (ds es : List Dv), v = .ref p -> u = .ref p2 -> MW.asList M x = some ds -> MW.asList M y = some es -> (if ds.length = es.length then MW.eqL (MW.eqD M k) ds es else some false) = some r -> SeqAt.EqAt A s v' u' r := fun p p2 ds es hv hu h1 h2 h3 => by
   subst hv hu
   cases rv; cases ru
   obtain ⟨_, vs, hv, g1, g2⟩ := cz S rx h1
   cases hv
   obtain ⟨_, ws, hw, g3, g4⟩ := cz S ry h2
   cases hw
   by_cases hpp : p = p2
   . subst hpp
     have : r = true := by
      rw [g1] at g3
      cases g3
      rw [if_pos (g2.length.trans g4.length.symm)] at h3
      exact xr (fun x y v r a b c => ae5 S k x y v r a b c) g2 g4 h3
     rw [this]
     exact SeqAt.EqAt.same _
   . refine SeqAt.EqAt.of_refs hpp ?_
     obtain ⟨is, r1, pl1, _⟩ := I.list (SqL.of g1)
     obtain ⟨js, r2, pl2, _⟩ := I.list (SqL.of g3)
     by_cases hl : ds.length = es.length
     . rw [if_pos hl] at h3
       have hsz : is.toArray.size = js.toArray.size := by simp [<- r1.length, <- r2.length, <- g2.length, <- g4.length, hl]
       have := SeqAt.RcAt.lists (e := jg (MW.eqD M k) ds es) pl1.isList pl2.isList hsz hr.units0 (elems ds es vs ws is js r g2 g4 r1 r2 h3)
       rw [(j9 h3).2]
       have e1 : is.toArray.size = min ds.length es.length := by simp [<- r1.length, <- g2.length, hl]
       rw [e1] at this
       simpa [hl] using this
     . rw [if_neg hl] at h3
       cases h3
       exact SeqAt.RcAt.lists_lengths pl1.isList pl2.isList (by simp [<- r1.length, <- r2.length, <- g2.length, <- g4.length, hl]) hr.units0
  cases rx with
  | non => (cases ry <;> first | cases h | (rw [gf (fun _ e => by cases e) (fun _ e => by cases e)] at h; cases h)); cases rv; cases ru; exact SeqAt.EqAt.same _
  | bl b => (cases ry <;> first | cases h | (rw [gf (fun _ e => by cases e) (fun _ e => by cases e)] at h; cases h)); cases rv; cases ru; exact SeqAt.EqAt.bool_bool _ _
  | int i =>
   cases ry <;> first | cases h | (rw [gf (fun _ e => by cases e) (fun _ e => by cases e)] at h; cases h)
   obtain ⟨t, rfl⟩ := rv
   obtain ⟨t2, rfl⟩ := ru
   rw [<- Bool.beq_eq_decide_eq]
   exact SeqAt.EqAt.int_int _ _ _ _
  | str z =>
   cases ry <;> first | cases h | (rw [gf (fun _ e => by cases e) (fun _ e => by cases e)] at h; cases h)
   obtain ⟨t, rfl⟩ := rv
   obtain ⟨t2, rfl⟩ := ru
   rw [<- Bool.beq_eq_decide_eq]
   exact SeqAt.EqAt.str_str _ _ _ _
  | @tup p ds vs e1 r1 =>
   cases ry with
   | @tup p2 es ws e2 r2 =>
    cases rv; cases ru
    have h : MW.eqL (MW.eqD M k) ds es = some r := h
    by_cases hpp : p = p2
    . subst hpp
      have : r = true := by
       rw [e1] at e2
       cases e2
       exact xr (fun x y v r a b c => ae5 S k x y v r a b c) r1 r2 h
      rw [this]
      exact SeqAt.EqAt.same _
    . refine SeqAt.EqAt.of_refs hpp ?_
      obtain ⟨is, g1, pl1, _⟩ := I.tuple (SqT.of e1)
      obtain ⟨js, g2, pl2, _⟩ := I.tuple (SqT.of e2)
      have := SeqAt.RcAt.tuples (e := jg (MW.eqD M k) ds es) (show s.heap.IsTuple p is.toArray from pl1) (show s.heap.IsTuple p2 js.toArray from pl2) hr.units0 (elems ds es vs ws is js r r1 r2 g1 g2 h)
      rw [(j9 h).2]
      have z1 : is.toArray.size = ds.length := by simp [<- g1.length, <- r1.length]
      have z2 : js.toArray.size = es.length := by simp [<- g2.length, <- r2.length]
      rw [z1, z2] at this
      exact this
   | @ref n _ e2 => rw [gf (fun _ e => by cases e) (fun _ e => by cases e)] at h; cases h
   | _ => cases h
  | @vl p ds vs e1 n1 r1 =>
   cases ry with
   | @vl p2 es ws e2 n2 r2 => exact lists p p2 ds es rfl rfl rfl rfl h
   | @ref n p2 e2 =>
    rw [adt] at h
    cases hl : MW.asList M (.ref n) with
    | none => rw [hl] at h; cases h
    | some es => rw [hl] at h; exact lists p p2 ds es rfl rfl rfl hl h
   | _ => cases h
  | fz e1 r1 =>
   cases ry with
   | @ref n _ e2 => rw [gf (fun _ e => by cases e) (fun _ e => by cases e)] at h; cases h
   | _ => cases h
  | @ref n p e1 =>
   cases hl : MW.asList M (.ref n) with
   | none =>
    cases ry with
    | @ref n' p2 e2 =>
     rw [jd, hl] at h
     cases hl2 : MW.asList M (.ref n') with
     | some es => rw [hl2] at h; cases h
     | none =>
      rw [hl2] at h
      obtain ⟨ka, kb, m1, m2, i1, i2, hc⟩ := abw h
      cases rv; cases ru
      rcases hc with ⟨en, er⟩ | ⟨en, h3⟩
      . subst en; subst er
        rw [e1] at e2; cases e2
        exact SeqAt.EqAt.same _
      . have hpp : p ≠ p2 := fun z => by
         subst z
         obtain ⟨l1, q1⟩ := List.getElem?_eq_some_iff.mp e1
         obtain ⟨l2, q2⟩ := List.getElem?_eq_some_iff.mp e2
         exact en ((List.getElem_inj S.nd).mp (q1.trans q2.symm))
        obtain ⟨la, g1, g2⟩ := S.obj n _ p m1 e1
        obtain ⟨lb, g3, g4⟩ := S.obj n' _ p2 m2 e2
        obtain ⟨_, z1, xa, ra, da⟩ := adq I.hok g1
        obtain ⟨_, z2, xb, rb, db⟩ := adq I.hok g3
        have hla : xa.length = ka.length := by have := congrArg List.length ((aag ra).1.trans (jy g2)); simpa using this
        have hlb : xb.length = kb.length := by have := congrArg List.length ((aag rb).1.trans (jy g4)); simpa using this
        have hu : A.units + 1 < cLine := by have := hr1.units0; exact this
        have hits : ∀ (ka : List (List Kx × Dv)) (la : List (List Key × V)) (xa : List (List Key × Addr × Value)) (r : Bool), PairsR X.K ι H (fun k k' => k = k') ka la -> KT H la xa -> MW.eqK (MW.eqD M k) kb ka = some r -> STb.HitsH A.in1 s xb xa r := by
         intro ka
         induction ka with
         | nil =>
          intro la xa r hp hk he
          cases hp; cases hk; cases he
          exact .nil
         | cons kv ka ihk =>
          intro la xa r hp hk he
          cases hp with
          | @cons q q' d v _ la' hq rd hp' =>
           subst hq
           cases hk with
           | @cons _ w _ xa' hw hk' =>
            obtain ⟨w1, w2, w3⟩ := w
            obtain ⟨hw1, _, hw3⟩ := hw
            have hw1 : q = w1 := hw1
            subst hw1
            simp only [MW.eqK] at he
            split at he
            . rename_i hn
              cases he
              refine .miss ?_
              have := (g4.look (k := q)).2 hn
              have hv := (rb.val q).isSome_eq
              rw [this] at hv
              cases hat : atKey xb q with
              | none => rfl
              | some z => rw [hat] at hv; cases hv
            . rename_i y hy
              split at he
              . rename_i eb bb he1 he2
                cases he
                obtain ⟨vy, hv1, hv2⟩ := (g4.look (k := q)).1 y hy
                have hv := rb.val q
                rw [hv1] at hv
                cases hat : atKey xb q with
                | none => rw [hat] at hv; exact hv.elim
                | some z =>
                 rw [hat] at hv
                 obtain ⟨z1', z2'⟩ := z
                 have hv : RelV vy z2' := hv
                 exact .hit hat (ih d y v vy w3 z2' eb hr1 rd hv2 hw3 hv he1) (ihk la' xa' bb hp' hk' he2)
              . cases he
        by_cases hlen : ka.length = kb.length
        . rw [if_pos hlen] at h3
          have := STb.af2 z1 z2 hpp da db (aa5 i1 g2 ra) (aa5 i2 g4 rb) hu (fun _ => hits ka la xa r g2 ra h3)
          simpa [hla, hlb, hlen] using this
        . rw [if_neg hlen] at h3
          cases h3
          have := STb.af2 (A := A) (s := s) (r := false) z1 z2 hpp da db (aa5 i1 g2 ra) (aa5 i2 g4 rb) hu (fun e => absurd (by rw [<- hla, <- hlb]; exact e) hlen)
          simpa using this
    | @vl p2 es ws e2 n2 r2 => rw [pq, hl] at h; cases h
    | _ => rw [mz (fun _ e => by cases e) (fun _ e => by cases e)] at h; cases h
   | some ds =>
    cases ry with
    | @vl p2 es ws e2 n2 r2 =>
     rw [pq, hl] at h
     exact lists p p2 ds es rfl rfl hl rfl h
    | @ref n' p2 e2 =>
     cases hl2 : MW.asList M (.ref n') with
     | none => rw [jd, hl, hl2] at h; cases h
     | some es => exact lists p p2 ds es rfl rfl hl hl2 (by rw [jd, hl, hl2] at h; exact h)
    | _ => rw [mz (fun _ e => by cases e) (fun _ e => by cases e)] at h; cases h
inductive Seqs (A : Around) (s : Shared) : Value -> Value -> Bool -> Prop
 | tups {p p2 : Addr} {is js : Array Value} (e : Nat -> Bool) (h1 : s.heap.IsTuple p is) (h2 : s.heap.IsTuple p2 js) (he : ∀ j (h1 : j < is.size) (h2 : j < js.size), SeqAt.EqAt A.in1 s is[j] js[j] (e j)) : Seqs A s (.ref p) (.ref p2) ((List.range (min is.size js.size)).all e && is.size == js.size)
 | lsts {p p2 : Addr} {is js : Array Value} (e : Nat -> Bool) (h1 : s.heap.IsList p is) (h2 : s.heap.IsList p2 js) (hz : is.size = js.size) (he : ∀ j (h1 : j < is.size) (h2 : j < js.size), SeqAt.EqAt A.in1 s is[j] js[j] (e j)) : Seqs A s (.ref p) (.ref p2) ((List.range is.size).all e)
 | lens {p p2 : Addr} {is js : Array Value} (h1 : s.heap.IsList p is) (h2 : s.heap.IsList p2 js) (hz : (is.size != js.size) = true) : Seqs A s (.ref p) (.ref p2) false
theorem afm {pins : List (Addr × Obj)} {s : Shared} {A : Around} {k : Nat} (I : Inv X pins σ H s) (S : SimM nm X.K ι H M) (hr : Room k A.in1) {ds es : List Dv} {vs ws : List V} {is js : List Value} {rr : Bool} (rd : RepL X.K ι H ds vs) (re : RepL X.K ι H es ws) (rvs : Vals vs is) (rws : Vals ws js) (he : MW.eqL (MW.eqD M k) ds es = some rr) :
 ∀ j (h1 : j < is.toArray.size) (h2 : j < js.toArray.size), SeqAt.EqAt A.in1 s is.toArray[j] js.toArray[j] (jg (MW.eqD M k) ds es j) := fun j h1 h2 => by
 have l1 : j < ds.length := by rw [rd.length, rvs.length]; simpa using h1
 have l2 : j < es.length := by rw [re.length, rws.length]; simpa using h2
 have g1 : ds[j]? = some ds[j] := by simp [l1]
 have g2 : es[j]? = some es[j] := by simp [l2]
 obtain ⟨c, hc⟩ := (j9 he).1 j _ _ g1 g2
 obtain ⟨va, a1, a2⟩ := rd.get g1
 obtain ⟨wa, b1, b2⟩ := re.get g2
 have q1 : is[j]? = some is.toArray[j] := by simp
 have q2 : js[j]? = some js.toArray[j] := by simp
 have := ac5 I S k A.in1 _ _ va wa _ _ c hr a2 b2 (Vals.getV rvs a1 q1) (Vals.getV rws b1 q2) hc
 have z : jg (MW.eqD M k) ds es j = c := by simp [jg, g1, g2, hc]
 rw [z]
 exact this
theorem uw {pins : List (Addr × Obj)} {s : Shared} {A : Around} {k : Nat} {r : Bool} {v u : V} {v' u' : Value} {ds es : List Dv} (I : Inv X pins σ H s) (S : SimM nm X.K ι H M) (hr : Room k A.in1) (rx : Rep X.K ι H x v) (ry : Rep X.K ι H y u) (rv : RelV v v') (ru : RelV u u')
 (h1 : MW.asList M x = some ds) (h2 : MW.asList M y = some es) (h3 : (if ds.length = es.length then MW.eqL (MW.eqD M k) ds es else some false) = some r) : Seqs A s v' u' r := by
 obtain ⟨p, vs, rfl, g1, g2⟩ := cz S rx h1
 obtain ⟨p2, ws, rfl, g3, g4⟩ := cz S ry h2
 cases rv; cases ru
 obtain ⟨is, r1, pl1, _⟩ := I.list (SqL.of g1)
 obtain ⟨js, r2, pl2, _⟩ := I.list (SqL.of g3)
 by_cases hl : ds.length = es.length
 . rw [if_pos hl] at h3
   have hsz : is.toArray.size = js.toArray.size := by simp [<- r1.length, <- r2.length, <- g2.length, <- g4.length, hl]
   have z := Seqs.lsts (A := A) (jg (MW.eqD M k) ds es) pl1.isList pl2.isList hsz (afm I S hr g2 g4 r1 r2 h3)
   rw [(j9 h3).2]
   have e1 : is.toArray.size = min ds.length es.length := by simp [<- r1.length, <- g2.length, hl]
   rw [e1] at z
   simpa [hl] using z
 . rw [if_neg hl] at h3
   cases h3
   exact .lens pl1.isList pl2.isList (by simp [<- r1.length, <- r2.length, <- g2.length, <- g4.length, hl])
theorem agt {pins : List (Addr × Obj)} {s : Shared} {A : Around} {k : Nat} {r : Bool} {v u : V} {v' u' : Value} (I : Inv X pins σ H s) (S : SimM nm X.K ι H M) (hr : Room k A.in1) (rx : Rep X.K ι H x v) (ry : Rep X.K ι H y u) (rv : RelV v v') (ru : RelV u u') (h : MW.eqD M (k + 1) x y = some r) (hnd : MW.yl M x = false) :
 Seqs A s v' u' r \/ (anp v u = true /\ r = decide (v = u)) := by
 cases rx with
 | non => (cases ry <;> first | cases h | (rw [gf (fun _ e => by cases e) (fun _ e => by cases e)] at h; cases h)); exact .inr ⟨rfl, by simp⟩
 | bl b => (cases ry <;> first | cases h | (rw [gf (fun _ e => by cases e) (fun _ e => by cases e)] at h; cases h)); exact .inr ⟨rfl, by rename_i b2; by_cases z : b = b2 <;> simp [z]⟩
 | int i => (cases ry <;> first | cases h | (rw [gf (fun _ e => by cases e) (fun _ e => by cases e)] at h; cases h)); exact .inr ⟨rfl, by rename_i j; by_cases z : i = j <;> simp [z]⟩
 | str z => (cases ry <;> first | cases h | (rw [gf (fun _ e => by cases e) (fun _ e => by cases e)] at h; cases h)); exact .inr ⟨rfl, by rename_i j; by_cases q : z = j <;> simp [q]⟩
 | @tup p ds vs e1 r1 =>
  cases ry with
  | @tup p2 es ws e2 r2 =>
   cases rv; cases ru
   have h : MW.eqL (MW.eqD M k) ds es = some r := h
   obtain ⟨is, g1, pl1, _⟩ := I.tuple (SqT.of e1)
   obtain ⟨js, g2, pl2, _⟩ := I.tuple (SqT.of e2)
   have z := Seqs.tups (A := A) (jg (MW.eqD M k) ds es) (show s.heap.IsTuple p is.toArray from pl1) (show s.heap.IsTuple p2 js.toArray from pl2) (afm I S hr r1 r2 g1 g2 h)
   rw [(j9 h).2]
   have z1 : is.toArray.size = ds.length := by simp [<- g1.length, <- r1.length]
   have z2 : js.toArray.size = es.length := by simp [<- g2.length, <- r2.length]
   rw [z1, z2] at z
   exact .inl z
  | @ref n _ e2 => rw [gf (fun _ e => by cases e) (fun _ e => by cases e)] at h; cases h
  | _ => cases h
 | @vl p ds vs e1 n1 r1 =>
  cases ry with
  | @vl p2 es ws e2 n2 r2 => exact .inl (uw I S hr (.vl e1 n1 r1) (.vl e2 n2 r2) rv ru rfl rfl h)
  | @ref n p2 e2 =>
   rw [adt] at h
   cases hl : MW.asList M (.ref n) with
   | none => rw [hl] at h; cases h
   | some es => rw [hl] at h; exact .inl (uw I S hr (.vl e1 n1 r1) (.ref e2) rv ru rfl hl h)
  | _ => cases h
 | fz e1 r1 =>
  cases ry with
  | @ref n _ e2 => rw [gf (fun _ e => by cases e) (fun _ e => by cases e)] at h; cases h
  | _ => cases h
 | @ref n p e1 =>
  cases hl : MW.asList M (.ref n) with
  | none =>
   cases ry with
   | @ref n' p2 e2 =>
    rw [jd, hl] at h
    cases hl2 : MW.asList M (.ref n') with
    | some es => rw [hl2] at h; cases h
    | none =>
     rw [hl2] at h
     obtain ⟨ka, kb, m1, _⟩ := abw h
     simp [MW.yl, m1] at hnd
   | @vl p2 es ws e2 n2 r2 => rw [pq, hl] at h; cases h
   | _ => rw [mz (fun _ e => by cases e) (fun _ e => by cases e)] at h; cases h
  | some ds =>
   cases ry with
   | @vl p2 es ws e2 n2 r2 =>
    rw [pq, hl] at h
    exact .inl (uw I S hr (.ref e1) (.vl e2 n2 r2) rv ru hl rfl h)
   | @ref n' p2 e2 =>
    cases hl2 : MW.asList M (.ref n') with
    | none => rw [jd, hl, hl2] at h; cases h
    | some es => exact .inl (uw I S hr (.ref e1) (.ref e2) rv ru hl hl2 (by rw [jd, hl, hl2] at h; exact h))
   | _ => rw [mz (fun _ e => by cases e) (fun _ e => by cases e)] at h; cases h
theorem Seqs.rc {A : Around} {s : Shared} {v u : Value} {r : Bool} (h : Seqs A s v u r) (hu : A.units < cLine) : SeqAt.RcAt A s v u r /\ SeqAt.RcNeAt A s v u (!r) := by
 cases h with
 | tups e h1 h2 he => exact ⟨SeqAt.RcAt.tuples h1 h2 hu he, SeqAt.RcNeAt.tuples h1 h2 hu he⟩
 | lsts e h1 h2 hz he => exact ⟨SeqAt.RcAt.lists h1 h2 hz hu he, SeqAt.RcNeAt.lists h1 h2 hz hu he⟩
 | lens h1 h2 hz => exact ⟨SeqAt.RcAt.lists_lengths h1 h2 hz hu, SeqAt.RcNeAt.lists_lengths h1 h2 hz hu⟩
theorem a0k (hr : Room 6 X.A) : OpR X (compareOp .Eq) (rCp nm X.K .eq) := fun pins s σ H v u v' u' Q I rv ru hh => by
 obtain ⟨ι, M, x, y, b, S, rx, ry, e, q⟩ := hh
 obtain ⟨hnd, e⟩ := aa6 (show MW.dw M x y = some b from e)
 rcases agt (A := X.A) I S hr.in1 rx ry rv ru e hnd with h | ⟨h1, h2⟩
 . exact (h.rc hr.units0).1 X.prog X.w X.xe _ ⟨.bl b, H, I, rfl, q⟩
 . subst h2
   exact ax3 pins s σ H v u v' u' Q I rv ru ⟨h1, q⟩
theorem azs (hr : Room 6 X.A) : OpR X (compareOp .NotEq) (rCp nm X.K .ne) := fun pins s σ H v u v' u' Q I rv ru hh => by
 obtain ⟨ι, M, x, y, b, S, rx, ry, e, q⟩ := hh
 obtain ⟨b', e1, e2⟩ := Option.map_eq_some_iff.mp (show (MW.dw M x y).map not = some b from e)
 subst e2
 obtain ⟨hnd, e1⟩ := aa6 e1
 rcases agt (A := X.A) I S hr.in1 rx ry rv ru e1 hnd with h | ⟨h1, h2⟩
 . exact (h.rc hr.units0).2 X.prog X.w X.xe _ ⟨.bl !b', H, I, rfl, q⟩
 . subst h2
   exact axk pins s σ H v u v' u' Q I rv ru ⟨h1, q⟩
end
section
variable {nm : Nm} {W : Wld} {X : Cx} {a b c o : Expr} {a' b' c' o' : Ex} {pos pos' apos : Pos} {ι : Io} {H : Hp} {σ : St} {ρ : En} {M M1 M2 : Store} {x y : Dv} {es : List Expr} {es' : Exs}
theorem jw : ∀ {ds : List Dv} {bs : List Bool}, MW.xf M x ds = some bs -> bs.length = ds.length /\ ∀ (j : Nat) d, ds[j]? = some d -> ∃ b, bs[j]? = some b /\ MW.dw M d x = some b
 | [], bs, h => by cases h; exact ⟨rfl, fun j d e => by simp at e⟩
 | y :: ys, bs, h => by
  simp only [MW.xf] at h
  split at h
  . rename_i a b h1 h2
    cases h
    obtain ⟨g1, g2⟩ := jw h2
    refine ⟨by simp [g1], fun j d e => ?_⟩
    cases j with
    | zero => simp at e; subst e; exact ⟨a, rfl, h1⟩
    | succ j => simpa using g2 j d (by simpa using e)
  . cases h
theorem jx {pins : List (Addr × Obj)} {s : Shared} {p : Addr} {vs : List V} (I : Inv X pins σ H s) (e : FzAt X.K H p vs) : (∃ o, H p = some (.frz o (.lst vs))) \/ (H p = none /\ ∃ (o : Obj) (its : Array Value) (n : Nat), X.K.lookup p = some o /\ o.data = .seq its n /\ Vals vs its.toList) := by
 rcases e with h | ⟨o, its, n, h1, _, _, h2, _, h3⟩
 . exact .inl h
 . exact .inr ⟨(I.bs p o (I.mod.kin p o h1)).2, o, its, n, h1, h2, h3⟩
theorem av1 {pins : List (Addr × Obj)} {s : Shared} {p : Addr} {vs ws : List V} (I : Inv X pins σ H s) (e : FzAt X.K H p vs) (e2 : FzAt X.K H p ws) : vs = ws := by
 rcases jx I e with ⟨o, h⟩ | ⟨h, o, its, n, h1, h2, h3⟩
 . rcases jx I e2 with ⟨o', h'⟩ | ⟨h', _⟩
   . rw [h] at h'; cases h'; rfl
   . rw [h] at h'; cases h'
 . rcases jx I e2 with ⟨o', h'⟩ | ⟨_, o', its', n', h1', h2', h3'⟩
   . rw [h] at h'; cases h'
   . rw [h1] at h1'; cases h1'
     rw [h2] at h2'; cases h2'
     exact Vals.inj h3 h3'
mutual
theorem ais {pins : List (Addr × Obj)} {s : Shared} (I : Inv X pins σ H s) (S : SimM nm X.K ι H M) : ∀ {d d' : Dv} {v : V}, Rep X.K ι H d v -> Rep X.K ι H d' v -> d = d'
 | _, _, _, .non, r => by cases r; rfl
 | _, _, _, .bl b, r => by cases r; rfl
 | _, _, _, .int i, r => by cases r; rfl
 | _, _, _, .str z, r => by cases r; rfl
 | _, _, _, .tup e1 r1, r => by
  cases r with
  | tup e2 r2 =>
   rw [e1] at e2
   cases e2
   rw [aa7 I S r1 r2]
  | vl e2 n2 r2 => rw [e1] at e2; cases e2
  | fz e2 r2 =>
   rcases jx I e2 with ⟨o, h⟩ | ⟨h, _⟩
   . rw [e1] at h; cases h
   . rw [e1] at h; cases h
  | ref e2 =>
   obtain ⟨u, q, mu⟩ := S.mem (List.mem_of_getElem? e2)
   rw [e1] at mu; exact mu.elim
 | _, _, _, .vl e1 n1 r1, r => by
  cases r with
  | tup e2 r2 => rw [e1] at e2; cases e2
  | vl e2 n2 r2 =>
   rw [e1] at e2
   cases e2
   rw [aa7 I S r1 r2]
  | fz e2 r2 =>
   rcases jx I e2 with ⟨o, h⟩ | ⟨h, _⟩
   . rw [e1] at h; cases h
   . rw [e1] at h; cases h
  | ref e2 => exact absurd (List.mem_of_getElem? e2) n1.1
 | _, _, _, .fz e1 r1, r => by
  cases r with
  | tup e2 r2 =>
   rcases jx I e1 with ⟨o, h⟩ | ⟨h, _⟩
   . rw [e2] at h; cases h
   . rw [e2] at h; cases h
  | vl e2 n2 r2 =>
   rcases jx I e1 with ⟨o, h⟩ | ⟨h, _⟩
   . rw [e2] at h; cases h
   . rw [e2] at h; cases h
  | fz e2 r2 =>
   have := av1 I e1 e2
   subst this
   rw [aa7 I S r1 r2]
  | ref e2 =>
   obtain ⟨u, q, mu⟩ := S.mem (List.mem_of_getElem? e2)
   rcases jx I e1 with ⟨o, h⟩ | ⟨h, _⟩
   . rw [h] at mu; exact mu.elim
   . rw [h] at q; cases q
 | _, _, _, .ref e1, r => by
  cases r with
  | tup e2 r2 =>
   obtain ⟨u, q, mu⟩ := S.mem (List.mem_of_getElem? e1)
   rw [e2] at mu; exact mu.elim
  | vl e2 n2 r2 => exact absurd (List.mem_of_getElem? e1) n2.1
  | fz e2 r2 =>
   obtain ⟨u, q, mu⟩ := S.mem (List.mem_of_getElem? e1)
   rcases jx I e2 with ⟨o, h⟩ | ⟨h, _⟩
   . rw [h] at mu; exact mu.elim
   . rw [h] at q; cases q
  | ref e2 =>
   obtain ⟨l1, q1⟩ := List.getElem?_eq_some_iff.mp e1
   obtain ⟨l2, q2⟩ := List.getElem?_eq_some_iff.mp e2
   rw [(List.getElem_inj S.nd).mp (q1.trans q2.symm)]
theorem aa7 {pins : List (Addr × Obj)} {s : Shared} (I : Inv X pins σ H s) (S : SimM nm X.K ι H M) : ∀ {ds ds' : List Dv} {vs : List V}, RepL X.K ι H ds vs -> RepL X.K ι H ds' vs -> ds = ds'
 | _, _, _, .nil, r => by cases r; rfl
 | _, _, _, .cons h t, r => by
  cases r with
  | cons h2 t2 => rw [ais I S h h2, aa7 I S t t2]
end
theorem zm {pins : List (Addr × Obj)} {s : Shared} {A : Around} {ds : List Dv} {vs : List V} {is : List Value} {bs : List Bool} {u : V} {u' : Value} (I : Inv X pins σ H s) (S : SimM nm X.K ι H M) (hr : Room 6 A) (rd : RepL X.K ι H ds vs) (rv : Vals vs is) (rx : Rep X.K ι H x u) (ru : RelV u u')
 (h : MW.xf M x ds = some bs) : ∃ e : Value -> Bool, (∀ w, w ∈ is.toArray -> SeqAt.EqAt A s w u' (e w)) /\ ∀ (j : Nat) (w : Value), is[j]? = some w -> bs[j]? = some (e w) := by
 obtain ⟨g1, g2⟩ := jw h
 have at' : ∀ (j : Nat) (w : Value), is[j]? = some w -> ∃ b, bs[j]? = some b /\ SeqAt.EqAt A s w u' b := fun j w hw => by
  have lj : j < ds.length := by rw [rd.length, rv.length]; exact (List.getElem?_eq_some_iff.mp hw).1
  have gd : ds[j]? = some ds[j] := by simp [lj]
  obtain ⟨b, e1, e2⟩ := g2 j _ gd
  obtain ⟨v, a1, a2⟩ := rd.get gd
  exact ⟨b, e1, ac5 I S 6 A _ _ v u w u' b hr a2 rx (Vals.getV rv a1 hw) ru (aa6 e2).2⟩
 classical
 refine ⟨fun w => if hw : ∃ j : Nat, is[j]? = some w then (bs[hw.choose]?).getD false else false, fun w hw => ?_, fun j w hw => ?_⟩
 . obtain ⟨j, hj, e⟩ := List.getElem_of_mem (by simpa using hw : w ∈ is)
   have hex : ∃ j : Nat, is[j]? = some w := ⟨j, by simp [hj, e]⟩
   obtain ⟨b, e1, e2⟩ := at' hex.choose w hex.choose_spec
   simp only [dif_pos hex, e1, Option.getD_some]
   exact e2
 . have hex : ∃ j : Nat, is[j]? = some w := ⟨j, hw⟩
   obtain ⟨b, e1, e2⟩ := at' j w hw
   obtain ⟨b', e3, e4⟩ := at' hex.choose w hex.choose_spec
   simp only [dif_pos hex, e3, Option.getD_some]
   rw [e1]
   congr 1
   have lj : j < ds.length := by rw [rd.length, rv.length]; exact (List.getElem?_eq_some_iff.mp hw).1
   have lk : hex.choose < ds.length := by rw [rd.length, rv.length]; exact (List.getElem?_eq_some_iff.mp hex.choose_spec).1
   have gd : ds[j]? = some ds[j] := by simp [lj]
   have gk : ds[hex.choose]? = some ds[hex.choose] := by simp [lk]
   obtain ⟨c1, q1, q2⟩ := g2 j _ gd
   obtain ⟨c2, q3, q4⟩ := g2 hex.choose _ gk
   obtain ⟨v1, p1, p2⟩ := rd.get gd
   obtain ⟨v2, p3, p4⟩ := rd.get gk
   have hv : v1 = v2 := RelV.inj (Vals.getV rv p1 hw) (Vals.getV rv p3 hex.choose_spec)
   subst hv
   rw [e1] at q1
   rw [e3] at q3
   cases q1; cases q3
   have hd := ais I S p2 p4
   rw [hd, q4] at q2
   exact (Option.some.inj q2).symm
theorem acf {is : List Value} {bs : List Bool} {e : Value -> Bool} (hl : bs.length = is.length) (h : ∀ (j : Nat) (w : Value), is[j]? = some w -> bs[j]? = some (e w)) : bs = is.map e := by
 apply List.ext_getElem?
 intro j
 rw [List.getElem?_map]
 cases q : is[j]? with
 | none => rw [List.getElem?_eq_none (by rw [hl]; exact List.getElem?_eq_none_iff.mp q)]; rfl
 | some w => rw [h j w q]; rfl
theorem azx (hr : Room 8 X.A) : OpR X (compareOp .In) (rCp nm X.K .inn) := fun pins s σ H v u v' u' Q I rv ru hh => by
 obtain ⟨ι, M, x, y, b, S, rx, ry, e, q⟩ := hh
 have e : MW.ou M x y = some b := e
 have hu : X.A.units + 1 < cLine := af9 hr
 have seq : ∀ ds, MW.cu M y = some ds -> MW.memD M x ds = some b -> wpAny (model X.prog X.w) X.A (compareOp .In v' u') (EP X pins σ Q) X.xe s := fun ds h1 h2 => by
  obtain ⟨bs, e1, e2⟩ := Option.map_eq_some_iff.mp (show (MW.xf M x ds).map (·.any id) = some b from h2)
  obtain ⟨p, vs, rfl, hp, r⟩ := m5 S ry h1
  cases ru
  rcases hp with hp | hp
  . obtain ⟨is, r1, pl, _⟩ := I.list (SqL.of hp)
    obtain ⟨f, g1, g2⟩ := zm (A := X.A.in1) I S ((hr.mono (by decide : 7 <= 8)).in1) r r1 rx rv e1
    refine SeqAt.in_listAt f pl.isList g1 ?_
    have := acf (by rw [(jw e1).1, r.length, r1.length]) g2
    rw [this] at e2
    rw [show is.toArray.any f = b by rw [<- e2]; simp [List.any_map]]
    exact ⟨.bl b, H, I, rfl, q⟩
  . obtain ⟨is, r1, pl, _⟩ := I.tuple (SqT.of hp)
    obtain ⟨f, g1, g2⟩ := zm (A := X.A.in1) I S ((hr.mono (by decide : 7 <= 8)).in1) r r1 rx rv e1
    refine SeqAt.in_tupleAt f (show s.heap.IsTuple p is.toArray from pl) g1 ?_
    have := acf (by rw [(jw e1).1, r.length, r1.length]) g2
    rw [this] at e2
    rw [show is.toArray.any f = b by rw [<- e2]; simp [List.any_map]]
    exact ⟨.bl b, H, I, rfl, q⟩
 cases ry with
 | @ref n p e1 =>
  simp only [MW.ou] at e
  split at e
  . rename_i kvs hM
    obtain ⟨k, e2, e3⟩ := Option.map_eq_some_iff.mp e
    obtain ⟨l, h1, h2⟩ := S.obj n _ p hM e1
    obtain ⟨bb, rfl, hb⟩ := abp rx e2
    cases ru
    refine av7 hu I (DGet.t h1 hb) rv fun s' I' => ⟨.bl b, H, I', ?_, q⟩
    rw [<- e3]
    cases hk : MW.dq kvs k with
    | none => rw [(h2.look (k := k)).2 hk]; rfl
    | some d => obtain ⟨z, h3, _⟩ := (h2.look (k := k)).1 d hk; rw [h3]; rfl
  . rename_i kvs hM
    obtain ⟨k, e2, e3⟩ := Option.map_eq_some_iff.mp e
    obtain ⟨l, h1, h2⟩ := S.obj n _ p hM e1
    have hy := ab1 rx e2
    subst hy
    cases ru
    refine av7 hu I (DGet.k h1) rv fun s' I' => ⟨.bl b, H, I', ?_, q⟩
    rw [<- e3]
    cases hk : MW.dq kvs k with
    | none => rw [(h2.look (k := k)).2 hk]; rfl
    | some d => obtain ⟨z, h3, _⟩ := (h2.look (k := k)).1 d hk; rw [h3]; rfl
  . obtain ⟨ds, h1, h2⟩ := Option.bind_eq_some_iff.mp e
    exact seq ds h1 h2
 | _ =>
  simp only [MW.ou] at e
  obtain ⟨ds, h1, h2⟩ := Option.bind_eq_some_iff.mp e
  exact seq ds h1 h2
theorem aqi (hr : Room 8 X.A) : OpR X (compareOp .NotIn) (rCp nm X.K .notin) := fun pins s σ H v u v' u' Q I rv ru hh => by
 obtain ⟨ι, M, x, y, b0, S, rx, ry, e, q⟩ := hh
 obtain ⟨b, e', eb⟩ := Option.map_eq_some_iff.mp (show (MW.ou M x y).map not = some b0 from e)
 subst eb
 have hu : X.A.units + 1 < cLine := af9 hr
 have seq : ∀ ds, MW.cu M y = some ds -> MW.memD M x ds = some b -> wpAny (model X.prog X.w) X.A (compareOp .NotIn v' u') (EP X pins σ Q) X.xe s := fun ds h1 h2 => by
  obtain ⟨bs, e1, e2⟩ := Option.map_eq_some_iff.mp (show (MW.xf M x ds).map (·.any id) = some b from h2)
  obtain ⟨p, vs, rfl, hp, r⟩ := m5 S ry h1
  cases ru
  rcases hp with hp | hp
  . obtain ⟨is, r1, pl, _⟩ := I.list (SqL.of hp)
    obtain ⟨f, g1, g2⟩ := zm (A := X.A.in1) I S ((hr.mono (by decide : 7 <= 8)).in1) r r1 rx rv e1
    refine SeqAt.notIn_listAt f pl.isList g1 ?_
    have := acf (by rw [(jw e1).1, r.length, r1.length]) g2
    rw [this] at e2
    rw [show is.toArray.any f = b by rw [<- e2]; simp [List.any_map]]
    exact ⟨.bl !b, H, I, rfl, q⟩
  . obtain ⟨is, r1, pl, _⟩ := I.tuple (SqT.of hp)
    obtain ⟨f, g1, g2⟩ := zm (A := X.A.in1) I S ((hr.mono (by decide : 7 <= 8)).in1) r r1 rx rv e1
    refine SeqAt.notIn_tupleAt f (show s.heap.IsTuple p is.toArray from pl) g1 ?_
    have := acf (by rw [(jw e1).1, r.length, r1.length]) g2
    rw [this] at e2
    rw [show is.toArray.any f = b by rw [<- e2]; simp [List.any_map]]
    exact ⟨.bl !b, H, I, rfl, q⟩
 cases ry with
 | @ref n p e1 =>
  clear e
  simp only [MW.ou] at e'
  split at e'
  . rename_i kvs hM
    obtain ⟨k, e2, e3⟩ := Option.map_eq_some_iff.mp e'
    obtain ⟨l, h1, h2⟩ := S.obj n _ p hM e1
    obtain ⟨bb, rfl, hb⟩ := abp rx e2
    cases ru
    refine ai7 hu I (DGet.t h1 hb) rv fun s' I' => ⟨.bl !b, H, I', ?_, q⟩
    rw [<- e3]
    cases hk : MW.dq kvs k with
    | none => rw [(h2.look (k := k)).2 hk]; rfl
    | some d => obtain ⟨z, h3, _⟩ := (h2.look (k := k)).1 d hk; rw [h3]; rfl
  . rename_i kvs hM
    obtain ⟨k, e2, e3⟩ := Option.map_eq_some_iff.mp e'
    obtain ⟨l, h1, h2⟩ := S.obj n _ p hM e1
    have hy := ab1 rx e2
    subst hy
    cases ru
    refine ai7 hu I (DGet.k h1) rv fun s' I' => ⟨.bl !b, H, I', ?_, q⟩
    rw [<- e3]
    cases hk : MW.dq kvs k with
    | none => rw [(h2.look (k := k)).2 hk]; rfl
    | some d => obtain ⟨z, h3, _⟩ := (h2.look (k := k)).1 d hk; rw [h3]; rfl
  . obtain ⟨ds, h1, h2⟩ := Option.bind_eq_some_iff.mp e'
    exact seq ds h1 h2
 | _ =>
  simp only [MW.ou] at e'
  obtain ⟨ds, h1, h2⟩ := Option.bind_eq_some_iff.mp e'
  exact seq ds h1 h2
end
open STb (SetH SetX)
def KH (H : Hp) (x : List Key × Addr) : Prop := H x.2 = some (.tup (x.1.map kV)) /\ ∀ k ∈ x.1, ∃ i, k = .inl i
theorem ahb (P : Program) (w : World) (H : Hp) : STb.zq (ak P w) (KH H) := fun x hx k hk v n hv => by
 obtain ⟨i, rfl⟩ := hx.2 k hk
 rcases gr (show aaq (Sum.inl i) v = true from hv) with ⟨j, t, e, rfl⟩ | ⟨y, t, e, _⟩
 . unfold hashByValue; rfl
 . cases e
section
variable {nm : Nm} {W : Wld} {X : Cx} {a b c o : Expr} {a' b' c' o' : Ex} {pos pos' apos : Pos} {ι : Io} {H : Hp} {σ : St} {ρ : En} {M M1 M2 : Store} {x y : Dv} {es : List Expr} {es' : Exs}
theorem abx : ∀ ks : List Kx, MW.qt (MW.agm ks) = some ks := fun ks => by
 show MW.aao (ks.map MW.ag7) = some ks
 induction ks with
 | nil => rfl
 | cons k ks ih => cases k <;> simp [MW.aao, MW.ag7, MW.za, ih]
theorem aed : ∀ {l : List (List Kx × Dv)}, MW.jc (l.map fun p => MW.agm p.1) = some (l.map (·.1))
 | [] => rfl
 | p :: l => by simp [MW.jc, abx, aed]
theorem ajd {K : Fg} : ∀ {ds : List Dv} {vs : List V} {ks : List (List Kx)}, RepL K ι H ds vs -> MW.jc ds = some ks -> ∃ bs : List Addr, vs = bs.map V.ref /\ bs.length = ks.length /\ ∀ x ∈ ks.zip bs, H x.2 = some (.tup (x.1.map kV))
 | _, _, _, .nil, h => by simp [MW.jc] at h; subst h; exact ⟨[], rfl, rfl, by simp⟩
 | _, _, _, .cons r t, h => by
  simp only [MW.jc] at h
  split at h
  . rename_i k ks' h1 h2
    cases h
    obtain ⟨b, rfl, e⟩ := abp r h1
    obtain ⟨bs, rfl, hl, hz⟩ := ajd t h2
    refine ⟨b :: bs, rfl, by simp [hl], fun x hx => ?_⟩
    simp only [List.zip_cons_cons, List.mem_cons] at hx
    rcases hx with rfl | hx
    . exact e
    . exact hz x hx
  . cases h
theorem amj {ks : List (List Kx)} (h : MW.jh ks = true) : ks.length <= 30 /\ ∀ k ∈ ks, ∀ x ∈ k, ∃ i, x = Sum.inl i := by
 simp only [MW.jh, Bool.and_eq_true, decide_eq_true_eq, List.all_eq_true] at h
 refine ⟨h.1, fun k hk x hx => ?_⟩
 have := h.2 k hk x hx
 cases x with
 | inl i => exact ⟨i, rfl⟩
 | inr s => cases this
theorem aml {pins : List (Addr × Obj)} {s : Shared} {v : V} {u : Value} {ks : List (List Kx)} {ds : List Dv} {Q : Value -> Shared -> Prop} (hr : Room 8 X.A) (I : Inv X pins σ H s) (S : SimM nm X.K ι H M) (rx : Rep X.K ι H x v) (ru : RelV v u)
 (hk : MW.keysOf M x = some ds) (hd : MW.jc ds = some ks) (pl : MW.jh ks = true)
 (h : ∀ p o n s', Inv X ((p, o) :: pins) σ H s' -> SetH (ak X.prog X.w) (KH H) s'.heap p (fun k => k ∈ ks) n -> s'.heap.get? p = some o -> Q (.ref p) s') :
 wpAny (model X.prog X.w) X.A (call (.type "set") [u]) Q X.xe s := by
 obtain ⟨hlen, hint⟩ := amj pl
 have hu : X.A.in1.in1.in1.units + 1 < cLine := by have := hr.un; show X.A.units + 1 + 1 + 1 + 1 < cLine; omega
 have kept : ∀ b o, s.heap.get? b = some o -> (s.heap.push (STb.ir X.w)).get? b = some o := fun b o e => Heap.get?_push_of_some _ e
 have I1 : Inv X pins σ H { s with heap := s.heap.push (STb.ir X.w) } := I.kept (t' := s.toks) kept
 have fr : SetH (ak X.prog X.w) (KH H) (s.heap.push (STb.ir X.w)) s.heap.objs.size (fun _ => False) 0 := STb.aqf (Heap.get?_push_size _ rfl)
 have fin : ∀ (h' : Heap) (tk n' : Nat), (∀ b o, b ≠ s.heap.objs.size -> (s.heap.push (STb.ir X.w)).get? b = some o -> h'.get? b = some o) -> SetH (ak X.prog X.w) (KH H) h' s.heap.objs.size (fun k => k ∈ ks) n' -> Q (.ref s.heap.objs.size) { s with heap := h', toks := tk } := fun h' tk n' hkp hS => by
  have I2 : Inv X pins σ H { s with heap := h', toks := tk } := I.kept fun b o e => hkp b o (Nat.ne_of_lt (Heap.lt_size e)) (kept b o e)
  obtain ⟨o, es, ep, t, hg, hc, hdt, _⟩ := hS.get
  refine h _ o n' _ (I2.pins_of fun q hq => ?_) hS hg
  rcases List.mem_cons.mp hq with rfl | hq
  . refine ⟨hg, I.hok.fresh (Nat.le_refl _), Nat.ne_of_gt I.lt, I.nofs (Nat.le_refl _), fun v hv => ?_⟩
    rw [show o.data = _ from hdt] at hv; cases hv
  . exact I2.pin q (List.mem_append_right _ hq)
 have lst : ∀ p vs, v = .ref p -> H p = some (.lst vs) -> RepL X.K ι H ds vs -> wpAny (model X.prog X.w) X.A (call (.type "set") [u]) Q X.xe s := fun p vs ev hp r => by
  subst ev
  cases ru
  obtain ⟨is, rv, pll, _⟩ := I1.list (SqL.of hp)
  obtain ⟨bs, rfl, hbl, hz⟩ := ajd r hd
  have his : is = (ks.zip bs).map fun x => Value.ref x.2 := by
   apply List.ext_getElem?
   intro j
   rw [List.getElem?_map]
   by_cases hj : j < bs.length
   . have e1 : (bs.map V.ref)[j]? = some (.ref bs[j]) := by simp [hj]
     have hj2 : j < is.length := by have := rv.length; simp at this; omega
     have e2 : is[j]? = some is[j] := by simp [hj2]
     have := Vals.getV rv e1 e2
     rw [e2, show is[j] = Value.ref bs[j] from this]
     have hj3 : j < ks.length := by omega
     have hz2 : (ks.zip bs)[j]? = some (ks[j], bs[j]) := by rw [List.getElem?_eq_getElem (by simp; omega)]; simp
     rw [hz2]; rfl
   . have hj2 : ¬ j < is.length := by have := rv.length; simp at this; omega
     rw [List.getElem?_eq_none (by omega), List.getElem?_eq_none (by simp; omega)]; rfl
  refine STb.ac2 (R := fun s' => Q (.ref s.heap.objs.size) s') ?_ fun s' h => h
  refine STb.aod (ahb _ _ H) (ks := ks.zip bs) (items := is.toArray) (by have := hr.hd; exact this) hu fr pll.isList (by simpa using his) (fun x hx => xq I1.hok (hz x hx)) (fun x hx => ⟨hz x hx, fun k hk => hint x.1 (List.of_mem_zip (a := x.1) (b := x.2) hx).1 k hk⟩) (by simp; omega) fun h' tk n' hkp hS => ?_
  refine fin h' tk n' hkp (hS.congr fun k => ?_)
  rw [List.map_fst_zip (by omega)]
 unfold MW.keysOf at hk
 split at hk
 . rename_i n
   split at hk
   . rename_i kvs hM
     cases hk
     rw [aed] at hd
     cases hd
     cases rx with
     | @ref n p e1 =>
      obtain ⟨l, h1, h2⟩ := S.obj n _ p hM e1
      cases ru
      obtain ⟨_, hsm, xs, rel, dd⟩ := adq I1.hok h1
      obtain ⟨k1, k2⟩ := aag rel
      have k3 : xs.map (·.1) = kvs.map (·.1) := k1.trans (jy h2)
      have hl : xs.length = kvs.length := by have := congrArg List.length k3; simpa using this
      refine STb.ac2 (R := fun s' => Q (.ref s.heap.objs.size) s') ?_ fun s' h => h
      refine STb.anb (ahb _ _ H) (by have := hr.un; show X.A.units + 1 + 1 < cLine; omega) fr dd hsm (fun x hx => ⟨k2 x hx, fun k hk => ?_⟩) (by simp at hlen; omega) fun h' n' sb hS => ?_
      . have : x.1 ∈ kvs.map (·.1) := by rw [<- k3]; exact List.mem_map.mpr ⟨x, hx, rfl⟩
        exact hint x.1 this k hk
      . refine fin h' s.toks n' (fun b o hb e => (sb.2 b hb).trans e) (hS.congr fun k => ?_)
        rw [k3]; simp
   . obtain ⟨p, vs, e1, e2, r⟩ := cz S rx hk
     exact lst p vs e1 e2 r
 . obtain ⟨p, vs, e1, e2, r⟩ := cz S rx hk
   exact lst p vs e1 e2 r
theorem ayt {P : Program} {w : World} {H' : Hp} {h h' : Heap} {p : Addr} {o : Obj} {T : List Key -> Prop} {n : Nat} (hS : SetH (ak P w) (KH H) h p T n) (hg : h.get? p = some o) (hg' : h'.get? p = some o)
 (le : ∀ a vs, H a = some (.tup vs) -> H' a = some (.tup vs)) (ok : HOk P w H' h') : SetH (ak P w) (KH H') h' p T n := by
 obtain ⟨xs, o', es, ep, t, D, r⟩ := hS
 have e : o' = o := Option.some.inj (D.get.symm.trans hg)
 subst e
 refine ⟨xs, o', es, ep, t, ⟨hg', D.exa, D.dat, D.tab, D.ent, fun x hx => ?_, D.nod, D.led, D.pla⟩, r⟩
 obtain ⟨_, k1, k2⟩ := D.keys x hx
 exact ⟨xq ok (le _ _ k1), le _ _ k1, k2⟩
theorem aib {xs ys : List (List Kx)} : MW.m8 xs ys = true ↔ ∀ k, k ∈ xs ↔ k ∈ ys := by
 simp only [MW.m8, Bool.and_eq_true, List.all_eq_true, List.any_eq_true, decide_eq_true_eq]
 constructor
 . rintro ⟨h1, h2⟩ k
   exact ⟨fun h => by obtain ⟨y, hy, e⟩ := h1 k h; rw [<- e]; exact hy, fun h => by obtain ⟨y, hy, e⟩ := h2 k h; rw [<- e]; exact hy⟩
 . exact fun h => ⟨fun x hx => ⟨x, (h x).mp hx, rfl⟩, fun y hy => ⟨y, (h y).mpr hy, rfl⟩⟩
theorem as4 {xn : Str} {p1 p2 q1 q2 : Pos} (hr : Room 8 X.A) (hg : Gl X xn) (hm : X.mg xn = none) (hv : bootBuiltins xn = some (.type "set")) (hn : xn ≠ "__name__") (hdb : (xn == ("__debug__" : Str)) = false)
 (ha : PA X [a] (tEs nm W X.K (.cons a' .nil))) (hb : PA X [b] (tEs nm W X.K (.cons b' .nil)))
 (he : starEach [a] X.env = (false, eval a X.env) :: starEach [] X.env) (he2 : starEach [b] X.env = (false, eval b X.env) :: starEach [] X.env)
 (hpl : (backTo q1 (starEach [] X.env)).any (·.1) = false) (hpl2 : (backTo q2 (starEach [] X.env)).any (·.1) = false) :
 PC X .NotEq (.Call (.Name xn p1) [a] [] q1) (.Call (.Name xn p2) [b] [] q2) (tE nm W X.K (.setne a' b')) := by
 intro pins s σ H Q I hh
 obtain ⟨ι, ρ, M, d, M', S, R, e, q⟩ := hh
 rw [MW.afn] at e
 obtain ⟨x, M1, e1, e⟩ := aa e
 cases hk1 : (MW.keysOf M1 x).bind MW.jc with
 | none => rw [hk1] at e; cases e
 | some ks =>
  rw [hk1] at e
  simp only at e
  split at e
  . rename_i pl1
    obtain ⟨y, M2, e2, e⟩ := aa e
    cases hk2 : (MW.keysOf M2 y).bind MW.jc with
    | none => rw [hk2] at e; cases e
    | some ls =>
     rw [hk2] at e
     simp only at e
     split at e
     . rename_i pl2
       cases e
       obtain ⟨ds1, g1, g1'⟩ := Option.bind_eq_some_iff.mp hk1
       obtain ⟨ds2, g2, g2'⟩ := Option.bind_eq_some_iff.mp hk2
       refine wpAny_Call_Name_kw (j5 I hg hm hv ?_ hn hdb)
       refine PyProof.Rows.callWith_type1 (thn (ha q1 pins s σ H (fun vs H1 => ∃ ι1 v, vs = [v] /\ Le ι H ι1 H1 /\ SimM nm X.K ι1 H1 M1 /\ Rep X.K ι1 H1 x v) I ⟨ι, ρ, M, [x], M1, S, R, by simp [e1, Res.bind], fun ι1 H1 vs le S1 r => ?_⟩) fun us s1 ⟨vs, H1, I1, r1, ι1, v, ev, le1, S1, rx⟩ => ?_) he hpl
       . obtain ⟨v, ev, rv⟩ := aac r rfl
         exact ⟨ι1, v, ev, le, S1, rv⟩
       subst ev
       cases r1 with
       | cons rv rn =>
        cases rn
        refine aml hr I1 S1 rx rv g1 g1' pl1 fun p o n s2 I2 hS hgp => ?_
        refine wpAny_Call_Name_kw (j5 I2 hg hm hv ?_ hn hdb)
        refine PyProof.Rows.callWith_type1 (thn (hb q2 _ s2 σ H1 (fun vs H2 => ∃ ι2 v, vs = [v] /\ Le ι1 H1 ι2 H2 /\ SimM nm X.K ι2 H2 M' /\ Rep X.K ι2 H2 y v) I2 ⟨ι1, ρ, M1, [y], M', S1, R.mono le1, by simp [e2, Res.bind], fun ι2 H2 vs le S2 r => ?_⟩) fun us s3 ⟨vs, H2, I3, r2, ι2, v2, ev2, le2, S2, ry⟩ => ?_) he2 hpl2
        . obtain ⟨v, ev, rv⟩ := aac r rfl
          exact ⟨ι2, v, ev, le, S2, rv⟩
        subst ev2
        cases r2 with
        | cons rv2 rn2 =>
         cases rn2
         refine aml hr I3 S2 ry rv2 g2 g2' pl2 fun p' o' n' s4 I4 hS' hgp' => ?_
         have hp : s4.heap.get? p = some o := (I4.pin (p, o) (List.mem_append_right _ (List.mem_cons_of_mem _ List.mem_cons_self))).1
         have hS4 := ayt (H' := H2) hS hgp hp le2.tup I4.hok
         refine STb.aw6 (by have := hr.un; show X.A.units + 1 < cLine; omega) (by have := hr.un; omega) hS4 hS' fun c hc => ?_
         have ec : c = !MW.m8 ks ls := by
          have := aib (xs := ks) (ys := ls)
          cases c <;> cases h : MW.m8 ks ls <;> simp_all
         refine ⟨.bl c, H2, (I4.pins_of fun z hz => I4.pin z (List.mem_append_right _ (List.mem_cons_of_mem _ (List.mem_cons_of_mem _ hz)))), rfl, ?_⟩
         rw [ec]
         exact q ι2 H2 _ (le1.trans le2) S2 (.bl _)
     . cases e
  . cases e
end
section
variable {nm : Nm} {W : Wld} {X : Cx} {a b c o e : Expr} {a' b' c' o' : Ex} {pos pos' apos cpos : Pos} {ι : Io} {H : Hp} {σ : St} {ρ : En} {M M1 M2 : Store} {x y : Dv} {es : List Expr} {es' : Exs}
def rM (nm : Nm) (K : Fg) (m : Bm) : V -> List V -> Hp -> VK -> Prop := fun v vs H Q => ∃ ι M x ds d M', SimM nm K ι H M /\ Rep K ι H x v /\ RepL K ι H ds vs /\ MW.qj m x ds M = .ok d M' /\ (∀ ts, x = .tup ts -> m ≠ .index) /\
 ∀ ι' H' w, Le ι H ι' H' -> SimM nm K ι' H' M' -> Rep K ι' H' d w -> Q w H'
theorem aup {m : Bm} {T id : String} {name : Str} (hT : ∀ ι H M x v, SimM nm X.K ι H M -> Rep X.K ι H x v -> MW.yz m x M = true -> tyV X.K T v H) (pa : PlainAttrs T) (slot : Slot T name id) (hty : typeOf (.builtin id) = pure (.type "method_descriptor"))
 (hm : MtR X id (rM nm X.K m)) (ho : PE X o (tE nm W X.K o')) (ha : PA X (e :: es) (tEs nm W X.K es'))
 (hbase : attributeBase o name X.env (eval o X.env) = eval o X.env)
 (hfew : ((backTo cpos (starEach (e :: es) X.env)).all (fun x => !x.1) && (backToKw cpos (keywordEach [] X.env)).all (fun x => x.1.isSome)
  && decide ((e :: es).length + ([] : List Keyword).length + (if ([] : List Keyword).isEmpty then 0 else 1) < 30)) = true)
 (hline : (apos.endLine == cpos.line) = true) (hs : starEach (e :: es) X.env = (false, eval e X.env) :: starEach es X.env) (hplain : (backTo cpos (starEach es X.env)).any (·.1) = false) :
 PE X (.Call (.Attribute o name apos) (e :: es) [] cpos) (tE nm W X.K (.bm m o' es')) :=
 PE.of (ax6 pa slot hty hm ho ha hbase hfew hline hs hplain) fun σ H Q ι ρ M d M' S R e q => by
  rw [MW.avy] at e
  obtain ⟨x, M1, e1, e⟩ := aa e
  split at e
  . rename_i ht
    obtain ⟨ds, M2, e2, e⟩ := aa e
    exact one S R e1 fun ι1 H1 v le S1 R1 r => ⟨hT ι1 H1 M1 x v S1 r ht, ι1, ρ, M1, ds, M2, S1, R1, e2, fun ι2 H2 vs le2 S2 rs => ⟨ι2, M2, x, ds, d, M', S2, r.mono le2, rs, e, (fun ts hx hm => by subst hx; subst hm; cases ht), fun ι' H' w le' S' r' => q ι' H' w ((le.trans le2).trans le') S' r'⟩⟩
  . cases e
theorem ty_list {m : Bm} (hm : m = .append \/ m = .pop \/ m = .index) (S : SimM nm X.K ι H M) {v : V} (r : Rep X.K ι H x v) (h : MW.yz m x M = true) : tyV X.K "list" v H := by
 have go : ∀ ds, MW.asList M x = some ds -> tyV X.K "list" v H := fun ds hd => by
  obtain ⟨p, vs, rfl, e2, _⟩ := cz S r hd
  exact .inl ⟨rfl, vs, SqL.of e2⟩
 rcases hm with rfl | rfl | rfl
 . cases x <;> simp only [MW.yz] at h <;> try cases h
   split at h
   . rename_i n ds hM
     exact go ds (by simp only [MW.asList, hM])
   . cases h
 . cases x <;> simp only [MW.yz] at h <;> try cases h
   split at h
   . rename_i n ds hM
     exact go ds (by simp only [MW.asList, hM])
   . cases h
 . have h : (MW.asList M x).isSome = true := h
   obtain ⟨ds, hd⟩ := Option.isSome_iff_exists.mp h
   exact go ds hd
theorem aql {ds : List Dv} {d : Dv} {M' : Store} (e : MW.qj .append x ds M = .ok d M') : ∃ n d0 xs, x = .ref n /\ ds = [d0] /\ M[n]? = some (.lst xs) /\ xs.length < 100000 /\ d = .non /\ M' = M.set n (.lst (xs ++ [d0])) := by
 unfold MW.qj at e
 split at e
 . rename_i n d0
   split at e
   . rename_i xs hM
     split at e
     . rename_i hl
       cases e
       exact ⟨_, _, _, rfl, rfl, hM, hl, rfl, rfl⟩
     . cases e
   . cases e
 . rename_i h; cases h
 . rename_i h; cases h
 . rename_i h; cases h
 . cases e
theorem atd {ds : List Dv} {d : Dv} {M' : Store} (e : MW.qj .index x ds M = .ok d M') : ∃ d0 xs j, ds = [d0] /\ MW.cu M x = some xs /\ MW.ae3 M d0 xs = some j /\ d = .int ((j : Nat) : Int) /\ M' = M := by
 match ds, e with
 | [d0], e =>
  have e : Res.ofOpt (((MW.cu M x).bind (MW.ae3 M d0)).map fun j => MW.D.int ((j : Nat) : Int)) M = .ok d M' := by
   rw [<- e]
   cases x <;> simp only [MW.qj] <;> first | rfl | (generalize (MW.cu M _).bind (MW.ae3 M d0) = z; cases z <;> rfl)
  obtain ⟨e1, e2⟩ := fu e
  obtain ⟨j, e3, e4⟩ := Option.map_eq_some_iff.mp e1
  obtain ⟨xs, e6, e7⟩ := Option.bind_eq_some_iff.mp e3
  exact ⟨d0, xs, j, rfl, e6, e7, e4.symm, e2⟩
 | [], e => cases x <;> simp [MW.qj] at e
 | _ :: _ :: _, e => cases x <;> simp [MW.qj] at e
theorem ang : MtR X "list.append" (rM nm X.K .append) := fun pins s σ H v vs u us Q I ru rvs hh => by
 obtain ⟨ι, M, x, ds, d, M', S, r, rs, e, _, q⟩ := hh
 obtain ⟨n, d0, xs, rfl, rfl, hM, hl, rfl, rfl⟩ := aql e
 cases r with
 | ref ha =>
  obtain ⟨ys, h3, h4⟩ := S.obj n _ _ hM ha
  cases rs with
  | cons hd ht =>
   cases ht
   refine afk pins s σ H _ _ u us Q I ru rvs ⟨_, ys, _, rfl, rfl, h3, by rw [<- h4.length]; exact ada hl, ?_⟩
   obtain ⟨S2, le2⟩ := S.put (u := .lst (ys ++ [_])) (o := .lst (xs ++ [_])) hM ha fun le => ⟨_, cg, (h4.mono le).append (.cons (hd.mono le) .nil)⟩
   exact q _ _ _ le2 S2 .non
theorem ag3 : ∀ {bs : List Bool} {j : Nat}, bs.findIdx? id = some j -> bs[j]? = some true /\ ∀ m, m < j -> bs[m]? = some false := fun {bs j} h => by
 obtain ⟨h1, h2, h3⟩ := List.findIdx?_eq_some_iff_getElem.mp h
 refine ⟨by rw [List.getElem?_eq_getElem h1]; simpa using h2, fun m hm => ?_⟩
 have := h3 m hm
 rw [List.getElem?_eq_getElem (by omega)]
 simpa using this
theorem aqu (hr : Room 8 X.A) : MtR X "list.index" (rM nm X.K .index) := fun pins s σ H v vs u us Q I ru rvs hh => by
 obtain ⟨ι, M, x, ds, d, M', S, r, rs, e, nt, q⟩ := hh
 obtain ⟨d0, xs, j, rfl, e1, e2, rfl, rfl⟩ := atd e
 cases rs with
 | cons hd ht =>
  cases ht
  cases rvs with
  | cons hu ht2 =>
   cases ht2
   obtain ⟨bs, e3, e4⟩ := Option.bind_eq_some_iff.mp (show (MW.xf M' d0 xs).bind (·.findIdx? id) = some j from e2)
   obtain ⟨p, ys, rfl, hp, rl⟩ := m5 S r e1
   cases ru
   rcases hp with hp | hp
   . obtain ⟨z, is, n, rv, hl, hg⟩ := I.lstM hp
     obtain ⟨f, g1, g2⟩ := zm (A := X.A.in1) I S ((hr.mono (by decide : 7 <= 8)).in1) rl rv hd hu e3
     obtain ⟨f1, f2⟩ := ag3 e4
     have hb := (jw e3).1
     have hlen : is.length = bs.length := by rw [hb, rl.length, hl]
     have lj : j < is.length := by rw [hlen]; exact (List.getElem?_eq_some_iff.mp f1).1
     have fa : ∀ m (hm : m < is.length), bs[m]? = some (f is[m]) := fun m hm => g2 m _ (List.getElem?_eq_getElem hm)
     have hT : s.TypeIs (.ref p) "list" := ⟨_, hg, rfl⟩
     have hsz : is.length <= sizeLine := by rw [<- hl]; exact z
     rw [sizeLine_eq] at hsz
     refine call_meetsIn F.slot_list_index hT F.entry_list_index (F.args_list_index_2 _ _) (fun A R s h => SeqAt.list_indexAt p is.toArray n none #[] _ f j (by simpa using lj) (by omega) ?_ ?_ _ _ A R s h) ⟨hg, g1, ?_⟩
     . have := fa j lj; rw [f1] at this; simpa using (Option.some.inj this).symm
     . intro m hm hmj
       have hm : m < is.length := by simpa using hm
       have := fa m hm; rw [f2 m hmj] at this; simpa using (Option.some.inj this).symm
     . exact ⟨.int j, H, I.tok _, ⟨_, rfl⟩, q ι H _ (Le.refl _ _) S (.int _)⟩
   . cases r with
     | tup e r => exact absurd rfl (nt _ rfl)
     | vl e n r => rw [hp] at e; cases e
     | fz e r => simp [MW.cu, MW.asList] at e1
     | ref e =>
      obtain ⟨u', q', mu⟩ := S.mem (List.mem_of_getElem? e)
      rw [hp] at mu; exact mu.elim
end
section
variable {nm : Nm} {W : Wld} {X : Cx} {a b c o e : Expr} {a' b' c' o' : Ex} {pos pos' apos cpos : Pos} {ι : Io} {H : Hp} {σ : St} {ρ : En} {M M1 M2 : Store} {x y : Dv} {es : List Expr} {es' : Exs}
theorem asu {l : List (List Kx × Dv)} (h : MW.adg l = true) : ∀ k ∈ l.map (·.1), STb.SmK k := fun k hk => by
 obtain ⟨p, hp, rfl⟩ := List.mem_map.mp hk
 simp only [MW.adg, List.all_eq_true] at h
 have := h p hp
 split at this
 . rename_i i j e
   simp only [Bool.and_eq_true, decide_eq_true_eq] at this
   exact ⟨i, j, this.1.1.1, this.1.1.2, this.1.2, this.2, e⟩
 . cases this
theorem awa {kvs : List (List Kx × Dv)} {l : List (List Key × V)} {p : Addr} (S : SimM nm X.K ι H M) (hp : H p = none) (r : PairsR X.K ι H (fun k k' => k = k') kvs l) :
 SimM nm X.K (ι.add p) (upd H p (.dT l)) (M ++ [.dT kvs]) /\ Le ι H (ι.add p) (upd H p (.dT l)) /\ Rep X.K (ι.add p) (upd H p (.dT l)) (.ref M.length) (.ref p) := by
 obtain ⟨S1, le⟩ := S.new (H' := upd H p (.dT l)) (o := .dT kvs) hp (fun a u e => by rw [au (bc e hp)]; exact e) fun le => ⟨l, cg, r.mono le⟩
 exact ⟨S1, le, .ref (by show (ι.l ++ [p])[M.length]? = some p; rw [<- S.len]; simp)⟩
theorem ave {kvs : List (Kx × Dv)} {l : List (Key × V)} {p : Addr} (S : SimM nm X.K ι H M) (hp : H p = none) (r : PairsR X.K ι H (fun k k' => k = k') kvs l) :
 SimM nm X.K (ι.add p) (upd H p (.dK l)) (M ++ [.dK kvs]) /\ Le ι H (ι.add p) (upd H p (.dK l)) /\ Rep X.K (ι.add p) (upd H p (.dK l)) (.ref M.length) (.ref p) := by
 obtain ⟨S1, le⟩ := S.new (H' := upd H p (.dK l)) (o := .dK kvs) hp (fun a u e => by rw [au (bc e hp)]; exact e) fun le => ⟨l, cg, r.mono le⟩
 exact ⟨S1, le, .ref (by show (ι.l ++ [p])[M.length]? = some p; rw [<- S.len]; simp)⟩
theorem atz : CallR X (.type "dict") (rB nm X.K .dict) := fun pins s σ H vs us Q I rvs hh => by
 obtain ⟨ι, M, ds, d, M', S, r, e, q⟩ := hh
 cases r with
 | nil => simp [MW.bx] at e
 | @cons x v _ _ h t =>
  cases t with
  | cons h2 t2 => cases x <;> simp [MW.bx] at e
  | nil =>
   cases rvs with
   | cons ru rn =>
    cases rn
    cases h with
    | @ref n p hp =>
     cases ru
     have e : (match M[n]? with | some (.dT kvs) => if MW.adg kvs then MW.new (.dT kvs) M else .bad | some (.dK kvs) => MW.new (.dK kvs) M | _ => .bad) = .ok d M' := e
     split at e
     . rename_i kvs hM
       split at e
       . rename_i hs
         cases e
         obtain ⟨l, h1, h2⟩ := S.obj n _ p hM hp
         obtain ⟨z, hsm, xs, rel, dd⟩ := adq I.hok h1
         obtain ⟨k1, k2⟩ := aag rel
         have hl : xs.length = l.length := by have := congrArg List.length k1; simpa using this
         refine STb.ay8 hsm dd (fun x hx => ?_) (by rw [hl]; exact z) fun h' dd' keep => ?_
         . refine asu hs x.1 ?_
           rw [<- jy h2, <- k1]
           exact List.mem_map.mpr ⟨x, hx, rfl⟩
         . have hf : H s.heap.objs.size = none := I.hok.fresh (Nat.le_refl _)
           obtain ⟨S2, le2, r2⟩ := awa (X := X) S hf h2
           refine ⟨.ref s.heap.objs.size, upd H s.heap.objs.size (.dT l), I.laid (a := s.heap.objs.size) (o := .dT l) (t' := s.toks) keep (Nat.le_refl _) ?_, rfl, q _ _ _ le2 S2 r2⟩
           obtain ⟨o, es, ep, g1, g2, g3, g4, g5, g6⟩ := dd'
           exact ⟨z, beq_eq_false_iff_ne.mpr (Ne.symm (Nat.ne_of_lt I.big)), xs, rel.keeps (fun b ys e => by rw [au (bc e hf)]; exact e), o, es, ep, g1, g2, g3, g4, g6⟩
       . cases e
     . rename_i kvs hM
       cases e
       obtain ⟨l, h1, h2⟩ := S.obj n _ p hM hp
       refine ao8 I (.inl h1) fun p' s' hp' I' => ?_
       obtain ⟨S2, le2, r2⟩ := ave (X := X) S hp' h2
       exact ⟨.ref p', _, I', rfl, q _ _ _ le2 S2 r2⟩
     . cases e
    | _ => cases e
end
section
variable {nm : Nm} {W : Wld} {X : Cx} {a b c o e : Expr} {a' b' c' o' : Ex} {pos pos' apos cpos : Pos} {ι : Io} {H : Hp} {σ : St} {ρ : En} {M M1 M2 : Store} {x y : Dv} {es : List Expr} {es' : Exs}
theorem ints_rep {K : Fg} : ∀ {ds : List Dv} {vs : List V} {is : List Value} {ns : List Int}, RepL K ι H ds vs -> Vals vs is -> MW.inL ds = some ns -> ∃ xs : Array (Int × Tok), is.toArray = intItems xs /\ xs.toList.map (·.1) = ns
 | _, _, _, _, .nil, .nil, h => by cases h; exact ⟨#[], by simp [intItems], rfl⟩
 | _, _, _, _, .cons r t, .cons rv tv, h => by
  cases r <;> simp only [MW.inL] at h <;> try cases h
  rename_i i
  obtain ⟨ns', e1, e2⟩ := Option.map_eq_some_iff.mp h
  obtain ⟨xs, g1, g2⟩ := ints_rep t tv e1
  obtain ⟨tk, rfl⟩ := rv
  refine ⟨#[(i, tk)] ++ xs, ?_, by simp [g2, e2]⟩
  have h3 := congrArg Array.toList g1
  apply Array.toList_inj.mp
  simp [intItems] at h3 ⊢
  exact h3
theorem agr : ∀ (l : List Int) (z m : Int), (m = z \/ m ∈ l) -> z <= m -> (∀ a ∈ l, a <= m) -> l.foldl (fun m x => if m < x then x else m) z = m
 | [], z, m, h, _, _ => by rcases h with h | h; exact h.symm; cases h
 | a :: l, z, m, h, hz, hall => by
  rw [List.foldl_cons]
  have ha := hall a List.mem_cons_self
  refine agr l _ m ?_ (by split <;> omega) (fun b hb => hall b (List.mem_cons_of_mem _ hb))
  rcases h with h | h
  . subst h; left; split <;> omega
  . rcases List.mem_cons.mp h with h | h
    . subst h
      by_cases hc : z < m
      . left; rw [if_pos hc]
      . left; rw [if_neg hc]; omega
    . exact .inr h
theorem agu : ∀ (l : List Int) (z m : Int), (m = z \/ m ∈ l) -> m <= z -> (∀ a ∈ l, m <= a) -> l.foldl (fun m x => if x < m then x else m) z = m
 | [], z, m, h, _, _ => by rcases h with h | h; exact h.symm; cases h
 | a :: l, z, m, h, hz, hall => by
  rw [List.foldl_cons]
  have ha := hall a List.mem_cons_self
  refine agu l _ m ?_ (by split <;> omega) (fun b hb => hall b (List.mem_cons_of_mem _ hb))
  rcases h with h | h
  . subst h; left; split <;> omega
  . rcases List.mem_cons.mp h with h | h
    . subst h
      by_cases hc : m < z
      . left; rw [if_pos hc]
      . left; rw [if_neg hc]; omega
    . exact .inr h
theorem aip {ds : List Dv} {d : Dv} {M' : Store} {f : Int -> Int -> Int} {g : Dv -> Option Int} (e : MW.two ds f g M = .ok d M') : M' = M /\ ((∃ i j, ds = [.int i, .int j] /\ d = .int (f i j)) \/ ∃ x m, ds = [x] /\ g x = some m /\ d = .int m) := by
 cases ds with
 | nil => cases e
 | cons x r => cases r with
  | nil =>
   obtain ⟨e1, e2⟩ := fu (show Res.ofOpt ((g x).map MW.D.int) M = .ok d M' from e)
   obtain ⟨m, e3, e4⟩ := Option.map_eq_some_iff.mp e1
   exact ⟨e2, .inr ⟨x, m, rfl, e3, e4.symm⟩⟩
  | cons y r => cases r with
   | nil =>
    cases x <;> try cases e
    cases y <;> cases e
    exact ⟨rfl, .inl ⟨_, _, rfl, rfl⟩⟩
   | cons _ _ => cases e
theorem afy {x : Dv} {h : List Int -> Option Int} {m : Int} (e : ((MW.asList M x).bind MW.inL).bind h = some m) : ∃ xs ns, MW.asList M x = some xs /\ MW.inL xs = some ns /\ h ns = some m := by
 obtain ⟨ns, e5, e6⟩ := Option.bind_eq_some_iff.mp e
 obtain ⟨xs, e7, e8⟩ := Option.bind_eq_some_iff.mp e5
 exact ⟨xs, ns, e7, e8, e6⟩
theorem aqc {ds : List Dv} {d : Dv} {M' : Store} (e : MW.bx .max ds M = .ok d M') : M' = M /\ ((∃ i j, ds = [.int i, .int j] /\ d = .int (if i < j then j else i)) \/ ∃ x xs ns m, ds = [x] /\ MW.asList M x = some xs /\ MW.inL xs = some ns /\ MW.aos ns = some m /\ d = .int m) := by
 obtain ⟨h, h2 | ⟨x, m, h3, h4, h5⟩⟩ := aip e
 . exact ⟨h, .inl h2⟩
 . obtain ⟨xs, ns, g1, g2, g3⟩ := afy h4
   exact ⟨h, .inr ⟨x, xs, ns, m, h3, g1, g2, g3, h5⟩⟩
theorem arh {ds : List Dv} {d : Dv} {M' : Store} (e : MW.bx .min ds M = .ok d M') : M' = M /\ ((∃ i j, ds = [.int i, .int j] /\ d = .int (if j < i then j else i)) \/ ∃ x xs ns m, ds = [x] /\ MW.asList M x = some xs /\ MW.inL xs = some ns /\ MW.atn ns = some m /\ d = .int m) := by
 obtain ⟨h, h2 | ⟨x, m, h3, h4, h5⟩⟩ := aip e
 . exact ⟨h, .inl h2⟩
 . obtain ⟨xs, ns, g1, g2, g3⟩ := afy h4
   exact ⟨h, .inr ⟨x, xs, ns, m, h3, g1, g2, g3, h5⟩⟩
theorem agz {v : V} {us : List Value} (h : Vals [v] us) : ∃ u, us = [u] /\ RelV v u := L2.Vals.one h
theorem yr {xs : Array (Int × Tok)} {i : Nat} (h : i < xs.size) : (xs.toList.map (·.1))[i]? = some (numAt xs i) := by
 simp [numAt, h]
theorem axv (hc : X.calm = true) : CallR X (.builtin "max") (rB nm X.K .max) := fun pins s σ H vs us Q I rvs hh => by
 obtain ⟨ι, M, ds, d, M', S, r, e, q⟩ := hh
 obtain ⟨rfl, ⟨i, j, rfl, rfl⟩ | ⟨x, xs, ns, m, rfl, e1, e2, e3, rfl⟩⟩ := aqc e
 . cases r with
   | cons h1 t1 =>
    cases t1 with
    | cons h2 t2 =>
     cases t2; cases h1; cases h2
     refine amo hc pins s σ H _ us Q I rvs ⟨i, j, rfl, ?_⟩
     have := q ι H _ (Le.refl _ _) S (.int (if i < j then j else i))
     exact this
 . obtain ⟨v, rfl, rv⟩ := aac r rfl
   obtain ⟨u, rfl, ru⟩ := agz rvs
   obtain ⟨p, ws, rfl, hp, rl⟩ := cz S rv e1
   cases ru
   obtain ⟨is, rvl, pl, _⟩ := I.list (SqL.of hp)
   obtain ⟨xa, g1, g2⟩ := ints_rep rl rvl e2
   have hne : 0 < xa.size := by
    cases ns with
    | nil => cases e3
    | cons n ns => have := congrArg List.length g2; simp at this; omega
   refine max_intList (I.ok.hd hc) (by rw [<- g1]; exact pl.isList) hne fun w h' tk hw keep => ?_
   obtain ⟨t, rfl⟩ := intItems_at hw
   obtain ⟨b1, b2⟩ := argBest_gt (numAt xa) (xa.size - 1)
   have hm : m = numAt xa (argBest (fun i j => decide (numAt xa i > numAt xa j)) (xa.size - 1)) := by
    cases hns : ns with
    | nil => rw [hns] at e3; cases e3
    | cons n ns' =>
     rw [hns] at e3
     cases e3
     have mem : ∀ i, i < xa.size -> numAt xa i ∈ n :: ns' := fun i hi => by
      rw [<- hns, <- g2]; exact List.mem_of_getElem? (yr hi)
     have le : ∀ a ∈ n :: ns', a <= numAt xa (argBest (fun i j => decide (numAt xa i > numAt xa j)) (xa.size - 1)) := fun a ha => by
      rw [<- hns, <- g2] at ha
      obtain ⟨i, hi⟩ := List.mem_iff_getElem?.mp ha
      have li : i < xa.size := by have := (List.getElem?_eq_some_iff.mp hi).1; simpa using this
      rw [yr li] at hi
      cases hi
      exact b2 i (by omega)
     exact agr ns' n _ (List.mem_cons.mp (mem _ (by omega))) (le n List.mem_cons_self) (fun a ha => le a (List.mem_cons_of_mem _ ha))
   subst hm
   exact ⟨.int _, H, I.kept keep, ⟨t, rfl⟩, q ι H _ (Le.refl _ _) S (.int _)⟩
end
section
variable {nm : Nm} {W : Wld} {X : Cx} {a b c o e : Expr} {a' b' c' o' : Ex} {pos pos' apos cpos p2 : Pos} {ι : Io} {H : Hp} {σ : St} {ρ : En} {M M1 M2 : Store} {x y : Dv} {es : List Expr} {es' : Exs}
theorem p8 (n d : Nat) (o : Option Int) : HT.sIx n d o = MW.clip n d o := by
 cases o with
 | none => rfl
 | some i =>
  show (if i < 0 then (i + (n : Int)).toNat else min i.toNat n) = (if 0 <= i then min i.toNat n else (i + (n : Int)).toNat)
  by_cases h : i < 0
  . rw [if_pos h, if_neg (by omega)]
  . rw [if_neg h, if_pos (by omega)]
def tO (nm : Nm) (W : Wld) (K : Fg) (o : OEx) : TO := fun σ H Q => ∃ ι ρ M d M', SimM nm K ι H M /\ EnvR K ι H ρ σ /\ o.den W ρ M = .ok d M' /\ ∀ ι' H', Le ι H ι' H' -> SimM nm K ι' H' M' -> Q d H'
theorem PO.weak {e : Option Expr} {t t' : TO} (h : PO X e t) (w : ∀ σ H Q, t' σ H Q -> t σ H Q) : PO X e t' := fun pins s σ H Q I q => h pins s σ H Q I (w σ H Q q)
theorem PO.of {e : Option Expr} {o' : OEx} {t : TO} (h : PO X e t) (w : ∀ σ H Q ι ρ M d M', SimM nm X.K ι H M -> EnvR X.K ι H ρ σ -> o'.den W ρ M = .ok d M' -> (∀ ι' H', Le ι H ι' H' -> SimM nm X.K ι' H' M' -> Q d H') -> t σ H Q) : PO X e (tO nm W X.K o') := PO.weak h fun σ H Q ⟨ι, ρ, M, d, M', S, R, e, q⟩ => w σ H Q ι ρ M d M' S R e q
theorem arw : PO X none (tO nm W X.K .none) := PO.of asl fun σ H Q ι ρ M d M' S R e q => by
 rw [MW.ak3] at e; cases e
 exact q ι H (Le.refl _ _) S
theorem arl (ha : PE X a (tE nm W X.K a')) : PO X (some a) (tO nm W X.K (.some a')) := PO.of (ar7 ha) fun σ H Q ι ρ M d M' S R e q => by
 rw [MW.aln] at e
 obtain ⟨x, M1, e1, e⟩ := aa e
 split at e <;> cases e
 rename_i i
 exact one S R e1 fun ι1 H1 v le S1 R1 r => by
  cases r
  exact ⟨i, rfl, q ι1 H1 le S1⟩
theorem ayh {lo hi : Option Expr} {lo' hi' : OEx} (ha : PE X a (tE nm W X.K a')) (hl : PO X lo (tO nm W X.K lo')) (hh : PO X hi (tO nm W X.K hi')) : PE X (.Subscript a (.Slice lo hi none p2) pos) (tE nm W X.K (.cut a' lo' hi')) :=
 PE.of (anj (SlR.or asn avs) ha hl hh) fun σ H Q ι ρ M d M' S R e q => by
  rw [MW.ars] at e
  obtain ⟨x, M1, e1, e⟩ := aa e
  obtain ⟨l, M2, e2, e⟩ := aa e
  obtain ⟨h, M3, e3, e⟩ := aa e
  obtain ⟨e4, e5⟩ := fu e
  subst e5
  refine one S R e1 fun ι1 H1 v le S1 R1 r => ⟨ι1, ρ, M1, l, M2, S1, R1, e2, fun ι2 H2 le2 S2 => ⟨ι2, ρ, M2, h, _, S2, R1.mono le2, e3, fun ι3 H3 le3 S3 => ?_⟩⟩
  have r3 := (r.mono le2).mono le3
  have fin := fun ι' H' w le' S' r' => q ι' H' w (((le.trans le2).trans le3).trans le') S' r'
  have lst : ∀ ds, MW.asList M' x = some ds -> d = .vl (MW.aa8 ds l h) -> avk X.K v l h H3 Q := fun ds hd ed => by
   obtain ⟨p, vs, rfl, hp, rl⟩ := cz S3 r3 hd
   refine ⟨p, vs, rfl, SqL.of hp, fun p' hp' => ?_⟩
   have : RepL X.K ι3 H3 (MW.aa8 ds l h) (yu vs l h) := by
    unfold MW.aa8 yu
    rw [p8, p8, <- rl.length]
    exact (rl.drop _).take _
   obtain ⟨S4, le4, r4⟩ := ag1 (X := X) S3 hp' this
   subst ed
   exact fin _ _ _ le4 S4 r4
  cases x with
  | tup ds =>
   right
   simp only [MW.cutOp] at e4
   split at e4
   . cases e4
   . rename_i hw
     cases e4
     cases r3 with
     | @tup p _ vs hp rl =>
      refine ⟨p, vs, rfl, SqT.of hp, ?_, fun p' hp' => ?_⟩
      . rw [p8, p8, <- rl.length]; exact hw
      . have : RepL X.K ι3 H3 (MW.aa8 ds l h) (yu vs l h) := by
         unfold MW.aa8 yu
         rw [p8, p8, <- rl.length]
         exact (rl.drop _).take _
        obtain ⟨S4, le4, r4⟩ := uy (X := X) S3 hp' this
        exact fin _ _ _ le4 S4 r4
  | _ =>
   left
   simp only [MW.cutOp] at e4
   obtain ⟨ds, hd, ed⟩ := Option.map_eq_some_iff.mp e4
   exact lst ds hd ed.symm
end
section
variable {nm : Nm} {W : Wld} {X : Cx} {a b c o e : Expr} {a' b' c' o' : Ex} {pos pos' apos cpos p2 : Pos} {ι : Io} {H : Hp} {σ : St} {ρ : En} {M M1 M2 : Store} {x y : Dv} {es : List Expr} {es' : Exs}
theorem ape {t : Blt} {T : String} {n tn : Str} {p p' : Pos} (hk : ∀ ι H M M' x v d, SimM nm X.K ι H M -> Rep X.K ι H x v -> MW.bx t [x] M = .ok d M' -> M' = M /\ ∃ b ty, d = .bl b /\ nq X.K H v ty /\ PySem.W.kitOne X.K ty (.type T) = some b)
 (hg : Gl X n) (hm : X.mg n = none) (hv : bootBuiltins n = some (.builtin "isinstance")) (hn : n ≠ "__name__") (hdb : (n == ("__debug__" : Str)) = false)
 (hg2 : Gl X tn) (hm2 : X.mg tn = none) (hv2 : bootBuiltins tn = some (.type T)) (hn2 : tn ≠ "__name__") (hdb2 : (tn == ("__debug__" : Str)) = false)
 (ha : PE X a (tE nm W X.K a')) (he : starEach [a, .Name tn p'] X.env = (false, eval a X.env) :: starEach [.Name tn p'] X.env) (he2 : starEach [.Name tn p'] X.env = (false, eval (.Name tn p') X.env) :: starEach [] X.env)
 (hpl : (backTo pos (starEach [.Name tn p'] X.env)).any (·.1) = false) : PE X (.Call (.Name n p) [a, .Name tn p'] [] pos) (tE nm W X.K (.blt t (.cons a' .nil))) := by
 intro pins s σ H Q I hh
 obtain ⟨ι, ρ, M, d, M', S, R, e, q⟩ := hh
 rw [MW.aiq] at e
 obtain ⟨ds, M1, e1, e⟩ := aa e
 rw [MW.su] at e1
 obtain ⟨x, M2, e2, e1⟩ := aa e1
 rw [MW.aan] at e1
 cases e1
 refine wpAny_Call_Name_kw (j5 I hg hm hv ?_ hn hdb)
 refine PyProof.Rows.callWith_builtin1 (Q := EP X pins σ Q) ?_ he hpl
 rw [he]
 show wpAny _ _ (spliced ((false, eval a X.env) :: backTo pos (starEach [.Name tn p'] X.env))) _ _ s
 refine Calls.spliced_cons (thn (ha pins s σ H (fun v H1 => ∃ ι1, Le ι H ι1 H1 /\ SimM nm X.K ι1 H1 M1 /\ Rep X.K ι1 H1 x v) I ⟨ι, ρ, M, x, M1, S, R, e2, fun ι1 H1 v le S1 r => ⟨ι1, le, S1, r⟩⟩) fun u s1 ⟨v, H1, I1, r1, ι1, le, S1, r⟩ => ?_)
 rw [he2]
 show wpAny _ _ (spliced ((false, eval (.Name tn p') X.env) :: backTo pos (starEach [] X.env))) _ _ s1
 refine Calls.spliced_cons (j5 I1 hg2 hm2 hv2 ?_ hn2 hdb2)
 refine Calls.spliced_nil ?_
 obtain ⟨rfl, b, ty, rfl, h1, h2⟩ := hk ι1 H1 _ _ x v d S1 r e
 exact ala I1 r1 h1 h2 fun tk => ⟨.bl b, H1, I1.tok _, rfl, q ι1 H1 _ le S1 (.bl b)⟩
theorem apl (hno : ∀ T ∈ ["NoneType", "bool", "int", "str", "tuple", "dict"], PySem.W.kitOne X.K (.type T) (.type "list") = some false) : ∀ ι H M M' x v d, SimM nm X.K ι H M -> Rep X.K ι H x v -> MW.bx .isList [x] M = .ok d M' -> M' = M /\ ∃ b ty, d = .bl b /\ nq X.K H v ty /\ PySem.W.kitOne X.K ty (.type "list") = some b := fun ι H M M' x v d S r e => by
 have yes : PySem.W.kitOne X.K (.type "list") (.type "list") = some true := by unfold PySem.W.kitOne; rw [if_pos (by decide)]
 have e : Res.ofOpt ((MW.isL M x).map MW.D.bl) M = .ok d M' := by rw [<- e]; cases x <;> rfl
 obtain ⟨e1, e2⟩ := fu e
 obtain ⟨b, e3, rfl⟩ := Option.map_eq_some_iff.mp e1
 refine ⟨e2, b, ?_⟩
 cases r with
 | non => cases e3; exact ⟨_, rfl, .non, hno _ (by simp)⟩
 | bl b => cases e3; exact ⟨_, rfl, .bl _, hno _ (by simp)⟩
 | int i => cases e3; exact ⟨_, rfl, .int _, hno _ (by simp)⟩
 | str z => cases e3; exact ⟨_, rfl, .str _, hno _ (by simp)⟩
 | tup h r => cases e3; exact ⟨_, rfl, .tup h, hno _ (by simp)⟩
 | vl h n r => cases e3; exact ⟨_, rfl, .lst h, yes⟩
 | fz e r => cases e3
 | @ref n p hp =>
  have e3 : (match M[n]? with | some (.lst _) => some true | some (.dT _) => some false | some (.dK _) => some false | _ => none) = some b := e3
  split at e3
  . rename_i hM
    cases e3
    obtain ⟨vs, h1, _⟩ := S.obj n _ p hM hp
    exact ⟨_, rfl, .lst h1, yes⟩
  . rename_i hM
    cases e3
    obtain ⟨vs, h1, _⟩ := S.obj n _ p hM hp
    exact ⟨_, rfl, .dT h1, hno _ (by simp)⟩
  . rename_i hM
    cases e3
    obtain ⟨vs, h1, _⟩ := S.obj n _ p hM hp
    exact ⟨_, rfl, .dK h1, hno _ (by simp)⟩
  . cases e3
end
section
variable {nm : Nm} {W : Wld} {X : Cx} {a b c o e : Expr} {a' b' c' o' : Ex} {pos pos' apos cpos : Pos} {ι : Io} {H : Hp} {σ : St} {ρ : En} {M M1 M2 : Store} {x y : Dv} {es : List Expr} {es' : Exs}
theorem axb (hc : X.calm = true) : CallR X (.builtin "min") (rB nm X.K .min) := fun pins s σ H vs us Q I rvs hh => by
 obtain ⟨ι, M, ds, d, M', S, r, e, q⟩ := hh
 obtain ⟨rfl, ⟨i, j, rfl, rfl⟩ | ⟨x, xs, ns, m, rfl, e1, e2, e3, rfl⟩⟩ := arh e
 . cases r with
   | cons h1 t1 =>
    cases t1 with
    | cons h2 t2 =>
     cases t2; cases h1; cases h2
     refine amx hc pins s σ H _ us Q I rvs ⟨i, j, rfl, ?_⟩
     have := q ι H _ (Le.refl _ _) S (.int (if j < i then j else i))
     exact this
 . obtain ⟨v, rfl, rv⟩ := aac r rfl
   obtain ⟨u, rfl, ru⟩ := agz rvs
   obtain ⟨p, ws, rfl, hp, rl⟩ := cz S rv e1
   cases ru
   obtain ⟨is, rvl, pl, _⟩ := I.list (SqL.of hp)
   obtain ⟨xa, g1, g2⟩ := ints_rep rl rvl e2
   have hne : 0 < xa.size := by
    cases ns with
    | nil => cases e3
    | cons n ns => have := congrArg List.length g2; simp at this; omega
   refine min_intList (I.ok.hd hc) (by rw [<- g1]; exact pl.isList) hne fun w h' tk hw keep => ?_
   obtain ⟨t, rfl⟩ := intItems_at hw
   obtain ⟨b1, b2⟩ := argBest_lt (numAt xa) (xa.size - 1)
   have hm : m = numAt xa (argBest (fun i j => decide (numAt xa i < numAt xa j)) (xa.size - 1)) := by
    cases hns : ns with
    | nil => rw [hns] at e3; cases e3
    | cons n ns' =>
     rw [hns] at e3
     cases e3
     have mem : ∀ i, i < xa.size -> numAt xa i ∈ n :: ns' := fun i hi => by
      rw [<- hns, <- g2]; exact List.mem_of_getElem? (yr hi)
     have le : ∀ a ∈ n :: ns', numAt xa (argBest (fun i j => decide (numAt xa i < numAt xa j)) (xa.size - 1)) <= a := fun a ha => by
      rw [<- hns, <- g2] at ha
      obtain ⟨i, hi⟩ := List.mem_iff_getElem?.mp ha
      have li : i < xa.size := by have := (List.getElem?_eq_some_iff.mp hi).1; simpa using this
      rw [yr li] at hi
      cases hi
      exact b2 i (by omega)
     exact agu ns' n _ (List.mem_cons.mp (mem _ (by omega))) (le n List.mem_cons_self) (fun a ha => le a (List.mem_cons_of_mem _ ha))
   subst hm
   exact ⟨.int _, H, I.kept keep, ⟨t, rfl⟩, q ι H _ (Le.refl _ _) S (.int _)⟩
end
section
variable {prog : Program} {w : World} {A : Around} {E : Value -> Shared -> Prop} {s : Shared}
theorem af5 {r : Addr} {a b c : Int} {t u v : Tok} {n : Nat} {Q : List Value -> Shared -> Prop} (hh : A.handled = none) (hr : IsRange s.heap r a b c t u v) (hsmall : Builtin.Range.small a b c = true) (hn : Builtin.Range.rangeSize a b c = n) (hlen : n <= 2 ^ 24)
 (hQ : ∀ (h' : Heap) (tk : Nat) (acc : Array Value), (∀ b o, s.heap.get? b = some o -> h'.get? b = some o) -> ItemsOf (fun i v => ∃ t, v = .int (a + i * c) t) acc n -> Q acc.toList { s with heap := h', toks := tk }) : wpAny (model prog w) A (collect (.ref r)) Q E s := by
 unfold collect
 refine wpAny_bind (wpAny_runValue (codeAny_builtin F.entry_proto_collect ?_))
 rw [Around.under_plainId F.plain_proto_collect _]
 show wpAny _ A.in1 (newList [] >>= fun l => again (.builtin "list.__iadd__" ⟨[l, .ref r], []⟩)) _ _ s
 refine wpAny_bind (wpAny_newObj_type ?_)
 refine wpAny_pure ⟨plainId_quiet F.plain_list_iadd _, codeAny_builtin F.entry_list_iadd ?_⟩
 rw [Around.under_plainId F.plain_list_iadd _]
 show wpAny _ A.in1 (Builtin.List.listExtendWith (.ref s.heap.objs.size) (.ref r) (.ref s.heap.objs.size)) _ _ _
 have keep : ∀ b o, s.heap.get? b = some o -> (s.heap.push { cls := .type "list", data := .seq ([] : List Value).toArray }).get? b = some o := fun b o e => Heap.get?_push_of_some _ e
 have hS0 : (s.heap.push { cls := .type "list", data := .seq ([] : List Value).toArray }).get? s.heap.objs.size = some { cls := .type "list", data := .seq #[] 0 } := Heap.get?_push_size _ rfl
 have ext := wpAny_extend_range (prog := prog) (w := w) (A := A) (R := fun r' s' => ∃ (h' : Heap) (tk : Nat) (acc : Array Value) (c' : Nat), r' = .ok (.ret (.ref s.heap.objs.size)) /\ s' = { s with heap := h', toks := tk } /\ (∀ b o, s.heap.get? b = some o -> h'.get? b = some o)
  /\ h'.get? s.heap.objs.size = some { cls := .type "list", dict := none, data := .seq acc c', slots := #[] } /\ ItemsOf (fun i v => ∃ t, v = .int (a + i * c) t) acc n)
  (s := { s with heap := s.heap.push { cls := .type "list", data := .seq ([] : List Value).toArray } }) hh (keep _ _ hr) hsmall hn hlen s.heap.objs.size (.ref s.heap.objs.size) 0 hS0
  fun h' tk acc c' hk hS hacc => ⟨h', tk, acc, c', rfl, rfl, fun b o e => hk b o (Nat.ne_of_lt (Heap.lt_size e)) (keep b o e), hS, hacc⟩
 have last : ∀ {r' : Result} {s' : Shared}, (∃ (h' : Heap) (tk : Nat) (acc : Array Value) (c' : Nat), r' = .ok (.ret (.ref s.heap.objs.size)) /\ s' = { s with heap := h', toks := tk } /\ (∀ b o, s.heap.get? b = some o -> h'.get? b = some o)
  /\ h'.get? s.heap.objs.size = some { cls := .type "list", dict := none, data := .seq acc c', slots := #[] } /\ ItemsOf (fun i v => ∃ t, v = .int (a + i * c) t) acc n) -> ∃ (h' : Heap) (tk : Nat) (acc : Array Value) (c' : Nat), r' = .ok (.ret (.ref s.heap.objs.size)) /\ s' = { s with heap := h', toks := tk } /\ h'.get? s.heap.objs.size = some { cls := .type "list", dict := none, data := .seq acc c', slots := #[] } /\ Q acc.toList s' := fun ⟨h', tk, acc, c', e1, e2, e3, e4, e5⟩ => ⟨h', tk, acc, c', e1, e2, e4, by rw [e2]; exact hQ h' tk acc e3 e5⟩
 refine wpAny_mono ext (fun fin s' hf => ?_) (fun e s' he => ?_)
 . cases fin with
   | done f =>
    obtain ⟨h', tk, acc, c', e1, rfl, e4, e5⟩ := last hf
    cases e1
    exact wpAny_bind (wpAny_load e4 (wpAny_pure e5))
   | again c' =>
    refine ⟨hf.1, codeAny_mono hf.2 fun r' s'' hr' => ?_⟩
    obtain ⟨h', tk, acc, c', e1, rfl, e4, e5⟩ := last hr'
    subst e1
    exact wpAny_bind (wpAny_load e4 (wpAny_pure e5))
 . obtain ⟨_, _, _, _, e1, _⟩ := last he
   cases e1
theorem adb {Q₁ : Value -> Shared -> Prop} {r : Addr} {a b c : Int} {t u v : Tok} {n : Nat} (hh : A.handled = none) (hr : IsRange s.heap r a b c t u v) (hsmall : Builtin.Range.small a b c = true) (hn : Builtin.Range.rangeSize a b c = n) (hlen : n <= 2 ^ 24)
 (h : ∀ (h' : Heap) (tk : Nat) (acc : Array Value), (∀ b o, s.heap.get? b = some o -> h'.get? b = some o) -> ItemsOf (fun i v => ∃ t, v = .int (a + i * c) t) acc n -> Q₁ (.ref h'.objs.size) { s with heap := h'.push { cls := .type "tuple", data := .seq acc }, toks := tk }) :
 codeAny (model prog w) A (.call (.builtin "tuple.__new__") ⟨[.type "tuple", .ref r], []⟩) (wants Q₁ E) s := by
 refine codeAny_of_tree ?_
 show wpAny _ A.in1 (do checkBuiltinCall "tuple.__new__" ⟨[.type "tuple", .ref r], []⟩; again (.builtin "tuple.__new__" ⟨[.type "tuple", .ref r], []⟩)) _ _ s
 refine wpAny_bind (wpAny_of_eq (F.newCall_tuple_1 _) (wpAny_pure ⟨plainId_quiet F.plain_tuple_new _, codeAny_builtin F.entry_tuple_new ?_⟩))
 rw [Around.under_plainId F.plain_tuple_new _]
 have hsub := sub_tuple_self
 have hinit := init_tuple_lookup
 have hmh := madeHere_tuple
 have hTI : s.TypeIs (.ref r) "range" := ⟨_, hr, rfl⟩
 wp_walk using wpAny_typeOf hTI, af5 (A := A.in1) hh hr hsmall hn hlen
 intro h' tk acc hk hacc
 show wpAny _ _ (Builtin.Tuple.tupleExact acc.toList.toArray >>= fun v => ret v) _ _ _
 unfold Builtin.Tuple.tupleExact
 refine wpAny_bind (wpAny_newObj_type ?_ (by show acc.toList.toArray.size <= sizeLine; simp only [Array.toArray_toList]; rw [hacc.1, sizeLine_eq]; exact hlen))
 refine wpAny_pure ?_
 have e : acc.toList.toArray = acc := by simp
 rw [e]
 exact h h' tk acc hk hacc
theorem ac9 {Q : Value -> Shared -> Prop} {r : Addr} {a b c : Int} {t u v : Tok} {n : Nat} (hh : A.handled = none) (hr : IsRange s.heap r a b c t u v) (hsmall : Builtin.Range.small a b c = true) (hn : Builtin.Range.rangeSize a b c = n) (hlen : n <= 2 ^ 24)
 (hQ : ∀ (h' : Heap) (tk : Nat) (acc : Array Value), (∀ b o, s.heap.get? b = some o -> h'.get? b = some o) -> ItemsOf (fun i v => ∃ t, v = .int (a + i * c) t) acc n -> Q (.ref h'.objs.size) { s with heap := h'.push { cls := .type "tuple", data := .seq acc }, toks := tk }) :
 wpAny (model prog w) A (call (.type "tuple") [.ref r]) Q E s := by
 refine callType_codes (Q₁ := fun obj s₁ => s₁.TypeIs obj "tuple" /\ Q obj s₁) F.called_tuple (F.typeCall_tuple_1 _) F.entry_object_init
  (adb (A := A.in1) hh hr hsmall hn hlen fun h' tk acc hk hacc => ⟨⟨_, Heap.get?_push_size _ rfl, rfl⟩, hQ h' tk acc hk hacc⟩) fun obj s₁ h₁ => ?_
 exact ⟨h₁.1, F.args_object_init_2 obj _, object_init_meets F.called_tuple.init.lookup F.called_tuple.made (by decide) prog w A.in1 _ s₁ ⟨h₁.1, rfl, h₁.2⟩⟩
end
section
variable {nm : Nm} {W : Wld} {X : Cx} {a b c o e : Expr} {a' b' c' o' : Ex} {pos pos' apos cpos p2 : Pos} {ι : Io} {H : Hp} {σ : St} {ρ : En} {M M1 M2 : Store} {x y : Dv} {es : List Expr} {es' : Exs}
theorem ako {acc : Array Value} {n : Nat} (h : ItemsOf (fun i v => ∃ t, v = .int (0 + (i : Int) * 1) t) acc n) : Vals ((List.range n).map fun (k : Nat) => V.int (k : Int)) acc.toList := by
 have go : ∀ (l : List Value) (k : Nat), (∀ (j : Nat) (v : Value), l[j]? = some v -> ∃ t, v = Value.int ((k + j : Nat) : Int) t) -> Vals ((List.range' k l.length).map fun (k : Nat) => V.int (k : Int)) l := by
  intro l
  induction l with
  | nil => intro k _; exact .nil
  | cons v l ih =>
   intro k hk
   rw [List.length_cons, List.range'_succ, List.map_cons]
   refine .cons ?_ (ih (k + 1) fun j v hj => ?_)
   . exact hk 0 v rfl
   . obtain ⟨t, e⟩ := hk (j + 1) v (by simpa using hj)
     exact ⟨t, by rw [e]; congr 1; omega⟩
 have := go acc.toList 0 (fun j v hj => by
  obtain ⟨t, e⟩ := h.2 j v (by simpa using hj)
  exact ⟨t, by rw [e]; congr 1; omega⟩)
 rw [Array.length_toList, h.1, <- List.range_eq_range'] at this
 exact this
theorem akv {K : Fg} (n : Nat) : RepL K ι H ((List.range n).map fun (k : Nat) => MW.D.int (k : Int)) ((List.range n).map fun (k : Nat) => V.int (k : Int)) := by
 generalize List.range n = l
 induction l with
 | nil => exact .nil
 | cons k l ih => exact .cons (.int _) ih
theorem atk {n tn : Str} {p p' q1 q2 : Pos} (hr : Room 8 X.A) (hg : Gl X n) (hm : X.mg n = none) (hv : bootBuiltins n = some (.type "tuple")) (hn : n ≠ "__name__") (hdb : (n == ("__debug__" : Str)) = false)
 (hg2 : Gl X tn) (hm2 : X.mg tn = none) (hv2 : bootBuiltins tn = some (.type "range")) (hn2 : tn ≠ "__name__") (hdb2 : (tn == ("__debug__" : Str)) = false)
 (ha : PA X [a] (tEs nm W X.K (.cons a' .nil)))
 (he : starEach [.Call (.Name tn p') [a] [] q2] X.env = (false, eval (.Call (.Name tn p') [a] [] q2) X.env) :: starEach [] X.env) (hpl : (backTo q1 (starEach [] X.env)).any (·.1) = false)
 (he2 : starEach [a] X.env = (false, eval a X.env) :: starEach [] X.env) (hpl2 : (backTo q2 (starEach [] X.env)).any (·.1) = false) :
 PE X (.Call (.Name n p) [.Call (.Name tn p') [a] [] q2] [] q1) (tE nm W X.K (.rngT a')) := by
 intro pins s σ H Q I hh
 obtain ⟨ι, ρ, M, d, M', S, R, e, q⟩ := hh
 rw [MW.aol] at e
 obtain ⟨x, M1, e1, e⟩ := aa e
 split at e <;> try cases e
 rename_i i
 split at e <;> cases e
 rename_i hi
 refine wpAny_Call_Name_kw (j5 I hg hm hv ?_ hn hdb)
 refine PyProof.Rows.callWith_type1 (Q := EP X pins σ Q) ?_ he hpl
 rw [he]
 show wpAny _ _ (spliced ((false, eval (.Call (.Name tn p') [a] [] q2) X.env) :: backTo q1 (starEach [] X.env))) _ _ s
 refine Calls.spliced_cons ?_
 refine wpAny_Call_Name_kw (j5 I hg2 hm2 hv2 ?_ hn2 hdb2)
 refine PyProof.Rows.callWith_type1 (thn (ha q2 pins s σ H (fun vs H1 => ∃ ι1, vs = [.int i] /\ Le ι H ι1 H1 /\ SimM nm X.K ι1 H1 M') I ⟨ι, ρ, M, [.int i], M', S, R, by simp [e1, Res.bind], fun ι1 H1 vs le S1 r => ?_⟩) fun us s1 ⟨vs, H1, I1, r1, ι1, ev, le1, S1⟩ => ?_) he2 hpl2
 . obtain ⟨v, ev, rv⟩ := aac r rfl
   cases rv
   exact ⟨ι1, ev, le, S1⟩
 subst ev
 obtain ⟨u, rfl, ru⟩ := agz r1
 obtain ⟨t, rfl⟩ := ru
 refine call_range_1 ?_
 show wpAny _ _ (spliced []) _ _ _
 refine Calls.spliced_nil ?_
 have keep : ∀ b o, s1.heap.get? b = some o -> (s1.heap.push { cls := .type "range", data := .fields #[.int 0 s1.toks, .int i t, .int 1 (s1.toks + 1)] }).get? b = some o := fun b o e => Heap.get?_push_of_some _ e
 refine ac9 (n := i.toNat) hr.hd (Heap.get?_push_size _ rfl) (small_one (by omega) (by omega) (by omega) (by omega)) (by rw [rangeSize_one]; split <;> omega) (by omega) fun h' tk acc hk hacc => ?_
 have I2 : Inv X pins σ H1 { s1 with heap := h', toks := tk } := I1.kept fun b o e => hk b o (keep b o e)
 have hz : ((List.range i.toNat).map fun (k : Nat) => V.int (k : Int)).length <= sizeLine := by simp [sizeLine_eq]; omega
 have hf : H1 h'.objs.size = none := I2.hok.fresh (Nat.le_refl _)
 have I3 : Inv X pins σ (upd H1 h'.objs.size (.tup ((List.range i.toNat).map fun (k : Nat) => V.int (k : Int)))) { s1 with heap := h'.push { cls := .type "tuple", data := .seq acc }, toks := tk } :=
  I2.laid (a := h'.objs.size) (t' := tk) (fun b o e => Heap.get?_push_of_some _ e) (Nat.le_refl _) (show ObjOk X.prog X.w _ _ _ (.tup _) from ⟨hz, acc.toList, ako hacc, by simpa using PyProof.Rows.IsTup.new _ _⟩)
 obtain ⟨S2, le2, r2⟩ := uy (X := X) S1 hf (akv i.toNat)
 exact ⟨.ref h'.objs.size, _, I3, rfl, q ι1 _ _ (le1.trans le2) S2 r2⟩
end
end Sm
namespace EnT
open PySem PySem.Spec
open AutoSeq1 (wpAny_loadPart')
section
variable {prog : Program} {w : World} {A : Around} {E : Value -> Shared -> Prop} {s : Shared}
theorem aoc {it t : Addr} {i : Nat} {xs : Array Value} {x : Value} {Q : Value -> Shared -> Prop} (a : s.heap.IsTupleIter it t i) (b : s.heap.IsTuple t xs) (e : xs[i]? = some x)
 (q : ∀ h', h'.IsTupleIter it t (i + 1) -> Heap.SameBut it s.heap h' -> Q x { s with heap := h' }) : wpAny (model prog w) A (Builtin.SmallTypes.nextOf (.ref it)) Q E s := by
 obtain ⟨o, o1, o2, o3⟩ := id a
 obtain ⟨ol, l1, l2, nl, l3⟩ := b
 unfold Builtin.SmallTypes.nextOf
 refine wpAny_bind (wpAny_callSpecial?_slot (name := Str.ofString "__next__") a.typeIs F.slot_tuple_iterator_next (wpAny_call_entry F.slot_tuple_iterator_next a.typeIs F.entry_tuple_iterator_next ?_ (F.args_tuple_iterator_next_1 _)))
 show wpAny _ _ (field (.ref it) 0 >>= _) _ _ s
 refine wpAny_bind (wpAny_field o1 o3 (x := .ref t) rfl ?_)
 show wpAny _ _ (if (Value.ref t == Value.none) = true then _ else field (.ref it) 1 >>= _) _ _ s
 rw [if_neg (show ¬ ((Value.ref t == Value.none) = true) by exact Bool.false_ne_true)]
 refine wpAny_bind (wpAny_field o1 o3 (x := .int i 0) rfl (wpAny_bind (wpAny_seqItems l1 l3 ?_)))
 simp only [Int.toNat_natCast, e]
 refine wpAny_bind (wpAny_setField o1 o3 (by simp) (wpAny_pure ⟨x, rfl, wpAny_pure (q _ ⟨_, Heap.get?_update_self _ o1 (Obj.isFreed_of_fields (Obj.data_mapFields o3 _)), (Obj.cls_mapFields ..).trans o2, ?_⟩ (Heap.SameBut.update ..))⟩))
 rw [Obj.data_mapFields o3]
 simp [rawInt]
theorem arq {it t : Addr} {i : Nat} {xs : Array Value} {Q : Value -> Shared -> Prop} (hd : A.handled = none) (a : s.heap.IsTupleIter it t i) (b : s.heap.IsTuple t xs) (e : xs[i]? = none)
 (q : ∀ h' x, Heap.ExtBut it s.heap h' -> (∃ o, h'.get? x = some o /\ o.cls = .type "StopIteration") -> E (.ref x) { s with heap := h' }) : wpAny (model prog w) A (Builtin.SmallTypes.nextOf (.ref it)) Q E s := by
 obtain ⟨o, o1, o2, o3⟩ := id a
 obtain ⟨ol, l1, l2, nl, l3⟩ := b
 unfold Builtin.SmallTypes.nextOf
 refine wpAny_bind (wpAny_callSpecial?_slot (name := Str.ofString "__next__") a.typeIs F.slot_tuple_iterator_next (wpAny_call_entry F.slot_tuple_iterator_next a.typeIs F.entry_tuple_iterator_next ?_ (F.args_tuple_iterator_next_1 _)))
 show wpAny _ _ (field (.ref it) 0 >>= _) _ _ s
 refine wpAny_bind (wpAny_field o1 o3 (x := .ref t) rfl ?_)
 show wpAny _ _ (if (Value.ref t == Value.none) = true then _ else field (.ref it) 1 >>= _) _ _ s
 rw [if_neg (show ¬ ((Value.ref t == Value.none) = true) by exact Bool.false_ne_true)]
 refine wpAny_bind (wpAny_field o1 o3 (x := .int i 0) rfl (wpAny_bind (wpAny_seqItems l1 l3 ?_)))
 simp only [Int.toNat_natCast, e]
 refine wpAny_bind (wpAny_rule (wpAny_bind (wpAny_setField o1 o3 (by simp) ?_)))
 show wpAny _ _ (newExc (.type "StopIteration") [] >>= raiseNew) _ _ _
 refine wpAny_bind ?_
 simp only [newExc, newTuple]
 refine wpAny_bind (wpAny_newObj_type ?_ (by size_fits))
 refine wpAny_bind (m := firstArgMember _ _) (wpAny_of_eq (a := Value.none) (by first | rfl | (simp only [firstArgMember]; rfl)) (wpAny_newObj_type ?_ (by size_fits)))
 simp only [raiseNew]
 refine wpAny_bind (wpAny_handled ?_)
 first | rw [show A.in1.handled = none by exact hd] | rw [hd]
 exact wpAny_bind (wpAny_pure (wpAny_throw (q _ _ (((Heap.SameBut.update ..).extBut.push _).push _) ⟨_, Heap.get?_push_size _ rfl, rfl⟩)))
end
def ItB (b : Bool) (h : Heap) (it a : Addr) (i : Nat) : Prop := cond b (h.IsTupleIter it a i) (h.IsListIter it a i)
def SqB (b : Bool) (h : Heap) (a : Addr) (xs : Array Value) : Prop := cond b (h.IsTuple a xs) (h.IsList a xs)
theorem ItB.at {b : Bool} {h h' : Heap} {it a : Addr} {i : Nat} (x : ItB b h it a i) (k : ∀ o, h.get? it = some o -> h'.get? it = some o) : ItB b h' it a i := by
 cases b with
 | true => obtain ⟨o, e, r⟩ := x; exact ⟨o, k o e, r⟩
 | false => obtain ⟨o, e, r⟩ := x; exact ⟨o, k o e, r⟩
theorem ItB.obj {b : Bool} {h : Heap} {it a : Addr} {i : Nat} (x : ItB b h it a i) : ∃ o, h.get? it = some o /\ ∀ v, o.data ≠ .cell v := by
 cases b with
 | true => obtain ⟨o, e, c, d⟩ := x; exact ⟨o, e, fun v z => by rw [d] at z; cases z⟩
 | false => obtain ⟨o, e, c, d⟩ := x; exact ⟨o, e, fun v z => by rw [d] at z; cases z⟩
section
variable {prog : Program} {w : World} {A : Around} {E : Value -> Shared -> Prop} {s : Shared} {b : Bool}
theorem ao1 {it t : Addr} {i : Nat} {xs : Array Value} {x : Value} {Q : Value -> Shared -> Prop} (a : ItB b s.heap it t i) (c : SqB b s.heap t xs) (e : xs[i]? = some x)
 (q : ∀ h', ItB b h' it t (i + 1) -> Heap.SameBut it s.heap h' -> Q x { s with heap := h' }) : wpAny (model prog w) A (Builtin.SmallTypes.nextOf (.ref it)) Q E s := by
 cases b with
 | true => exact aoc a c e q
 | false => exact wpAny_nextOf_list_item a c e q
theorem aqj {it t : Addr} {i : Nat} {xs : Array Value} {Q : Value -> Shared -> Prop} (hd : A.handled = none) (a : ItB b s.heap it t i) (c : SqB b s.heap t xs) (e : xs[i]? = none)
 (q : ∀ h' x, Heap.ExtBut it s.heap h' -> (∃ o, h'.get? x = some o /\ o.cls = .type "StopIteration") -> E (.ref x) { s with heap := h' }) : wpAny (model prog w) A (Builtin.SmallTypes.nextOf (.ref it)) Q E s := by
 cases b with
 | true => exact arq hd a c e q
 | false => exact wpAny_nextOf_list_end hd a c e q
theorem aru {e it t : Addr} {i : Nat} {xs : Array Value} {x old : Value} {Q : Value -> Shared -> Prop} (he : IsEnum s.heap e it i old) (a : ItB b s.heap it t i) (c : SqB b s.heap t xs) (ex : xs[i]? = some x) (ne : e ≠ it)
 (q : ∀ h', IsEnumOut h' e it ((i : Int) + 1) x s.heap.objs.size -> ItB b h' it t (i + 1) -> h'.get? s.heap.objs.size = some { cls := .type "tuple", data := .seq #[.int i s.toks, x] } -> h'.objs.size = s.heap.objs.size + 1 ->
  (∀ y o, y ≠ e -> y ≠ it -> s.heap.get? y = some o -> h'.get? y = some o) -> Q (.ref s.heap.objs.size) { s with heap := h', toks := s.toks + 1 }) :
 wpAny (model prog w) A (Builtin.«enumerate.__next__» ⟨[.ref e], []⟩) (fun fin s' => ∃ v, fin = .done (.ret v) /\ Q v s') E s := by
 obtain ⟨hp, g, d, tk, os⟩ := s
 show wpAny _ _ (field (.ref e) 2 >>= _) _ _ _
 refine wpAny_bind (wpAny_field he rfl (x := .ref it) rfl (wpAny_bind (ao1 a c ex fun h1 a1 s1 => ?_)))
 have s1 : Heap.SameBut it hp h1 := s1
 have e1 : IsEnum h1 e it i old := (s1.2 e ne).trans he
 refine wpAny_bind (wpAny_field e1 rfl (x := rawInt i) rfl (wpAny_bind (wpAny_field e1 rfl (x := .none) rfl (wpAny_bind (wpAny_mkInt ?_)))))
 show wpAny _ _ (setField (.ref e) 3 (rawInt ((i : Int) + 1)) >>= _) _ _ ⟨h1, g, d, tk + 1, os⟩
 refine wpAny_bind (wpAny_setField_rec e1 (by simp) fun h2 e2 s2 => ?_)
 have s2 : Heap.SameBut e h1 h2 := s2
 have e2 : IsEnum h2 e it ((i : Int) + 1) old := e2
 refine wpAny_bind (wpAny_setField_rec e2 (by simp) fun h3 e3 s3 => ?_)
 have s3 : Heap.SameBut e h2 h3 := s3
 have e3 : IsEnum h3 e it ((i : Int) + 1) old := e3
 refine wpAny_bind (wpAny_newTuple ?_)
 have n3 : h3.objs.size = hp.objs.size := by rw [s3.1, s2.1, s1.1]
 obtain ⟨h4, d4⟩ : ∃ h4, h4 = h3.push { cls := .type "tuple", data := .seq #[.int i tk, x] } := ⟨_, rfl⟩
 have e4 : IsEnum h4 e it ((i : Int) + 1) old := by rw [d4]; exact Heap.get?_push_of_some _ e3
 have t4 : h4.get? hp.objs.size = some { cls := .type "tuple", data := .seq #[.int i tk, x] } := by rw [d4, <- n3]; exact Heap.get?_push_size _ rfl
 have n4 : h4.objs.size = hp.objs.size + 1 := by rw [d4, Heap.size_push, n3]
 have k3 : ∀ y o, y ≠ e -> h1.get? y = some o -> h4.get? y = some o := fun y o hy z => by rw [d4]; exact Heap.get?_push_of_some _ (s3.extBut y o hy (s2.extBut y o hy z))
 have a4 : ItB b h4 it t (i + 1) := a1.at fun o z => k3 it o (Ne.symm ne) z
 have lt : e < hp.objs.size := Heap.lt_size he
 show wpAny _ _ (Builtin.SmallTypes.ownedTupleIsFree (.ref e) >>= _) _ _ ⟨h3.push _, g, d, tk + 1, os⟩
 rw [n3, <- d4]
 refine wpAny_bind ?_
 unfold Builtin.SmallTypes.ownedTupleIsFree
 refine wpAny_bind (wpAny_field e4 rfl (x := .none) rfl (wpAny_pure ?_))
 simp only [if_true]
 refine wpAny_bind (wpAny_rule (wpAny_bind (wpAny_field e4 rfl (x := old) rfl (wpAny_bind (wpAny_setField_rec e4 (by simp) fun h5 e5 s5 => ?_)))))
 have s5 : Heap.SameBut e h4 h5 := s5
 have e5 : IsEnum h5 e it ((i : Int) + 1) x := e5
 refine wpAny_bind ?_
 unfold Builtin.SmallTypes.ownedTupleHandOut
 refine wpAny_bind (wpAny_setField_rec e5 (by simp) fun h6 e6 s6 => ?_)
 have s6 : Heap.SameBut e h5 h6 := s6
 have e6 : IsEnumOut h6 e it ((i : Int) + 1) x hp.objs.size := e6
 refine wpAny_setField_rec e6 (by simp) fun h7 e7 s7 => ?_
 have s7 : Heap.SameBut e h6 h7 := s7
 have k7 : ∀ y o, y ≠ e -> h4.get? y = some o -> h7.get? y = some o := fun y o hy z => s7.extBut y o hy (s6.extBut y o hy (s5.extBut y o hy z))
 exact wpAny_bind (wpAny_letGo (wpAny_pure ⟨_, rfl, q h7 e7 (a4.at fun o z => k7 it o (Ne.symm ne) z) (k7 _ _ (Nat.ne_of_gt lt) t4) (by rw [s7.1, s6.1, s5.1, n4]) fun y o y1 y2 z => k7 y o y1 (k3 y o y1 (s1.extBut y o y2 z))⟩))
theorem as8 {e it t : Addr} {i : Nat} {xs : Array Value} {x old : Value} {Q : Option Value -> Shared -> Prop} (he : IsEnum s.heap e it i old) (a : ItB b s.heap it t i) (c : SqB b s.heap t xs) (ex : xs[i]? = some x) (ne : e ≠ it)
 (q : ∀ h', IsEnumOut h' e it ((i : Int) + 1) x s.heap.objs.size -> ItB b h' it t (i + 1) -> h'.get? s.heap.objs.size = some { cls := .type "tuple", data := .seq #[.int i s.toks, x] } -> h'.objs.size = s.heap.objs.size + 1 ->
  (∀ y o, y ≠ e -> y ≠ it -> s.heap.get? y = some o -> h'.get? y = some o) -> Q (some (.ref s.heap.objs.size)) { s with heap := h', toks := s.toks + 1 }) : wpAny (model prog w) A (pyNext (.ref e)) Q E s := by
 have ty : s.TypeIs (.ref e) "enumerate" := ⟨_, he, rfl⟩
 unfold pyNext
 refine wpAny_bind (wpAny_attempt (wpAny_callSpecial?_slot (name := Str.ofString "__next__") ty F.slot_enumerate_next (wpAny_call_entry F.slot_enumerate_next ty F.entry_enumerate_next ?_ (F.args_enumerate_next_1 _))))
 exact aru he a c ex ne fun h' y1 y2 y3 y4 y5 => wpAny_pure (q h' y1 y2 y3 y4 y5)
theorem ar8 {e it t : Addr} {i : Nat} {xs : Array Value} {old : Value} {Q : Option Value -> Shared -> Prop} (hd : A.handled = none) (he : IsEnum s.heap e it i old) (a : ItB b s.heap it t i) (c : SqB b s.heap t xs) (ex : xs[i]? = none)
 (q : ∀ h', Heap.ExtBut it s.heap h' -> Q none { s with heap := h' }) : wpAny (model prog w) A (pyNext (.ref e)) Q E s := by
 have ty : s.TypeIs (.ref e) "enumerate" := ⟨_, he, rfl⟩
 unfold pyNext
 refine wpAny_bind (wpAny_attempt (wpAny_callSpecial?_slot (name := Str.ofString "__next__") ty F.slot_enumerate_next (wpAny_call_entry F.slot_enumerate_next ty F.entry_enumerate_next ?_ (F.args_enumerate_next_1 _))))
 show wpAny _ _ (field (.ref e) 2 >>= _) _ _ _
 refine wpAny_bind (wpAny_field he rfl (x := .ref it) rfl (wpAny_bind (aqj hd a c ex fun h' z k ⟨o, o1, o2⟩ => ?_)))
 exact wpAny_bind (wpAny_isInstance (T := "StopIteration") (b := true) ⟨o, o1, o2⟩ isSubtype_stop (wpAny_pure (q _ k)))
theorem aqd (t : Addr) (xs : Array Value) (n : Nat) (dct : Option Addr) (sl : Array (Option Value)) :
 Meets (Builtin.«enumerate.__new__» ⟨[.type "enumerate", .ref t], []⟩) (fun _ R s => s.heap.get? t = some { cls := .type "tuple", dict := dct, data := .seq xs n, slots := sl } /\
  R (.ok (.ret (.ref (s.heap.push { cls := .type "tuple_iterator", data := .fields #[.ref t, .int 0 0] }).objs.size)))
   { s with heap := (s.heap.push { cls := .type "tuple_iterator", data := .fields #[.ref t, .int 0 0] }).push { cls := .type "enumerate", data := .fields #[.none, .bool false, .ref s.heap.objs.size, rawInt 0, .none, .none] } }) :=
 .of_wp fun prog w A R s h => by
  obtain ⟨hp, g, d, tk, os⟩ := s
  obtain ⟨hl, h⟩ := h
  have hsub := sub_enumerate
  have hT : Heap.IsTuple (Shared.heap ⟨hp, g, d, tk, os⟩) t xs := ⟨_, hl, rfl, n, rfl⟩
  wp_walk using wpAny_loadPart' hl
  refine wpAny_stack_any fun st => wpAny_pure ?_
  split
  . rename_i c _ _ _ _ _
    cases (c == Value.type "enumerate") <;> (wp_walk using wpAny_loadPart' hl, wpAny_pyIter_tuple hT) <;> exact ⟨_, rfl, h⟩
  . wp_walk using wpAny_loadPart' hl, wpAny_pyIter_tuple hT
    exact ⟨_, rfl, h⟩
theorem anu {t : Addr} {xs : Array Value} {Q : Value -> Shared -> Prop} (c : s.heap.IsTuple t xs)
 (q : ∀ h', IsEnum h' (s.heap.objs.size + 1) s.heap.objs.size 0 .none -> h'.IsTupleIter s.heap.objs.size t 0 -> h'.objs.size = s.heap.objs.size + 2 ->
  (∀ y o, s.heap.get? y = some o -> h'.get? y = some o) -> Q (.ref (s.heap.objs.size + 1)) { s with heap := h' }) : wpAny (model prog w) A (call (.type "enumerate") [.ref t]) Q E s := by
 obtain ⟨⟨c0, dct, dt, sl⟩, hl, hc, n, hd⟩ := c
 have hc : c0 = .type "tuple" := hc
 have hd : dt = .seq xs n := hd
 subst hc hd
 have n1 : (s.heap.push { cls := .type "tuple_iterator", data := .fields #[.ref t, .int 0 0] }).objs.size = s.heap.objs.size + 1 := Heap.size_push ..
 refine callType_new F.called_enumerate (by decide) (F.typeCall_enumerate_1 _) (F.newCall_enumerate_1 _) (fun obj => F.args_object_init_2 obj _) F.entry_enumerate_new (aqd t xs n dct sl) ⟨hl, ?_⟩
 show _ /\ _
 rw [n1]
 have e1 : IsEnum ((s.heap.push { cls := .type "tuple_iterator", data := .fields #[.ref t, .int 0 0] }).push { cls := .type "enumerate", data := .fields #[.none, .bool false, .ref s.heap.objs.size, rawInt 0, .none, .none] }) (s.heap.objs.size + 1) s.heap.objs.size 0 .none := by
  rw [<- n1]; exact Heap.get?_push_size _ rfl
 exact ⟨⟨_, e1, rfl⟩, q _ e1 ⟨_, Heap.get?_push_of_some _ (Heap.get?_push_size _ rfl), rfl, rfl⟩ (by rw [Heap.size_push, n1]) fun y o z => Heap.get?_push_of_some _ (Heap.get?_push_of_some _ z)⟩
end
end EnT
namespace L2
open PySem PySem.Spec EnT
theorem Inv.turnedTup {X : Cx} {pins : List (Addr × Obj)} {σ : St} {H : Hp} {s : Shared} {h' : Heap} {t' : Nat} {ch : List Addr} {n : Addr} {vs : List V} (I : Inv X pins σ H s) (hf : ∀ b ∈ ch, ud X pins H b)
 (k : ∀ b o, b ∉ ch -> s.heap.get? b = some o -> h'.get? b = some o) (hn : s.heap.objs.size <= n) (new : ObjOk X.prog X.w (upd H n (.tup vs)) h' n (.tup vs)) : Inv X pins σ (upd H n (.tup vs)) { s with heap := h', toks := t' } := by
 have fr : H n = none := I.hok.fresh hn
 have nch : ∀ b u, H b = some u -> b ∉ ch := fun b u e z => by rw [(hf b z).1] at e; cases e
 have old : ∀ b o, s.heap.get? b = some o -> b ≠ n := fun b o e => Nat.ne_of_lt (Nat.lt_of_lt_of_le (Heap.lt_size e) hn)
 refine I.step (g' := s.gens) (d' := s.drawn) (ch := ch) (fun b hb => ⟨(hf b hb).2.2.2.1, (hf b hb).2.1, (hf b hb).2.2.2.2.1, (hf b hb).2.2.2.2.2⟩) (fun b o _ _ hc e _ => k b o hc e) (fun b o _ _ hc e _ => ⟨o.slots, k b o hc e⟩) (fun b o _ e n0 => by rw [au (old b o e)]; exact n0)
  (fun b o hc e => ⟨o, k b o hc e⟩) (fun b xs e => by rw [au (bc e fr)]; exact e) (fun b o u e => by rw [au (bc e fr)]; exact e) (fun b ps e => ⟨#[], by rw [au (bc e fr), e]; simp⟩) (fun m hm => ?_) (fun b u e => ?_) I.bare
 . obtain ⟨o, es, ep, ho, r⟩ := hm
   exact ⟨o, es, ep, k _ o (fun z => (hf _ z).2.1 rfl) ho, r⟩
 . by_cases z : b = n
   . subst z; rw [cg] at e; cases e; exact new
   . rw [au z] at e
     refine (I.hok b u e).stay (fun c v hc q => k c v ?_ q) (fun c q => by rw [au (bc q fr)]; exact q) fun c xs q => by rw [au (bc q fr)]; exact q
     rcases hc with y | y
     . rw [y]; exact nch b u e
     . exact nch c _ y
theorem Inv.turnedL {X : Cx} {pins : List (Addr × Obj)} {σ : St} {H : Hp} {s : Shared} {h' : Heap} {t' : Nat} {ch : List Addr} (I : Inv X pins σ H s) (hf : ∀ b ∈ ch, ud X pins H b)
 (k : ∀ b o, b ∉ ch -> s.heap.get? b = some o -> h'.get? b = some o) : Inv X pins σ H { s with heap := h', toks := t' } := by
 have nch : ∀ b u, H b = some u -> b ∉ ch := fun b u e z => by rw [(hf b z).1] at e; cases e
 refine I.step (g' := s.gens) (d' := s.drawn) (ch := ch) (fun b hb => ⟨(hf b hb).2.2.2.1, (hf b hb).2.1, (hf b hb).2.2.2.2.1, (hf b hb).2.2.2.2.2⟩) (fun b o _ _ hc e _ => k b o hc e) (fun b o _ _ hc e _ => ⟨o.slots, k b o hc e⟩) (fun b o _ e n0 => n0)
  (fun b o hc e => ⟨o, k b o hc e⟩) (fun b xs e => e) (fun b o u e => e) (fun b ps e => ⟨#[], by rw [e]; simp⟩) (fun m hm => ?_) (fun b u e => ?_) I.bare
 . obtain ⟨o, es, ep, ho, r⟩ := hm
   exact ⟨o, es, ep, k _ o (fun z => (hf _ z).2.1 rfl) ho, r⟩
 . refine (I.hok b u e).stay (fun c v hc q => k c v ?_ q) (fun _ q => q) fun _ _ q => q
   rcases hc with y | y
   . rw [y]; exact nch b u e
   . exact nch c _ y
def SqX (b : Bool) (K : Fg) (H : Hp) (a : Addr) (xs : List V) : Prop := cond b (SqT K H a xs) (SqL K H a xs)
theorem Inv.seqX {X : Cx} {pins : List (Addr × Obj)} {σ : St} {H : Hp} {s : Shared} {b : Bool} {a : Addr} {xs : List V} (I : Inv X pins σ H s) (h : SqX b X.K H a xs) : ∃ its, Vals xs its /\ SqB b s.heap a its.toArray := by
 cases b with
 | true => obtain ⟨its, rv, p, hz⟩ := I.tuple h; exact ⟨its, rv, show s.heap.IsTuple a its.toArray from p⟩
 | false => obtain ⟨its, rv, p, hz⟩ := I.list h; exact ⟨its, rv, p.isList⟩
theorem Inv.seqX_inj {X : Cx} {pins : List (Addr × Obj)} {σ : St} {H : Hp} {s : Shared} {b : Bool} {a : Addr} {xs ys : List V} (I : Inv X pins σ H s) (h : SqX b X.K H a xs) (g : SqX b X.K H a ys) : xs = ys := by
 cases b with
 | true => exact I.tuple_inj h g
 | false => exact I.list_inj h g
def Ien (b : Bool) (K : Fg) (a : Addr) : It :=
 ⟨fun i H => ∃ xs x, SqX b K H a xs /\ xs[i]? = some x, fun i H v H' => ∃ p x, v = .ref p /\ H p = none /\ H' = upd H p (.tup [.int (i : Nat), x]) /\ ∀ xs, SqX b K H a xs -> xs[i]? = some x, fun i H => ∃ xs, SqX b K H a xs /\ xs.length <= i⟩
theorem asf {P : Program} {w : World} {K : Fg} {b : Bool} {ts : List Expr} {k0 : Nat} {pt : Pos} (a e it : Addr) (ne : e ≠ it) : Turn P w K (.Tuple ts k0 pt) (Ien b K a) [e, it] e (fun i h => (∃ old, IsEnum h e it ((i : Nat) : Int) old) /\ ItB b h it a i) where
 mem := by simp
 obj := fun i h st c hc => by
  obtain ⟨⟨old, e1⟩, e2⟩ := st
  rcases List.mem_cons.mp hc with z | z
  . subst z; exact ⟨_, e1, fun v z => by cases z⟩
  . have z : c = it := by simpa using z
    subst z; exact e2.obj
 keep := fun i h h' st k => by
  obtain ⟨⟨old, e1⟩, e2⟩ := st
  exact ⟨⟨old, k e (by simp) _ e1⟩, e2.at fun o z => k it (by simp) o z⟩
 item := by
  intro X hP hw hK hc i pins s σ H E I hf st hg
  subst hP hw hK
  obtain ⟨xs, x, hq, hx⟩ := hg
  obtain ⟨its, rv, p⟩ := I.seqX hq
  obtain ⟨u, hu, ru⟩ := rv.get hx
  obtain ⟨⟨old, e1⟩, e2⟩ := st
  have lt : e < s.heap.objs.size := Heap.lt_size e1
  refine as8 e1 e2 p (x := u) (by simpa using hu) ne fun h1 o1 a1 t1 n1 k1 => ⟨_, rfl, ?_⟩
  refine wpAny_letOwnedTupleGo_enum o1 fun h2 o2 s2 => ?_
  have s2 : Heap.SameBut e h1 h2 := s2
  have t2 : h2.get? s.heap.objs.size = some { cls := .type "tuple", data := .seq #[.int i s.toks, u] } := (s2.2 _ (Nat.ne_of_gt lt)).trans t1
  refine ⟨.ref s.heap.objs.size, upd H s.heap.objs.size (.tup [.int (i : Nat), x]), I.turnedTup (t' := s.toks + 1) hf (fun c o hc z => ?_) (Nat.le_refl _) ⟨by show 2 <= sizeLine; decide, [.int i s.toks, u], .cons ⟨s.toks, rfl⟩ (.cons ru .nil), ⟨_, t2, rfl, _, rfl⟩⟩, rfl,
   ⟨_, x, rfl, I.hok.fresh (Nat.le_refl _), rfl, fun ys hy => by rw [I.seqX_inj hy hq]; exact hx⟩, ⟨⟨u, ?_⟩, a1.at fun o z => s2.extBut it o (Ne.symm ne) z⟩, fun c hc => ?_⟩
  . have c1 : c ≠ e := fun z => hc (by simp [z])
    have c2 : c ≠ it := fun z => hc (by simp [z])
    exact s2.extBut c o c1 (k1 c o c1 c2 z)
  . have q : ((i + 1 : Nat) : Int) = (i : Int) + 1 := by push_cast; rfl
    rw [q]; exact o2
  . have lt2 : c < s.heap.objs.size := by
     rcases List.mem_cons.mp hc with z | z
     . rw [z]; exact lt
     . have z : c = it := by simpa using z
       obtain ⟨o, z2, _⟩ := e2.obj
       rw [z]; exact Heap.lt_size z2
    rw [au (Nat.ne_of_lt lt2)]
    exact (hf c hc).1
 done := by
  intro X hP hw hK hc i pins s σ H E I hf st hg
  subst hP hw hK
  obtain ⟨xs, hq, hx⟩ := hg
  obtain ⟨its, rv, p⟩ := I.seqX hq
  obtain ⟨⟨old, e1⟩, e2⟩ := st
  have hl := rv.length
  refine ar8 (I.ok.hd hc) e1 e2 p (by simp; omega) fun h' eb => ⟨rfl, I.turnedL (t' := s.toks) hf fun c o hc z => eb c o (fun y => hc (by simp [y])) z⟩
 self := fun _ _ _ _ _ st h => by
  obtain ⟨⟨old, e1⟩, e2⟩ := st
  exact wpAny_pyIter_enum e1 h
theorem ayy {X : Cx} {ts : List Expr} {k0 : Nat} {pt p pos : Pos} {a : Expr} {ta : TA} (hg : Gl X "enumerate") (hm : X.mg "enumerate" = none) (ha : PA X [a] ta) (hs : starEach [a] X.env = [(false, eval a X.env)]) :
 PI X (.Tuple ts k0 pt) (.Call (.Name "enumerate" p) [a] [] pos) (fun σ H R => ta σ H fun vs H1 => ∃ b q, vs = [.ref q] /\ (∃ xs, SqX b X.K H1 q xs) /\ R (Ien b X.K q) H1) := by
 intro pins s σ H R I h
 refine PyProof.Rows.Call_ (j5 I hg hm (show bootBuiltins "enumerate" = some (.type "enumerate") by decide +kernel) (PyProof.Rows.callWith_type1 (thn (ha pos pins s σ H _ I h) fun us s1 ⟨vs, H1, I1, r1, q1⟩ => ?_) hs rfl))
 obtain ⟨b, q, rfl, ⟨xs, hq⟩, hR⟩ := q1
 cases r1 with
 | cons r rr =>
  cases rr
  cases r
  obtain ⟨its, rv, p⟩ := I1.seqX hq
  have fin : ∀ h', IsEnum h' (s1.heap.objs.size + 1) s1.heap.objs.size 0 .none -> ItB b h' s1.heap.objs.size q 0 -> (∀ y o, s1.heap.get? y = some o -> h'.get? y = some o) ->
   wpAny (model X.prog X.w) X.A (pyIter (.ref (s1.heap.objs.size + 1))) (PIE X pins σ (.Tuple ts k0 pt) R) X.xe { s1 with heap := h' } := fun h' e1 e2 kk => by
   refine wpAny_pyIter_enum e1 ?_
   refine ⟨s1.heap.objs.size + 1, [s1.heap.objs.size + 1, s1.heap.objs.size], _, _, H1, rfl, I1.kept (t' := s1.toks) kk, asf (b := b) q _ _ (Nat.succ_ne_self _), ⟨⟨.none, e1⟩, e2⟩, fun c hc => ?_, hR⟩
   have hle : s1.heap.objs.size <= c := by
    rcases List.mem_cons.mp hc with z | z
    . rw [z]; exact Nat.le_succ _
    . have z : c = s1.heap.objs.size := by simpa using z
      rw [z]; exact Nat.le_refl _
   exact I1.fpOk hle (I1.hok.fresh hle)
  cases b with
  | true => exact anu p fun h' e1 e2 _ kk => fin h' e1 e2 kk
  | false => exact call_enumerate_list p fun h' e1 e2 _ kk => fin h' e1 e2 kk
end L2
namespace Sm
open PySem L2
open MW (Ex Exs OEx Itr Stm Stms Lv Tg Res Store MO Wld Cp Op2 Blt Bm Kx Src)
section
variable {nm : Nm} {W : Wld} {X : Cx} {a b c o : Expr} {a' b' c' o' : Ex} {pos pos' apos : Pos} {ι : Io} {H : Hp} {σ : St} {ρ : En} {M M1 M2 : Store} {x y : Dv} {es : List Expr} {es' : Exs} {k n f : Nat} {fa C : Addr} {fd : FuncData} {ps : List Str} {m : Str}
theorem alz {ds : List Dv} {i : Nat} {d : Dv} (h : (MW.gq ds 0)[i]? = some d) : ∃ z, ds[i]? = some z /\ d = .tup [.int (i : Nat), z] := by
 unfold MW.gq at h
 rw [List.getElem?_map, List.getElem?_zipIdx] at h
 cases e : ds[i]? with
 | none => rw [e] at h; simp at h
 | some z => rw [e] at h; simp at h; exact ⟨z, rfl, h.symm⟩
theorem aja {bb : Bool} {q : Addr} {ds : List Dv} {vs : List V} (r : RepL X.K ι H ds vs) (hk : ∀ ι1 H1, LeX ι H ι1 H1 -> SqX bb X.K H1 q vs) : akx nm X.K ι H (.con (MW.gq ds 0)) (Ien bb X.K q) := fun ι1 H1 M1 le S1 => by
 refine ⟨fun i d hi hd => ?_, fun _ => ⟨vs, hk ι1 H1 le, ?_⟩⟩
 . obtain ⟨z, e1, rfl⟩ := alz (show (MW.gq ds 0)[i]? = some d from hd)
   obtain ⟨v, g1, g2⟩ := (r.monoX le).get e1
   refine ⟨⟨vs, v, hk ι1 H1 le, g1⟩, fun u H2 ⟨p, x, e2, e3, e4, e5⟩ => ?_⟩
   have ex : x = v := by
    have := e5 vs (hk ι1 H1 le)
    rw [g1] at this; cases this; rfl
   subst ex e2 e4
   obtain ⟨S2, le2, r2⟩ := uy (X := X) S1 e3 (.cons (.int _) (.cons g2 .nil))
   exact ⟨le2, S2, r2⟩
 . show vs.length <= (MW.gq ds 0).length
   rw [<- r.length]; simp [MW.gq]
theorem axl {ts : List Expr} {k0 : Nat} {pt pr : Pos} (hg : Gl X "enumerate") (hm : X.mg "enumerate" = none) (ha : PE X a (tE nm W X.K a')) (hst : noStar a = true) : PI X (.Tuple ts k0 pt) (.Call (.Name "enumerate" pr) [a] [] pos) (tI nm W X.K (.enm a')) := by
 intro pins s0 σ H R' I hh
 obtain ⟨ι, ρ, M, s, M', S, R, e, q⟩ := hh
 rw [MW.aep] at e
 obtain ⟨x, M1, e1, e⟩ := aa e
 refine PI.weak (ayy (ts := ts) (k0 := k0) (pt := pt) (p := pr) (pos := pos) hg hm (aal ha ab3 (bu hst _ _)) (bu hst _ _)) (wi' := fun σ0 H0 R0 => σ0 = σ /\ H0 = H /\ R0 = R') (fun σ0 H0 R0 ⟨z1, z2, z3⟩ => ?_) pins s0 σ H R' I ⟨rfl, rfl, rfl⟩
 subst z1 z2 z3
 refine yx (es' := .cons a' .nil) (ds := [x]) (M1 := M1) S R (by rw [MW.su, e1]; simp) fun ι1 H1 vs le S1 R1 r => ?_
 cases r with
 | cons r1 r2 =>
  cases r2
  cases r1 with
  | @tup p ds us h1 rr =>
   cases e
   exact ⟨true, p, rfl, ⟨us, SqT.of h1⟩, q ι1 H1 _ le S1 (aja rr fun ι2 H2 le2 => SqT.of (le2.tup _ _ h1))⟩
  | @vl p ds us h1 n1 rr =>
   cases e
   exact ⟨false, p, rfl, ⟨us, SqL.of h1⟩, q ι1 H1 _ le S1 (aja rr fun ι2 H2 le2 => SqL.of (le2.lst _ _ n1.1 h1))⟩
  | _ => cases e
theorem awk : OpR X (binaryOp .Add) (rOp nm X.K (MW.iz .addL)) :=
 OpR.of op_cat fun v u H Q ι M x y d M' S rv ru e q => by
  have e : MW.ags x y M = .ok d M' := e
  unfold MW.ags at e
  split at e <;> try cases e
  rename_i xs ys h1 h2
  by_cases hl : xs.length + ys.length <= 100000
  case neg => rw [if_neg hl] at e; cases e
  rw [if_pos hl] at e
  obtain ⟨p, vs, rfl, g1, r1⟩ := cz S rv h1
  obtain ⟨p2, vs2, rfl, g2, r2⟩ := cz S ru h2
  refine ⟨p, p2, vs, vs2, rfl, rfl, g1, g2, by rw [<- r1.length, <- r2.length]; exact Nat.le_trans hl aam, fun p3 h3 => ?_⟩
  have e : Res.ok (MW.D.ref M.length) (M ++ [.lst (xs ++ ys)]) = .ok d M' := e
  cases e
  obtain ⟨z1, z2, z3⟩ := ae7 S h3 (r1.append r2)
  exact q _ _ _ z2 z1 z3
theorem asz {mi ci : Nat} {cl : MW.Cl} {pl : Sem Bool} (ho : PE X o (tE nm W X.K o')) (c0 : Cls X.K C) (hme : Meth X.K C m fa) (F : FnOk X.prog X.w X.K X.mg X.base CX0 k fa fd ps (spF nm W X.K 1 f)) (hr : Room k X.A) (hb : Binds X.K fd ps [])
 (huni : ∀ c' cl', W.cls[c']? = some cl' -> ∀ g, cl'.meths.lookup mi = some g -> nm.cls c' = some C /\ g = f) (hno : ∀ i, nm.fld i ≠ m)
 (ht : eval (.Call (.Attribute o m apos) [] [] pos) X.env = (do
  let ov <- eval o X.env
  standAt apos.atName
  let (f, first) <- holding [ov] (getMethod ov m pl)
  callWith pos f first (backTo pos (starEach [] X.env)) (backToKw pos (keywordEach [] X.env)))) :
 PE X (.Call (.Attribute o m apos) [] [] pos) (tE nm W X.K (.meth o' mi .nil)) :=
 PE.of (anl (E := E0) ho c0 hme F hr hb .nil agb ht) fun σ H Q ι ρ M d M' S R e q => by
  rw [MW.km] at e
  obtain ⟨x, M1, e1, e⟩ := aa e
  rw [MW.aan] at e
  refine one S R e1 fun ι1 H1 v le S1 R1 r => ?_
  obtain ⟨j, hx⟩ : ∃ j, x = .ref j := by cases x <;> first | exact ⟨_, rfl⟩ | cases e
  subst hx
  obtain ⟨p, rfl, hp⟩ : ∃ p, v = .ref p /\ ι1.l[j]? = some p := by cases r with | ref z => exact ⟨_, rfl, z⟩
  have e : (match M1[j]? with
   | some (.ins c _) => (match (W.cls[c]?).bind fun C => C.meths.lookup mi with
    | some f => W.call f [.ref j] M1
    | none => .bad)
   | _ => .bad) = Res.ok d M' := e
  cases hM : M1[j]? with
  | none => rw [hM] at e; cases e
  | some ob =>
   rw [hM] at e
   cases ob with
   | ins ci fs =>
    have e : (match (W.cls[ci]?).bind fun C => C.meths.lookup mi with | some f => W.call f [.ref j] M1 | none => .bad) = Res.ok d M' := e
    cases hL : (W.cls[ci]?).bind fun C => C.meths.lookup mi with
    | none => rw [hL] at e; cases e
    | some g =>
     rw [hL] at e
     have e : W.call g [.ref j] M1 = .ok d M' := e
     obtain ⟨cl', h1, h2⟩ := Option.bind_eq_some_iff.mp hL
     obtain ⟨h3, rfl⟩ := huni ci cl' h1 g h2
     obtain ⟨C', dx, l, g1, g2, g3⟩ := S1.obj j _ p hM hp
     rw [h3] at g1
     cases g1
     exact ⟨p, dx, l, rfl, g2, ac3 hno g3, ι1, M1, [.ref j], d, M', S1, .cons r .nil, rfl, e, fun ι' H' v le' S' r' => q ι' H' v (le.trans le') S' r'⟩
   | _ => cases e
theorem aq0 {st : Stmt} {ci : Nat} : PS X st (tS nm W X.K (.raise ci es')) := fun pins s σ H D I hh => by
 obtain ⟨ι, ρ, M, fl, ρ', M', S, R, e, q⟩ := hh
 rw [MW.am1] at e
 obtain ⟨x, M1, e1, e⟩ := aa e
 cases e
theorem ap6 {op : BoolOp} {t : TE} (h : PE X a t) : PE X (.BoolOp op [a] pos) t := fun pins s σ H Q I q => PyProof.Rows.BoolOp_one (h pins s σ H Q I q)
end
end Sm
namespace Ck
open PySem L2 Sm
open MW (Ex Exs OEx Itr Stm Stms Lv Tg Res Store MO Wld Cp Op2 Blt Bm Kx Src)
structure Tab where
 fns : List (Option (Str × Nat))
 cls : List (Option (Str × Nat))
 mts : List (Str × Nat)
 fls : List Str
 csts : List (Str × Int)
noncomputable def wz : List Str := ["len", "tuple", "list", "dict", "max", "min", "isinstance", "range", "enumerate", "set"]
structure TabOk (T : Tab) (nm : Nm) (W : Wld) (k : Nat) (P : Program) (w : World) (K : Fg) (mg : Str -> Option Value) (base : Heap) : Prop where
 fn : ∀ f x n, T.fns[f]? = some (some (x, n)) -> ∃ fa fd ps, FnOk P w K mg base CX0 k fa fd ps (spF nm W K n f) /\ mg x = some (.ref fa) /\ PySem.W.keepIn K (.ref fa) = true /\ Binds K fd ps []
 cl : ∀ c x n, T.cls[c]? = some (some (x, n)) -> ∃ C fa fd ps cl, Mk K C fa /\ FnOk P w K mg base CX0 k fa fd ps (spF nm W K (n + 1) cl.init) /\ mg x = some (.ref C) /\ Binds K fd ps [] /\ W.cls[c]? = some cl /\ nm.cls c = some C
 mt : ∀ m x n, T.mts[m]? = some (x, n) -> ∃ C fa fd ps f, Cls K C /\ Meth K C x fa /\ FnOk P w K mg base CX0 k fa fd ps (spF nm W K (n + 1) f) /\ Binds K fd ps [] /\
  (∀ c' cl', W.cls[c']? = some cl' -> ∀ g, cl'.meths.lookup m = some g -> nm.cls c' = some C /\ g = f) /\ ∀ i, nm.fld i ≠ x
 fl : ∀ f x, T.fls[f]? = some x -> x = nm.fld f /\ ∀ c C, nm.cls c = some C -> Cls K C /\ NoAttr K C x
 cs : ∀ x i, (x, i) ∈ T.csts -> ∃ t, mg x = some (.int i t)
 bt : ∀ x ∈ wz, mg x = none
 kit : ∀ Ty ∈ ["NoneType", "bool", "int", "str", "tuple", "dict"], PySem.W.kitOne K (.type Ty) (.type "list") = some false
structure Ctx where
 N : List Str
 sc : List (Str × NameKind)
 fn : Bool
structure CxOk (T : Tab) (nm : Nm) (W : Wld) (k : Nat) (c : Ctx) (X : Cx) : Prop where
 N : X.N = c.N
 nd : c.N.Nodup
 sc : X.env.scope.names = c.sc
 kd : X.env.scope.kind = .function
 calm : X.calm = true
 room : Room (k + 16) X.A
 fnl : c.fn = true -> (∀ n, X.fn n = true) /\ PassesOwn (model X.prog X.w) X.A X.env X.xe
 tab : TabOk T nm W k X.prog X.w X.K X.mg X.base
noncomputable def abm (n : Str) : Bool := !(n == ("__debug__" : Str)) && (!(n == ("__classdict__" : Str)) && !(n == ("__name__" : Str)))
noncomputable def aez (c : Ctx) (n : Str) : Bool := match c.sc.lookup n with | some .local => true | some .cell => true | some .free => true | _ => false
noncomputable def ao5 (c : Ctx) (n : Str) : Bool := match c.sc.lookup n with | some .local => true | some .cell => c.fn | _ => false
noncomputable def glB (c : Ctx) (n : Str) : Bool := abm n && (match c.sc.lookup n with | some .globalImplicit => true | _ => false)
noncomputable def af8 (c : Ctx) (i : Nat) (n : Str) : Bool := match c.N[i]? with | some m => m == n | none => false
noncomputable def gb : List Expr -> Bool
 | [] => true
 | e :: r => noStar e && gb r
noncomputable def v6 : Expr -> Bool
 | .Name .. => true
 | .Attribute .. => true
 | .Subscript .. => true
 | .Call (.Attribute ..) .. => true
 | _ => false
theorem dm {n : Str} (h : abm n = true) : (n == ("__debug__" : Str)) = false /\ (n == ("__classdict__" : Str)) = false /\ n ≠ "__name__" := by
 simp only [abm, Bool.and_eq_true, Bool.not_eq_true'] at h
 exact ⟨h.1, h.2.1, fun z => by have := h.2.2; rw [z] at this; simp at this⟩
section
variable {T : Tab} {nm : Nm} {W : Wld} {k : Nat} {c : Ctx} {X : Cx}
theorem awl (h : CxOk T nm W k c X) {n : Str} (hv : aez c n = true) : Vis X.env.scope n := by
 unfold Vis
 rw [h.sc]
 unfold aez at hv
 split at hv <;> rename_i e <;> first | exact .inl e | exact .inr (.inl e) | exact .inr (.inr e) | cases hv
theorem avw (h : CxOk T nm W k c X) {n : Str} (hv : ao5 c n = true) : L2.Loc X.env.scope n /\ (X.fn n = true \/ X.env.scope.names.lookup n = some .local) := by
 unfold L2.Loc
 rw [h.sc]
 unfold ao5 at hv
 split at hv
 . rename_i e; exact ⟨.inl e, .inr e⟩
 . rename_i e; exact ⟨.inr e, .inl ((h.fnl hv).1 n)⟩
 . cases hv
theorem o4 (h : CxOk T nm W k c X) {n : Str} (hv : glB c n = true) : Gl X n /\ abm n = true := by
 unfold glB at hv
 rw [Bool.and_eq_true] at hv
 refine ⟨?_, hv.1⟩
 have hv := hv.2
 unfold Gl Env.kindOf
 rw [h.sc]
 split at hv
 . rename_i e; exact e
 . cases hv
theorem slot_of (h : CxOk T nm W k c X) {i : Nat} {n : Str} (hv : af8 c i n = true) : X.N[i]? = some n := by
 rw [h.N]
 unfold af8 at hv
 split at hv
 . rename_i m e; rw [e, eq_of_beq hv]
 . cases hv
theorem ac4 {env : Env} : ∀ {es : List Expr}, gb es = true -> starEach es env = es.map fun e => (false, eval e env)
 | [], _ => rfl
 | e :: r, h => by
  simp only [gb, Bool.and_eq_true] at h
  rw [bu h.1, ac4 h.2]
  rfl
theorem ig {env : Env} {pos : Pos} {es : List Expr} (h : gb es = true) : (backTo pos (starEach es env)).any (·.1) = false := by
 rw [ac4 h]
 simp [backTo]
theorem adx {env : Env} {pos : Pos} {es : List Expr} (h : gb es = true) : (backTo pos (starEach es env)).all (fun x => !x.1) = true := by
 rw [ac4 h]
 simp [backTo]
theorem qm {o : Expr} {n : Str} {env : Env} (h : v6 o = true) : attributeBase o n env (eval o env) = eval o env := by
 cases o <;> first | rfl | (simp [v6] at h)
 rename_i f as kws p
 cases f <;> first | rfl | (simp [v6] at h)
theorem aiz {o : Expr} {m : Str} {apos pos : Pos} {es : List Expr} {env : Env} (h : v6 o = true) (hs : gb es = true) (hl : es.length < 29) (hp : (apos.endLine == pos.line) = true) :
 eval (.Call (.Attribute o m apos) es [] pos) env = (do
  let ov <- eval o env
  standAt apos.atName
  let (f, first) <- holding [ov] (getMethod ov m (do return (<- importBound o env).getD true))
  callWith pos f first (backTo pos (starEach es env)) (backToKw pos (keywordEach [] env))) := by
 have hf : methodCallForm (es.length + 0) (backTo pos (starEach es env)) (backToKw pos (keywordEach [] env)) = true := by
  unfold methodCallForm
  rw [adx hs]
  simp [keywordEach, backToKw]
  omega
 show (do
  let ov <- attributeBase o m env (eval o env)
  standAt apos.atName
  methodCall o m apos pos env ov (es.length + 0) (backTo pos (starEach es env)) (backToKw pos (keywordEach [] env))) = _
 rw [qm h]
 unfold methodCall
 rw [hf]
 have hq : methodCallPos true o env apos pos = pure pos := by
  unfold methodCallPos
  rw [hp]
  rfl
 rw [hq]
 simp only [calleeOf, if_true, pure_bind]
end
noncomputable def onO {α : Type} (o : Option α) (f : α -> Bool) : Bool := match o with | some x => f x | none => false
theorem ao {α : Type} {o : Option α} {f : α -> Bool} (h : onO o f = true) : ∃ x, o = some x /\ f x = true := by
 cases o with
 | none => cases h
 | some x => exact ⟨x, rfl, h⟩
noncomputable def j8 {α : Type} (l : List α) : Option α := match l with | [x] => some x | _ => none
theorem gh {α : Type} {l : List α} {x : α} (h : j8 l = some x) : l = [x] := by
 cases l with
 | nil => cases h
 | cons y r => cases r with
  | nil => cases h; rfl
  | cons _ _ => cases h
noncomputable def dName : Expr -> Option Str | .Name n _ => some n | _ => none
noncomputable def agv : Expr -> Option Const | .Constant k _ _ => some k | _ => none
noncomputable def awt : Expr -> Option (Expr × Operator × Expr) | .BinOp l o r _ => some (l, o, r) | _ => none
noncomputable def dUn : Expr -> Option (UnaryOp × Expr) | .UnaryOp o l _ => some (o, l) | _ => none
noncomputable def akg : Expr -> Option (Expr × List CmpOp × List Expr) | .Compare l o r _ => some (l, o, r) | _ => none
noncomputable def apz : Expr -> Option (BoolOp × List Expr × Pos) | .BoolOp o l p => some (o, l, p) | _ => none
noncomputable def ao9 : Expr -> Option (Expr × Expr × Expr) | .IfExp t l r _ => some (t, l, r) | _ => none
noncomputable def dTup : Expr -> Option (List Expr) | .Tuple l _ _ => some l | _ => none
noncomputable def ant : Expr -> Option (List Expr) | .List l _ => some l | _ => none
noncomputable def aoi : Expr -> Option (List (Option Expr) × List Expr) | .Dict k v _ => some (k, v) | _ => none
noncomputable def ah6 : Expr -> Option (Expr × Expr) | .Subscript l r _ => some (l, r) | _ => none
noncomputable def dSl : Expr -> Option (Option Expr × Option Expr × Option Expr) | .Slice l r s _ => some (l, r, s) | _ => none
noncomputable def dCall : Expr -> Option (Expr × List Expr × List Keyword × Pos) | .Call f l k p => some (f, l, k, p) | _ => none
noncomputable def agk : Expr -> Option (Expr × Str × Pos) | .Attribute l n p => some (l, n, p) | _ => none
noncomputable def acb : Expr -> Option (Expr × List Comprehension × Scope) | .ListComp e g s _ => some (e, g, s) | _ => none
theorem qb {a : Expr} {n : Str} (h : dName a = some n) : ∃ p, a = .Name n p := by cases a <;> cases h <;> exact ⟨_, rfl⟩
theorem acd {a : Expr} {n : Const} (h : agv a = some n) : ∃ k p, a = .Constant n k p := by cases a <;> cases h <;> exact ⟨_, _, rfl⟩
theorem asi {a l r : Expr} {o : Operator} (h : awt a = some (l, o, r)) : ∃ p, a = .BinOp l o r p := by cases a <;> cases h <;> exact ⟨_, rfl⟩
theorem amf {a l : Expr} {o : UnaryOp} (h : dUn a = some (o, l)) : ∃ p, a = .UnaryOp o l p := by cases a <;> cases h <;> exact ⟨_, rfl⟩
theorem aen {a l : Expr} {o : List CmpOp} {r : List Expr} (h : akg a = some (l, o, r)) : ∃ p, a = .Compare l o r p := by cases a <;> cases h <;> exact ⟨_, rfl⟩
theorem apx {a : Expr} {o : BoolOp} {r : List Expr} {p : Pos} (h : apz a = some (o, r, p)) : a = .BoolOp o r p := by cases a <;> cases h <;> rfl
theorem aqq {a t l r : Expr} (h : ao9 a = some (t, l, r)) : ∃ p, a = .IfExp t l r p := by cases a <;> cases h <;> exact ⟨_, rfl⟩
theorem ab4 {a : Expr} {l : List Expr} (h : dTup a = some l) : ∃ k p, a = .Tuple l k p := by cases a <;> cases h <;> exact ⟨_, _, rfl⟩
theorem ain {a : Expr} {l : List Expr} (h : ant a = some l) : ∃ p, a = .List l p := by cases a <;> cases h <;> exact ⟨_, rfl⟩
theorem aiv {a : Expr} {k : List (Option Expr)} {l : List Expr} (h : aoi a = some (k, l)) : ∃ p, a = .Dict k l p := by cases a <;> cases h <;> exact ⟨_, rfl⟩
theorem aek {a l r : Expr} (h : ah6 a = some (l, r)) : ∃ p, a = .Subscript l r p := by cases a <;> cases h <;> exact ⟨_, rfl⟩
theorem avx {a : Expr} {l r s : Option Expr} (h : dSl a = some (l, r, s)) : ∃ p, a = .Slice l r s p := by cases a <;> cases h <;> exact ⟨_, rfl⟩
theorem ag2 {a f : Expr} {l : List Expr} {k : List Keyword} {p : Pos} (h : dCall a = some (f, l, k, p)) : a = .Call f l k p := by cases a <;> cases h <;> rfl
theorem aey {a l : Expr} {n : Str} {p : Pos} (h : agk a = some (l, n, p)) : a = .Attribute l n p := by cases a <;> cases h <;> rfl
theorem aau {a e : Expr} {g : List Comprehension} {s : Scope} (h : acb a = some (e, g, s)) : ∃ p, a = .ListComp e g s p := by cases a <;> cases h <;> exact ⟨_, rfl⟩
noncomputable def dCN (a : Expr) : Option (Str × List Expr) := (dCall a).bind fun q => if q.2.2.1.isEmpty then (dName q.1).map fun n => (n, q.2.1) else none
theorem j4 {a : Expr} {n : Str} {l : List Expr} (h : dCN a = some (n, l)) : ∃ p p', a = .Call (.Name n p) l [] p' := by
 obtain ⟨⟨f, l', k, p⟩, h1, h2⟩ := Option.bind_eq_some_iff.mp h
 split at h2
 . rename_i hk
   obtain ⟨n', h3, h4⟩ := Option.map_eq_some_iff.mp h2
   obtain ⟨p', e⟩ := qb h3
   have e : f = _ := e
   have hk : k = [] := List.isEmpty_iff.mp hk
   cases h4
   exact ⟨p', p, by rw [ag2 h1, e, hk]⟩
 . cases h2
noncomputable def dCA (a : Expr) : Option (Expr × Str × Pos × List Expr × Pos) := (dCall a).bind fun q => if q.2.2.1.isEmpty then (agk q.1).map fun n => (n.1, n.2.1, n.2.2, q.2.1, q.2.2.2) else none
theorem ami {a o : Expr} {n : Str} {ap p : Pos} {l : List Expr} (h : dCA a = some (o, n, ap, l, p)) : a = .Call (.Attribute o n ap) l [] p := by
 obtain ⟨⟨f, l', k, p'⟩, h1, h2⟩ := Option.bind_eq_some_iff.mp h
 split at h2
 . rename_i hk
   obtain ⟨⟨o', n', ap'⟩, h3, h4⟩ := Option.map_eq_some_iff.mp h2
   have e : f = _ := aey h3
   have hk : k = [] := List.isEmpty_iff.mp hk
   cases h4
   rw [ag2 h1, e, hk]
 . cases h2
noncomputable def au9 (l : List Expr) : List Str := l.filterMap dName
noncomputable def ji (e : Expr) : List Str := match dTup e with | some l => au9 l | none => au9 [e]
noncomputable def hid (i : Nat) : Str := ⟨#[0, i]⟩
noncomputable def afh (ts : List Str) (p : Str × Nat) : Str := if ts.contains p.1 = true then hid p.2 else p.1
noncomputable def t8 (N ts : List Str) : List Str := N.zipIdx.map (afh ts) ++ ts
noncomputable def aks (c : Ctx) (names : List (Str × NameKind)) : List (Str × NameKind) := names.map fun y => if (y.2 == NameKind.free && c.sc.lookup y.1 == some .cell) then (y.1, NameKind.cell) else (y.1, y.2)
noncomputable def abv (c : Ctx) (sc : Scope) (ts : List Str) : Ctx := ⟨t8 c.N ts, aks c sc.names, false⟩
noncomputable def aph (c : Ctx) (sc : Scope) (ts : List Str) : Bool :=
 decide (sc.kind = .function) && (sc.names.all (fun y => !(y.2 == NameKind.cell)) && (sc.names.all (fun y => sc.names.lookup y.1 == some y.2) &&
 (sc.names.all (fun y => !(y.2 == NameKind.free) || (c.sc.lookup y.1 == some .cell || c.sc.lookup y.1 == some .free)) && (decide ((t8 c.N ts).Nodup) &&
 c.N.zipIdx.all (fun p => !(aez (abv c sc ts) (afh ts p)) || (afh ts p == p.1 && sc.names.lookup (afh ts p) == some .free))))))
noncomputable def auq : Op2 -> Operator
 | .add => .Add | .addL => .Add | .sub => .Sub | .mul => .Mult | .fdiv => .FloorDiv | .mod => .Mod | .pow => .Pow
noncomputable def aj1 : Cp -> Option CmpOp
 | .eq => some .Eq | .ne => some .NotEq | .lt => some .Lt | .le => some .LtE | .gt => some .Gt | .ge => some .GtE | .inn => some .In | .notin => some .NotIn
 | .is => none | .isnot => none
noncomputable def aoe : Blt -> Option Str
 | .len => some "len" | .tuple => some "tuple" | .list => some "list" | .dict => some "dict" | .max => some "max" | .min => some "min"
 | _ => none
noncomputable def bmN : Bm -> Option Str
 | .append => some "append" | .index => some "index"
 | _ => none
noncomputable def aow (T : Tab) (c : Ctx) (d : MW.D) (a : Expr) : Bool :=
 match d with
 | .int i => onO (agv a) (fun k => decide (k = .int i)) || onO (dName a) fun n => glB c n && T.csts.contains (n, i)
 | .bl i => onO (agv a) fun k => decide (k = .bool i)
 | .non => onO (agv a) fun k => decide (k = .none)
 | .str s => onO (agv a) fun k => decide (k = .str s)
 | _ => false
noncomputable def tg1 (c : Ctx) (lo i : Nat) (e : Expr) : Bool := onO (dName e) fun n => af8 c i n && (ao5 c n && decide (lo <= i))
noncomputable def aes (c : Ctx) (lo : Nat) : List Nat -> List Expr -> Bool
 | [], [] => true
 | i :: is, e :: ts => tg1 c lo i e && aes c lo is ts
 | _, _ => false
noncomputable def tgB (c : Ctx) (lo : Nat) (t : Tg) (e : Expr) : Bool :=
 match t with
 | .name i => tg1 c lo i e
 | .names is => onO (dTup e) fun ts => aes c lo is ts
noncomputable def ph (e : Expr) : Bool := (ao9 e).isNone
noncomputable def fnB (l : List (Option (Str × Nat))) (f : Nat) (n : Str) (k : Nat) : Bool := decide (l[f]? = some (some (n, k)))
noncomputable def mtB (l : List (Str × Nat)) (f : Nat) (n : Str) (k : Nat) : Bool := decide (l[f]? = some (n, k))
noncomputable def flB (l : List Str) (f : Nat) (n : Str) : Bool := decide (l[f]? = some n)
noncomputable def age (c : Ctx) (v : Bool) (k : Nat) (t : Tg) (g : Comprehension) (sc : Scope) : Bool :=
 (v && aph c sc (ji g.target)) && ((k == (ji g.target).length) && (tgB (abv c sc (ji g.target)) c.N.length t g.target && (je g.iter && decide (g.is_async = 0))))
noncomputable def aka (o : BoolOp) (a : Expr) (x y : Expr -> Bool) : Bool :=
 onO (apz a) fun q => decide (q.1 = o) && (match q.2.1 with
  | l :: r :: rest => (ph l && x l) && (match rest with | [] => ph r && y r | _ :: _ => y (.BoolOp o (r :: rest) q.2.2))
  | _ => false)
mutual
noncomputable def az (T : Tab) : Ex -> Ctx -> Expr -> Bool
 | .var i, c, a => onO (dName a) fun n => af8 c i n && (aez c n && abm n)
 | .cst d, c, a => aow T c d a
 | .bin op x y, c, a => onO (awt a) fun q => decide (q.2.1 = auq op) && (az T x c q.1 && az T y c q.2.2)
 | .neg x, c, a => onO (dUn a) fun q => decide (q.1 = .USub) && az T x c q.2
 | .cmp op x y, c, a => onO (akg a) fun q => onO (j8 q.2.1) fun o => onO (j8 q.2.2) fun r => decide (aj1 op = some o) && (je r && (az T x c q.1 && az T y c r))
 | .chain o1 o2 x y z, c, a => onO (akg a) fun q => match q.2.1, q.2.2 with
  | [p1, p2], [r, s] => (decide (aj1 o1 = some p1) && decide (aj1 o2 = some p2)) && (je s && (az T x c q.1 && (az T y c r && az T z c s)))
  | _, _ => false
 | .and x y, c, a => aka .And a (az T x c) (az T y c)
 | .or x y, c, a => aka .Or a (az T x c) (az T y c)
 | .not x, c, a => onO (dUn a) fun q => decide (q.1 = .Not) && (ph q.2 && az T x c q.2)
 | .ite t x y, c, a => onO (ao9 a) fun q => ph q.1 && (az T t c q.1 && (az T x c q.2.1 && az T y c q.2.2))
 | .tup es, c, a => onO (dTup a) fun l => decide (Exs.len es <= 1000) && jf T es c l
 | .lst es, c, a => onO (ant a) fun l => decide (Exs.len es <= 1000) && jf T es c l
 | .vlst es, c, a => onO (ant a) fun l => decide (Exs.len es <= 1000) && jf T es c l
 | .dicT, _, a => onO (aoi a) fun q => q.1.isEmpty && q.2.isEmpty
 | .dicK, _, a => onO (aoi a) fun q => q.1.isEmpty && q.2.isEmpty
 | .ix x y, c, a => onO (ah6 a) fun q => aca q.2 && (az T x c q.1 && az T y c q.2)
 | .cut x lo hi, c, a => onO (ah6 a) fun q => onO (dSl q.2) fun s => s.2.2.isNone && (az T x c q.1 && (ag9 T lo c s.1 && ag9 T hi c s.2.1))
 | .call f es, c, a => onO (dCN a) fun q => (fnB T.fns f q.1 (Exs.len es) && (glB c q.1 && !q.2.isEmpty)) && jf T es c q.2
 | .make f es, c, a => onO (dCN a) fun q => (fnB T.cls f q.1 (Exs.len es) && (glB c q.1 && !q.2.isEmpty)) && jf T es c q.2
 | .meth o m es, c, a => onO (dCA a) fun q => ((mtB T.mts m q.2.1 (Exs.len es) && v6 q.1) && (decide (q.2.2.2.1.length < 29) && (q.2.2.1.endLine == q.2.2.2.2.line))) && (az T o c q.1 && jf T es c q.2.2.2.1)
 | .fld o f, c, a => onO (agk a) fun q => (flB T.fls f q.2.1 && v6 q.1) && az T o c q.1
 | .blt .isList (.cons x .nil), c, a => onO (dCN a) fun q => match q.2 with
  | [l, t] => onO (dName t) fun tn => (decide (q.1 = "isinstance") && decide (tn = "list")) && ((glB c q.1 && glB c tn) && (noStar l && az T x c l))
  | _ => false
 | .blt b es, c, a => onO (dCN a) fun q => (decide (aoe b = some q.1) && (glB c q.1 && !q.2.isEmpty)) && jf T es c q.2
 | .bm m o es, c, a => onO (dCA a) fun q => ((decide (bmN m = some q.2.1) && v6 q.1) && (decide (q.2.2.2.1.length < 29) && ((q.2.2.1.endLine == q.2.2.2.2.line) && !q.2.2.2.1.isEmpty))) && (az T o c q.1 && jf T es c q.2.2.2.1)
 | .comp v k t it e, c, a => onO (acb a) fun q => onO (j8 q.2.1) fun g => (age c v k t g q.2.2 && g.ifs.isEmpty) && (abn T it c g.target g.iter && az T e (abv c q.2.2 (ji g.target)) q.1)
 | .compif v k t it i e, c, a => onO (acb a) fun q => onO (j8 q.2.1) fun g => onO (j8 g.ifs) fun d => (age c v k t g q.2.2 && ph d) && (abn T it c g.target g.iter && (az T i (abv c q.2.2 (ji g.target)) d && az T e (abv c q.2.2 (ji g.target)) q.1))
 | .setne x y, c, a => onO (akg a) fun q => onO (j8 q.2.1) fun o => onO (j8 q.2.2) fun r => onO (dCN q.1) fun u => onO (dCN r) fun v => onO (j8 u.2) fun l => onO (j8 v.2) fun m =>
  ((decide (o = .NotEq) && decide (u.1 = "set")) && (decide (v.1 = "set") && glB c u.1)) && ((noStar l && noStar m) && (az T x c l && az T y c m))
 | .rngT x, c, a => onO (dCN a) fun q => onO (j8 q.2) fun r => onO (dCN r) fun u => onO (j8 u.2) fun l => ((decide (q.1 = "tuple") && decide (u.1 = "range")) && (glB c q.1 && glB c u.1)) && (noStar l && az T x c l)
 | .rngL _, _, _ => false
noncomputable def jf (T : Tab) : Exs -> Ctx -> List Expr -> Bool
 | .nil, _, a => a.isEmpty
 | .cons e es, c, a => match a with | l :: ls => noStar l && (az T e c l && jf T es c ls) | _ => false
noncomputable def ag9 (T : Tab) : OEx -> Ctx -> Option Expr -> Bool
 | .none, _, a => a.isNone
 | .some e, c, a => onO a (az T e c)
noncomputable def abn (T : Tab) : Itr -> Ctx -> Expr -> Expr -> Bool
 | .val e, c, _, a => az T e c a
 | .rng e, c, _, a => onO (dCN a) fun q => onO (j8 q.2) fun l => (decide (q.1 = "range") && glB c q.1) && (noStar l && az T e c l)
 | .enm e, c, tg, a => onO (dCN a) fun q => onO (j8 q.2) fun l => ((dTup tg).isSome && (decide (q.1 = "enumerate") && glB c q.1)) && (noStar l && az T e c l)
 | .zip _ _, _, _, _ => false
end
section
variable {T : Tab} {nm : Nm} {W : Wld} {k : Nat} {c : Ctx} {X : Cx}
theorem abd (h : CxOk T nm W k c X) (sc : Scope) : (relabel sc X.env).names = aks c sc.names := by
 unfold relabel aks
 refine List.map_congr_left fun y _ => ?_
 obtain ⟨n, kd⟩ := y
 show (if (kd == NameKind.free && X.env.scope.kind == .function && X.env.kindOf n == some .cell) = true then _ else _) = _
 have e : (kd == NameKind.free && X.env.scope.kind == .function && X.env.kindOf n == some .cell) = (kd == NameKind.free && c.sc.lookup n == some .cell) := by
  unfold Env.kindOf
  rw [h.kd, h.sc]
  simp
 rw [e]
theorem auw (h : CxOk T nm W k c X) {sc : Scope} {ts : List Str} (hb : aph c sc ts = true) : BlkOk X (t8 c.N ts) sc /\ ∀ C fp s H, CxOk T nm W k (abv c sc ts) (blk X (t8 c.N ts) sc C fp s H) := by
 simp only [aph, Bool.and_eq_true, decide_eq_true_eq, List.all_eq_true] at hb
 obtain ⟨h1, h2, h3, h4, h5, h6⟩ := hb
 have uniq : ∀ x kd, (x, kd) ∈ sc.names -> sc.names.lookup x = some kd := fun x kd m => by have := h3 (x, kd) m; simpa using this
 refine ⟨⟨h1, fun y m => by have := h2 y m; simpa using this, fun y m e => by rw [uniq y.1 y.2 m, e], fun y m e => ?_, uniq, ?_, fun i x hi hx hv => ?_⟩, fun C fp s H => ⟨rfl, h5, abd h sc, h1, h.calm, h.room, (fun z => by cases z), h.tab⟩⟩
 . have := h4 y m
   rw [e] at this
   unfold Env.kindOf
   rw [h.sc]
   simpa using this
 . rw [h.N]; simp [t8]
 . rw [h.N] at hi
   have hl : i < (c.N.zipIdx.map (afh ts)).length := by simpa using hi
   unfold t8 at hx
   rw [List.getElem?_append_left hl, List.getElem?_map, List.getElem?_zipIdx] at hx
   obtain ⟨n, hn⟩ : ∃ n, c.N[i]? = some n := ⟨c.N[i], by simp [hi]⟩
   rw [hn] at hx
   have hx : afh ts (n, i) = x := by simpa using hx
   have m : (n, i) ∈ c.N.zipIdx := by rw [List.mem_iff_getElem?]; exact ⟨i, by rw [List.getElem?_zipIdx, hn]; simp⟩
   have q := h6 (n, i) m
   rw [hx] at q
   have v : aez (abv c sc ts) x = true := by
    unfold Vis at hv
    rw [abd h] at hv
    unfold aez
    show (match (aks c sc.names).lookup x with | some .local => true | some .cell => true | some .free => true | _ => false) = true
    rcases hv with e | e | e <;> rw [e]
   rw [v] at q
   simp only [Bool.not_true, Bool.false_or, Bool.and_eq_true] at q
   rw [h.N, hn]
   have e1 : x = n := eq_of_beq q.1
   exact ⟨by rw [e1], by have := q.2; simpa using this⟩
theorem ay3 {op : Op2} {o : Operator} (h : o = auq op) : OpR X (binaryOp o) (rOp nm X.K (MW.iz op)) := by
 subst h
 cases op with
 | add => exact ay1
 | addL => exact awk
 | sub => exact ax2
 | mul => exact ax9
 | fdiv => exact atv
 | mod => exact aw1
 | pow => exact aym
theorem ajw (hr : Room 8 X.A) {op : Cp} {o : CmpOp} (h : aj1 op = some o) : OpR X (compareOp o) (rCp nm X.K op) := by
 have h6 : Room 6 X.A := hr.mono (by decide)
 cases op with
 | eq => cases h; exact a0k h6
 | ne => cases h; exact azs h6
 | lt => cases h; exact az1
 | le => cases h; exact azi
 | gt => cases h; exact azf
 | ge => cases h; exact a0f
 | inn => cases h; exact azx hr
 | notin => cases h; exact aqi hr
 | is => cases h
 | isnot => cases h
theorem ahi (h : CxOk T nm W k c X) {lo i : Nat} {e : Expr} (hb : tg1 c lo i e = true) : ∃ n p, e = .Name n p /\ X.N[i]? = some n /\ L2.Loc X.env.scope n /\ (X.fn n = true \/ X.env.scope.names.lookup n = some .local) /\ lo <= i := by
 obtain ⟨n, h1, h2⟩ := ao hb
 obtain ⟨p, rfl⟩ := qb h1
 simp only [Bool.and_eq_true, decide_eq_true_eq] at h2
 obtain ⟨l1, l2⟩ := avw h h2.2.1
 exact ⟨n, p, rfl, slot_of h h2.1, l1, l2, h2.2.2⟩
theorem al5 (h : CxOk T nm W k c X) {lo : Nat} : ∀ {is : List Nat} {ts : List Expr}, aes c lo is ts = true -> ql X ts is /\ ∀ i ∈ is, lo <= i
 | [], [], _ => ⟨.nil, by simp⟩
 | [], _ :: _, e => by cases e
 | _ :: _, [], e => by cases e
 | i :: is, a :: ts, e => by
  unfold aes at e
  rw [Bool.and_eq_true] at e
  obtain ⟨n, p, rfl, e1, e2, e3, e4⟩ := ahi h e.1
  obtain ⟨g1, g2⟩ := al5 h e.2
  refine ⟨.cons e1 e2 e3 g1, fun j hj => ?_⟩
  rcases List.mem_cons.mp hj with z | z
  . rw [z]; exact e4
  . exact g2 j z
theorem agd (h : CxOk T nm W k c X) {lo : Nat} {t : Tg} {e : Expr} (hb : tgB c lo t e = true) : PG X e (tGt nm X.K t) /\ ∀ i ∈ il t, lo <= i := by
 have nd : X.N.Nodup := by rw [h.N]; exact h.nd
 cases t with
 | name i =>
  obtain ⟨n, p, rfl, e1, e2, e3, e4⟩ := ahi h hb
  exact ⟨au2 nd e1 e2 e3, fun i hi => by rw [List.mem_singleton.mp hi]; exact e4⟩
 | names is =>
  obtain ⟨ts, h1, h2⟩ := ao hb
  obtain ⟨k0, p, rfl⟩ := ab4 h1
  obtain ⟨g1, g2⟩ := al5 h h2
  exact ⟨ar4 h.calm nd g1, g2⟩
structure Got (nm : Nm) (W : Wld) (X : Cx) (a : Expr) (e : Ex) : Prop where
 v : PE X a (tE nm W X.K e)
 q : ph a = true -> PT X a (tQ nm W X.K e)
 w : ∀ op ls p, a = .BoolOp op ls p -> PW X a (tQ nm W X.K e)
noncomputable def awf : Expr -> Bool
 | .BoolOp .. => false
 | .UnaryOp .Not _ _ => false
 | .IfExp .. => false
 | .Compare .. => false
 | _ => true
theorem dh {a : Expr} {e : Ex} (h : PE X a (tE nm W X.K e)) (hv : awf a = true) : Got nm W X a e := by
 refine ⟨h, fun hq => ay5 h fun whole => ?_, fun op ls p z => by subst z; cases hv⟩
 cases a <;> first | rfl | (cases hv) | skip
 rename_i op x p
 cases op <;> first | rfl | cases hv
theorem awc (h : CxOk T nm W k c X) {d : MW.D} {a : Expr} (hb : aow T c d a = true) : PE X a (tE nm W X.K (.cst d)) /\ awf a = true := by
 cases d with
 | int i =>
  simp only [aow, Bool.or_eq_true] at hb
  rcases hb with hb | hb
  . obtain ⟨k, h1, h2⟩ := ao hb
    obtain ⟨j, p, rfl⟩ := acd h1
    rw [of_decide_eq_true h2]; exact ⟨ayp, rfl⟩
  . obtain ⟨n, h1, h2⟩ := ao hb
    obtain ⟨p, rfl⟩ := qb h1
    rw [Bool.and_eq_true] at h2
    obtain ⟨g1, g2⟩ := o4 h h2.1
    obtain ⟨t, ht⟩ := h.tab.cs _ _ (List.contains_iff_mem.mp h2.2)
    exact ⟨awg g1 ht (dm g2).1, rfl⟩
 | bl i =>
  obtain ⟨k, h1, h2⟩ := ao hb
  obtain ⟨j, p, rfl⟩ := acd h1
  rw [of_decide_eq_true h2]; exact ⟨a0d, rfl⟩
 | non =>
  obtain ⟨k, h1, h2⟩ := ao hb
  obtain ⟨j, p, rfl⟩ := acd h1
  rw [of_decide_eq_true h2]; exact ⟨axo, rfl⟩
 | str s =>
  obtain ⟨k, h1, h2⟩ := ao hb
  obtain ⟨j, p, rfl⟩ := acd h1
  rw [of_decide_eq_true h2]; exact ⟨axh, rfl⟩
 | _ => cases hb
end
section
variable {T : Tab} {nm : Nm} {W : Wld} {k : Nat}
theorem CxOk.r8 {c : Ctx} {X : Cx} (h : CxOk T nm W k c X) : Room 8 X.A := h.room.mono (by omega)
theorem CxOk.mg {c : Ctx} {X : Cx} (h : CxOk T nm W k c X) {n : Str} (m : n ∈ wz) : X.mg n = none := h.tab.bt n m
theorem ame {es : Exs} {c : Ctx} (h : jf T es c [] = true) : es = .nil := by
 cases es with
 | nil => rfl
 | cons e es => simp [jf] at h
theorem acl {c : Ctx} {lo : Nat} : ∀ {is : List Nat} {ts : List Expr}, aes c lo is ts = true -> ∀ i ∈ is, lo <= i
 | [], _, _ => by simp
 | _ :: _, [], e => by cases e
 | i :: is, a :: ts, e => by
  unfold aes at e
  rw [Bool.and_eq_true] at e
  intro j hj
  rcases List.mem_cons.mp hj with z | z
  . obtain ⟨n, h1, h2⟩ := ao e.1
    simp only [Bool.and_eq_true, decide_eq_true_eq] at h2
    rw [z]; exact h2.2.2
  . exact acl e.2 j z
theorem ake {c : Ctx} {lo : Nat} {t : Tg} {e : Expr} (h : tgB c lo t e = true) : ∀ i ∈ il t, lo <= i := by
 cases t with
 | name j =>
  obtain ⟨n, h1, h2⟩ := ao h
  simp only [Bool.and_eq_true, decide_eq_true_eq] at h2
  intro i hi
  rw [List.mem_singleton.mp hi]; exact h2.2.2
 | names is =>
  obtain ⟨ts, h1, h2⟩ := ao h
  exact acl h2
theorem apt {N ts : List Str} : (t8 N ts).length - N.length = ts.length := by simp [t8]
theorem aa0 {c : Ctx} {X : Cx} (hc : CxOk T nm W k c X) {v : Bool} {j : Nat} {t : Tg} {g : Comprehension} {sc : Scope} (h : age c v j t g sc = true) :
 v = true /\ je g.iter = true /\ g.is_async = 0 /\ BlkOk X (t8 c.N (ji g.target)) sc /\ (∀ C fp s H, CxOk T nm W k (abv c sc (ji g.target)) (blk X (t8 c.N (ji g.target)) sc C fp s H)) /\
 (∀ C fp s H, PG (blk X (t8 c.N (ji g.target)) sc C fp s H) g.target (tGt nm X.K t)) /\ (t8 c.N (ji g.target)).length - X.N.length = j /\ ∀ i ∈ il t, X.N.length <= i := by
 simp only [age, Bool.and_eq_true, decide_eq_true_eq] at h
 obtain ⟨⟨h1, h2⟩, h3, h4, h5, h6⟩ := h
 obtain ⟨B, hB⟩ := auw hc h2
 exact ⟨h1, h5, h6, B, hB, fun C fp s H => (agd (hB C fp s H) h4).1, by rw [hc.N, apt]; exact (eq_of_beq h3).symm, fun i hi => by rw [hc.N]; exact ake h4 i hi⟩
theorem aje {o : BoolOp} {a : Expr} {x y : Expr -> Bool} (h : aka o a x y = true) : (∃ l r p, a = .BoolOp o [l, r] p /\ ph l = true /\ x l = true /\ ph r = true /\ y r = true) \/
 ∃ l r s rest p, a = .BoolOp o (l :: r :: s :: rest) p /\ ph l = true /\ x l = true /\ y (.BoolOp o (r :: s :: rest) p) = true := by
 obtain ⟨⟨o', ls, p⟩, h1, h2⟩ := ao h
 cases apx h1
 rw [Bool.and_eq_true] at h2
 obtain ⟨h3, h2⟩ := h2
 cases of_decide_eq_true h3
 cases ls with
 | nil => cases h2
 | cons l ls => cases ls with
  | nil => cases h2
  | cons r rest =>
   cases rest with
   | nil =>
    have h2 : ((ph l && x l) && (ph r && y r)) = true := h2
    simp only [Bool.and_eq_true] at h2
    exact .inl ⟨l, r, p, rfl, h2.1.1, h2.1.2, h2.2.1, h2.2.2⟩
   | cons s rest =>
    have h2 : ((ph l && x l) && y (.BoolOp o' (r :: s :: rest) p)) = true := h2
    simp only [Bool.and_eq_true] at h2
    exact .inr ⟨l, r, s, rest, p, rfl, h2.1.1, h2.1.2, h2.2⟩
theorem avb {c : Ctx} {X : Cx} (hc : CxOk T nm W k c X) {b : Blt} {n : Str} (hb : aoe b = some n) (hg : glB c n = true) {l : Expr} {ls : List Expr} {es : Exs} {p p' : Pos} (e1 : PA X (l :: ls) (tEs nm W X.K es)) (e2 : gb (l :: ls) = true) : PE X (.Call (.Name n p) (l :: ls) [] p') (tE nm W X.K (.blt b es)) := by
 obtain ⟨g1, g2⟩ := o4 hc hg
 obtain ⟨d1, d2, d3⟩ := dm g2
 simp only [gb, Bool.and_eq_true] at e2
 have st := bu e2.1 ls X.env
 have an := ig (env := X.env) (pos := p') e2.2
 have mg : n ∈ wz -> X.mg n = none := hc.mg
 cases b with
 | len => cases hb; exact akh (id := "len") aya g1 (mg (by decide +kernel)) (by decide +kernel) e1 d3 d1 st an
 | max => cases hb; exact akh (id := "max") (axv hc.calm) g1 (mg (by decide +kernel)) (by decide +kernel) e1 d3 d1 st an
 | min => cases hb; exact akh (id := "min") (axb hc.calm) g1 (mg (by decide +kernel)) (by decide +kernel) e1 d3 d1 st an
 | tuple => cases hb; exact ahz (T := "tuple") aq3 g1 (mg (by decide +kernel)) (by decide +kernel) e1 d3 d1 st an
 | list => cases hb; exact ahz (T := "list") avd g1 (mg (by decide +kernel)) (by decide +kernel) e1 d3 d1 st an
 | dict => cases hb; exact ahz (T := "dict") atz g1 (mg (by decide +kernel)) (by decide +kernel) e1 d3 d1 st an
 | _ => cases hb
theorem adn {α : Type} {l : List α} (h : (!l.isEmpty) = true) : ∃ x r, l = x :: r := by
 cases l with
 | nil => cases h
 | cons x r => exact ⟨x, r, rfl⟩
set_option maxHeartbeats 2000000 in
mutual
theorem aq : ∀ (e : Ex) {c : Ctx} {X : Cx} {a : Expr}, CxOk T nm W k c X -> az T e c a = true -> Got nm W X a e
 | .var i, c, X, a, hc, h => by
  rw [az] at h
  replace h := ao h
  obtain ⟨n, h1, h⟩ := h
  obtain ⟨p, rfl⟩ := qb h1
  simp only [Bool.and_eq_true] at h
  exact dh (ay7 (slot_of hc h.1) (awl hc h.2.1) (dm h.2.2).1 (dm h.2.2).2.1) rfl
 | .cst d, c, X, a, hc, h => by
  rw [az] at h
  obtain ⟨h1, h2⟩ := awc hc h
  exact dh h1 h2
 | .bin op x y, c, X, a, hc, h => by
  rw [az] at h
  replace h := ao h
  obtain ⟨⟨l, o, r⟩, h1, h⟩ := h
  obtain ⟨p, rfl⟩ := asi h1
  simp only [Bool.and_eq_true, decide_eq_true_eq] at h
  exact dh (ax5 (ay3 h.1) (aq x hc h.2.1).v (aq y hc h.2.2).v) rfl
 | .neg x, c, X, a, hc, h => by
  rw [az] at h
  replace h := ao h
  obtain ⟨⟨o, l⟩, h1, h⟩ := h
  obtain ⟨p, rfl⟩ := amf h1
  simp only [Bool.and_eq_true, decide_eq_true_eq] at h
  obtain ⟨rfl, h⟩ := h
  exact dh (ay2 (aq x hc h).v) rfl
 | .cmp op x y, c, X, a, hc, h => by
  rw [az] at h
  replace h := ao h
  obtain ⟨⟨l, o, r⟩, h1, h⟩ := h
  obtain ⟨p, rfl⟩ := aen h1
  replace h := ao h
  obtain ⟨o1, h2, h⟩ := h
  replace h := ao h
  obtain ⟨r1, h3, h⟩ := h
  cases gh h2
  cases gh h3
  simp only [Bool.and_eq_true, decide_eq_true_eq] at h
  have g := ajw (nm := nm) hc.r8 h.1
  have m := acy h.2.1 o1
  exact ⟨ay6 g (aq x hc h.2.2.1).v (aq y hc h.2.2.2).v m, fun _ => axq g (aq x hc h.2.2.1).v (aq y hc h.2.2.2).v m, fun _ _ _ z => by cases z⟩
 | .chain o1 o2 x y z, c, X, a, hc, h => by
  rw [az] at h
  replace h := ao h
  obtain ⟨⟨l, o, r⟩, h1, h⟩ := h
  obtain ⟨p, rfl⟩ := aen h1
  dsimp only at h
  split at h
  . rename_i p1 p2 r s
    simp only [Bool.and_eq_true, decide_eq_true_eq] at h
    have g1 := ajw (nm := nm) hc.r8 h.1.1
    have g2 := ajw (nm := nm) hc.r8 h.1.2
    have m : lastMarks [p1, p2] [r, s] = false := acy h.2.1 p2
    exact ⟨ar3 g1 g2 (aq x hc h.2.2.1).v (aq y hc h.2.2.2.1).v (aq z hc h.2.2.2.2).v m, fun _ => as5 g1 g2 (aq x hc h.2.2.1).v (aq y hc h.2.2.2.1).v (aq z hc h.2.2.2.2).v m, fun _ _ _ z => by cases z⟩
  . cases h
 | .and x y, c, X, a, hc, h => by
  rw [az] at h
  rcases aje h with ⟨l, r, p, rfl, h1, h2, h3, h4⟩ | ⟨l, r, s, rest, p, rfl, h1, h2, h3⟩
  . have g1 := aq x hc h2
    have g2 := aq y hc h4
    have w := ap8 (pos := p) (rest := []) (g1.q h1) (asp (g2.q h3))
    exact ⟨ap5 g1.v (ap6 g2.v), fun _ => w.pt, fun _ _ _ _ => w⟩
  . have g1 := aq x hc h2
    have g2 := aq y hc h3
    have w := ap8 (g1.q h1) (g2.w _ _ _ rfl)
    exact ⟨ap5 g1.v g2.v, fun _ => w.pt, fun _ _ _ _ => w⟩
 | .or x y, c, X, a, hc, h => by
  rw [az] at h
  rcases aje h with ⟨l, r, p, rfl, h1, h2, h3, h4⟩ | ⟨l, r, s, rest, p, rfl, h1, h2, h3⟩
  . have g1 := aq x hc h2
    have g2 := aq y hc h4
    have w := au5 (pos := p) (rest := []) (g1.q h1) (awn (g2.q h3))
    exact ⟨avl g1.v (ap6 g2.v), fun _ => w.pt, fun _ _ _ _ => w⟩
  . have g1 := aq x hc h2
    have g2 := aq y hc h3
    have w := au5 (g1.q h1) (g2.w _ _ _ rfl)
    exact ⟨avl g1.v g2.v, fun _ => w.pt, fun _ _ _ _ => w⟩
 | .not x, c, X, a, hc, h => by
  rw [az] at h
  replace h := ao h
  obtain ⟨⟨o, l⟩, h1, h⟩ := h
  obtain ⟨p, rfl⟩ := amf h1
  simp only [Bool.and_eq_true, decide_eq_true_eq] at h
  obtain ⟨rfl, h⟩ := h
  have g := aq x hc h.2
  exact ⟨ayn g.v, fun _ => aw4 (g.q h.1), fun _ _ _ z => by cases z⟩
 | .ite t x y, c, X, a, hc, h => by
  rw [az] at h
  replace h := ao h
  obtain ⟨⟨t', l, r⟩, h1, h⟩ := h
  obtain ⟨p, rfl⟩ := aqq h1
  simp only [Bool.and_eq_true] at h
  exact ⟨ayz ((aq t hc h.2.1).q h.1) (aq x hc h.2.2.1).v (aq y hc h.2.2.2).v, (fun z => by cases z), fun _ _ _ z => by cases z⟩
 | .tup es, c, X, a, hc, h => by
  rw [az] at h
  replace h := ao h
  obtain ⟨l, h1, h⟩ := h
  obtain ⟨k0, p, rfl⟩ := ab4 h1
  simp only [Bool.and_eq_true, decide_eq_true_eq] at h
  exact dh (axp (jk es hc h.2).1 h.1) rfl
 | .lst es, c, X, a, hc, h => by
  rw [az] at h
  replace h := ao h
  obtain ⟨l, h1, h⟩ := h
  obtain ⟨p, rfl⟩ := ain h1
  simp only [Bool.and_eq_true, decide_eq_true_eq] at h
  exact dh (aw2 (jk es hc h.2).1 h.1) rfl
 | .vlst es, c, X, a, hc, h => by
  rw [az] at h
  replace h := ao h
  obtain ⟨l, h1, h⟩ := h
  obtain ⟨p, rfl⟩ := ain h1
  simp only [Bool.and_eq_true, decide_eq_true_eq] at h
  exact dh (atp (jk es hc h.2).1 h.1) rfl
 | .dicT, c, X, a, hc, h => by
  rw [az] at h
  replace h := ao h
  obtain ⟨⟨q, l⟩, h1, h⟩ := h
  obtain ⟨p, rfl⟩ := aiv h1
  simp only [Bool.and_eq_true, List.isEmpty_iff] at h
  obtain ⟨rfl, rfl⟩ := h
  exact dh at6 rfl
 | .dicK, c, X, a, hc, h => by
  rw [az] at h
  replace h := ao h
  obtain ⟨⟨q, l⟩, h1, h⟩ := h
  obtain ⟨p, rfl⟩ := aiv h1
  simp only [Bool.and_eq_true, List.isEmpty_iff] at h
  obtain ⟨rfl, rfl⟩ := h
  exact dh au1 rfl
 | .ix x y, c, X, a, hc, h => by
  rw [az] at h
  replace h := ao h
  obtain ⟨⟨l, r⟩, h1, h⟩ := h
  obtain ⟨p, rfl⟩ := aek h1
  simp only [Bool.and_eq_true] at h
  exact dh (a0q (af9 hc.room) (aq x hc h.2.1).v (aq y hc h.2.2).v (ane h.1)) rfl
 | .cut x lo hi, c, X, a, hc, h => by
  rw [az] at h
  replace h := ao h
  obtain ⟨⟨l, r⟩, h1, h⟩ := h
  obtain ⟨p, rfl⟩ := aek h1
  replace h := ao h
  obtain ⟨⟨u, v, st⟩, h2, h⟩ := h
  obtain ⟨p2, e⟩ := avx h2
  have e : r = _ := e
  subst e
  simp only [Bool.and_eq_true, Option.isNone_iff_eq_none] at h
  obtain ⟨rfl, h⟩ := h
  exact dh (ayh (aq x hc h.1).v (aio lo hc h.2.1) (aio hi hc h.2.2)) rfl
 | .call f es, c, X, a, hc, h => by
  rw [az] at h
  replace h := ao h
  obtain ⟨⟨n, ls⟩, h1, h⟩ := h
  obtain ⟨p, p', rfl⟩ := j4 h1
  simp only [Bool.and_eq_true] at h
  obtain ⟨⟨h2, h3, h4⟩, h5⟩ := h
  obtain ⟨l, ls, rfl⟩ := adn h4
  obtain ⟨fa, fd, ps, F, m, kp, b⟩ := hc.tab.fn _ _ _ (of_decide_eq_true h2)
  obtain ⟨g1, g2⟩ := o4 hc h3
  obtain ⟨e1, e2⟩ := jk es hc h5
  simp only [gb, Bool.and_eq_true] at e2
  exact dh (s_call F (hc.room.mono (by omega)) g1 m kp b rfl e1 (dm g2).1 (bu e2.1 _ _) (ig e2.2)) rfl
 | .make f es, c, X, a, hc, h => by
  rw [az] at h
  replace h := ao h
  obtain ⟨⟨n, ls⟩, h1, h⟩ := h
  obtain ⟨p, p', rfl⟩ := j4 h1
  simp only [Bool.and_eq_true] at h
  obtain ⟨⟨h2, h3, h4⟩, h5⟩ := h
  obtain ⟨l, ls, rfl⟩ := adn h4
  obtain ⟨C, fa, fd, ps, cl, M0, F, m, b, d1, d2⟩ := hc.tab.cl _ _ _ (of_decide_eq_true h2)
  obtain ⟨g1, g2⟩ := o4 hc h3
  obtain ⟨e1, e2⟩ := jk es hc h5
  simp only [gb, Bool.and_eq_true] at e2
  exact dh (avz M0 F (hc.room.mono (by omega)) g1 m b d1 rfl d2 rfl e1 (dm g2).1 (bu e2.1 _ _) (ig e2.2)) rfl
 | .meth o m es, c, X, a, hc, h => by
  rw [az] at h
  replace h := ao h
  obtain ⟨⟨lo, n, ap, ls, p⟩, h0, h⟩ := h
  cases ami h0
  simp only [Bool.and_eq_true, decide_eq_true_eq] at h
  obtain ⟨⟨⟨h1, h2⟩, h3, h4⟩, h5, h6⟩ := h
  obtain ⟨C, fa, fd, ps, f, C0, Me, F, b, u, nf⟩ := hc.tab.mt _ _ _ (of_decide_eq_true h1)
  obtain ⟨e1, e2⟩ := jk es hc h6
  have g := aq o hc h5
  cases ls with
  | nil =>
   have z := ame h6
   subst z
   exact dh (asz (ci := 0) (cl := ⟨0, []⟩) g.v C0 Me F (hc.room.mono (by omega)) b u nf (aiz h2 rfl h3 h4)) rfl
  | cons l ls =>
   have e3 := e2
   simp only [gb, Bool.and_eq_true] at e3
   exact dh (atl (ci := 0) (cl := ⟨0, []⟩) g.v C0 Me F (hc.room.mono (by omega)) b u nf rfl e1 (bu e3.1 _ _) (ig e3.2) (aiz h2 e2 h3 h4)) rfl
 | .fld o f, c, X, a, hc, h => by
  rw [az] at h
  replace h := ao h
  obtain ⟨⟨l, n, p⟩, h1, h⟩ := h
  cases aey h1
  simp only [Bool.and_eq_true] at h
  obtain ⟨t1, t2⟩ := hc.tab.fl _ _ (of_decide_eq_true h.1.1)
  exact dh (ayo t1 t2 (aq o hc h.2).v (qm h.1.2)) rfl
 | .blt b es, c, X, a, hc, h => by
  have gen : (onO (dCN a) fun q => (decide (aoe b = some q.1) && (glB c q.1 && !q.2.isEmpty)) && jf T es c q.2) = true -> Got nm W X a (.blt b es) := fun hh => by
   clear h
   replace hh := ao hh
   obtain ⟨⟨n, ls⟩, h1, h⟩ := hh
   obtain ⟨p, p', rfl⟩ := j4 h1
   simp only [Bool.and_eq_true] at h
   obtain ⟨⟨h2, h3, h4⟩, h5⟩ := h
   obtain ⟨l, ls, rfl⟩ := adn h4
   obtain ⟨e1, e2⟩ := jk es hc h5
   exact dh (avb hc (of_decide_eq_true h2) h3 e1 e2) rfl
  cases b with
  | isList =>
   match es, h, gen with
   | .cons x .nil, hi, _ =>
    rw [az] at hi
    replace hi := ao hi
    obtain ⟨⟨n, ls⟩, h1, hi⟩ := hi
    obtain ⟨p, p', rfl⟩ := j4 h1
    match ls, h1, hi with
    | [l, t], h1, hi =>
     replace hi := ao hi
     obtain ⟨tn, h2, hi⟩ := hi
     obtain ⟨p2, rfl⟩ := qb h2
     simp only [Bool.and_eq_true, decide_eq_true_eq] at hi
     obtain ⟨⟨rfl, rfl⟩, ⟨h3, h4⟩, h5, h6⟩ := hi
     obtain ⟨g1, g2⟩ := o4 hc h3
     obtain ⟨g3, g4⟩ := o4 hc h4
     exact dh (ape (T := "list") (apl hc.tab.kit) g1 (hc.mg (by decide +kernel)) (by decide +kernel) (dm g2).2.2 (dm g2).1 g3 (hc.mg (by decide +kernel)) (by decide +kernel) (dm g4).2.2 (dm g4).1
      (aq x hc h6).v (bu h5 _ _) (bu rfl _ _) (ig rfl)) rfl
    | [], _, hi => cases hi
    | [_], _, hi => cases hi
    | _ :: _ :: _ :: _, _, hi => cases hi
   | .nil, h, gen => rw [az] at h; exact gen h; (intro x e1 e2; first | (cases e2; done) | (cases e1; done))
   | .cons _ (.cons _ _), h, gen => rw [az] at h; exact gen h; (intro x e1 e2; first | (cases e2; done) | (cases e1; done))
  | _ => rw [az] at h; exact gen h; (intro x e1 e2; first | (cases e2; done) | (cases e1; done))
 | .bm m o es, c, X, a, hc, h => by
  rw [az] at h
  replace h := ao h
  obtain ⟨⟨lo, n, ap, ls, p⟩, h0, h⟩ := h
  cases ami h0
  simp only [Bool.and_eq_true, decide_eq_true_eq] at h
  obtain ⟨⟨⟨h1, h2⟩, h3, h4, h4'⟩, h5, h6⟩ := h
  obtain ⟨l, ls, rfl⟩ := adn h4'
  obtain ⟨e1, e2⟩ := jk es hc h6
  have e3 := e2
  simp only [gb, Bool.and_eq_true] at e3
  have few : ((backTo p (starEach (l :: ls) X.env)).all (fun x => !x.1) && (backToKw p (keywordEach [] X.env)).all (fun x => x.1.isSome) && decide ((l :: ls).length + ([] : List Keyword).length + (if ([] : List Keyword).isEmpty then 0 else 1) < 30)) = true := by
   rw [adx e2]
   simp [keywordEach, backToKw]
   simp at h3
   omega
  have g := aq o hc h5
  cases m with
  | append => cases h1; exact dh (aup (T := "list") (id := "list.append") (fun ι H M x v S r t => ty_list (.inl rfl) S r t) PySem.F.plainAttrs_list PySem.F.slot_list_append PySem.F.type_list_append ang g.v e1 (qm h2) few h4 (bu e3.1 _ _) (ig e3.2)) rfl
  | index => cases h1; exact dh (aup (T := "list") (id := "list.index") (fun ι H M x v S r t => ty_list (.inr (.inr rfl)) S r t) PySem.F.plainAttrs_list PySem.F.slot_list_index PySem.F.type_list_index (aqu hc.r8) g.v e1 (qm h2) few h4 (bu e3.1 _ _) (ig e3.2)) rfl
  | pop => cases h1
  | get => cases h1
 | .comp v j t it e, c, X, a, hc, h => by
  rw [az] at h
  replace h := ao h
  obtain ⟨⟨elt, gs, sc⟩, h1, h⟩ := h
  obtain ⟨p, rfl⟩ := aau h1
  replace h := ao h
  obtain ⟨⟨tg, iter, ifs, as⟩, h2, h⟩ := h
  cases gh h2
  simp only [Bool.and_eq_true, List.isEmpty_iff] at h
  obtain ⟨⟨h3, rfl⟩, h4, h5⟩ := h
  obtain ⟨rfl, q1, q2, B, hB, hg, q3, q4⟩ := aa0 hc h3
  cases q2
  exact dh (avn B hc.calm (zy it hc h4) hg (fun C fp s H => (aq e (hB C fp s H) h5).v) q1 q3 q4) rfl
 | .compif v j t it i e, c, X, a, hc, h => by
  rw [az] at h
  replace h := ao h
  obtain ⟨⟨elt, gs, sc⟩, h1, h⟩ := h
  obtain ⟨p, rfl⟩ := aau h1
  replace h := ao h
  obtain ⟨⟨tg, iter, ifs, as⟩, h2, h⟩ := h
  cases gh h2
  replace h := ao h
  obtain ⟨d, h6, h⟩ := h
  cases gh h6
  simp only [Bool.and_eq_true] at h
  obtain ⟨⟨h3, h7⟩, h4, h8, h5⟩ := h
  obtain ⟨rfl, q1, q2, B, hB, hg, q3, q4⟩ := aa0 hc h3
  cases q2
  exact dh (apa B hc.calm (zy it hc h4) hg (fun C fp s H => (aq i (hB C fp s H) h8).q h7) (fun C fp s H => (aq e (hB C fp s H) h5).v) q1 q3 q4) rfl
 | .setne x y, c, X, a, hc, h => by
  rw [az] at h
  replace h := ao h
  obtain ⟨⟨l0, o, r0⟩, h1, h⟩ := h
  obtain ⟨p, rfl⟩ := aen h1
  replace h := ao h
  obtain ⟨o1, h2, h⟩ := h
  replace h := ao h
  obtain ⟨r1, h3, h⟩ := h
  cases gh h2
  cases gh h3
  replace h := ao h
  obtain ⟨⟨n, ls⟩, h4, h⟩ := h
  replace h := ao h
  obtain ⟨⟨m, ms⟩, h5, h⟩ := h
  replace h := ao h
  obtain ⟨l, h6, h⟩ := h
  replace h := ao h
  obtain ⟨r, h7, h⟩ := h
  cases gh h6
  cases gh h7
  obtain ⟨p1, q1, e1⟩ := j4 h4
  obtain ⟨p2, q2, e2⟩ := j4 h5
  have e1 : l0 = _ := e1
  subst e1 e2
  simp only [Bool.and_eq_true, decide_eq_true_eq] at h
  obtain ⟨⟨⟨rfl, rfl⟩, rfl, h8⟩, ⟨h9, h10⟩, h11, h12⟩ := h
  obtain ⟨g1, g2⟩ := o4 hc h8
  have z := as4 (nm := nm) (W := W) (p1 := p1) (p2 := p2) (q1 := q1) (q2 := q2) hc.r8 g1 (hc.mg (by decide +kernel)) (by decide +kernel) (dm g2).2.2 (dm g2).1 (aal (aq x hc h11).v ab3 (bu h9 _ _)) (aal (aq y hc h12).v ab3 (bu h10 _ _)) (bu h9 _ _) (bu h10 _ _) (ig rfl) (ig rfl)
  exact ⟨auj z, fun _ => ajy (aua z) fun _ _ _ q => q, fun _ _ _ z => by cases z⟩
 | .rngT x, c, X, a, hc, h => by
  rw [az] at h
  replace h := ao h
  obtain ⟨⟨n, ls⟩, h1, h⟩ := h
  obtain ⟨p, p', rfl⟩ := j4 h1
  replace h := ao h
  obtain ⟨r, h2, h⟩ := h
  cases gh h2
  replace h := ao h
  obtain ⟨⟨m, ms⟩, h3, h⟩ := h
  obtain ⟨p2, q2, rfl⟩ := j4 h3
  replace h := ao h
  obtain ⟨l, h4, h⟩ := h
  cases gh h4
  simp only [Bool.and_eq_true, decide_eq_true_eq] at h
  obtain ⟨⟨⟨rfl, rfl⟩, h5, h6⟩, h7, h8⟩ := h
  obtain ⟨g1, g2⟩ := o4 hc h5
  obtain ⟨g3, g4⟩ := o4 hc h6
  exact dh (atk hc.r8 g1 (hc.mg (by decide +kernel)) (by decide +kernel) (dm g2).2.2 (dm g2).1 g3 (hc.mg (by decide +kernel)) (by decide +kernel) (dm g4).2.2 (dm g4).1
   (aal (aq x hc h8).v ab3 (bu h7 _ _)) (bu rfl _ _) (ig rfl) (bu h7 _ _) (ig rfl)) rfl
 | .rngL x, c, X, a, hc, h => by rw [az] at h; cases h
theorem jk : ∀ (es : Exs) {c : Ctx} {X : Cx} {a : List Expr}, CxOk T nm W k c X -> jf T es c a = true -> PA X a (tEs nm W X.K es) /\ gb a = true
 | .nil, c, X, a, hc, h => by
  rw [jf] at h
  cases List.isEmpty_iff.mp h
  exact ⟨ab3, rfl⟩
 | .cons e es, c, X, a, hc, h => by
  cases a with
  | nil => simp [jf] at h
  | cons l ls =>
   rw [jf] at h
   simp only [Bool.and_eq_true] at h
   obtain ⟨g1, g2⟩ := jk es hc h.2.2
   exact ⟨aal (aq e hc h.2.1).v g1 (bu h.1 _ _), by simp only [gb, Bool.and_eq_true]; exact ⟨h.1, g2⟩⟩
theorem aio : ∀ (e : OEx) {c : Ctx} {X : Cx} {a : Option Expr}, CxOk T nm W k c X -> ag9 T e c a = true -> PO X a (tO nm W X.K e)
 | .none, c, X, a, hc, h => by
  rw [ag9] at h
  cases Option.isNone_iff_eq_none.mp h
  exact arw
 | .some e, c, X, a, hc, h => by
  rw [ag9] at h
  replace h := ao h
  obtain ⟨l, rfl, h⟩ := h
  exact arl (aq e hc h).v
theorem zy : ∀ (it : Itr) {c : Ctx} {X : Cx} {tg a : Expr}, CxOk T nm W k c X -> abn T it c tg a = true -> PI X tg a (tI nm W X.K it)
 | .val e, c, X, tg, a, hc, h => by
  rw [abn] at h
  exact aw5 (aq e hc h).v
 | .rng e, c, X, tg, a, hc, h => by
  rw [abn] at h
  replace h := ao h
  obtain ⟨⟨n, ls⟩, h1, h⟩ := h
  obtain ⟨p, p', rfl⟩ := j4 h1
  replace h := ao h
  obtain ⟨l, h2, h⟩ := h
  cases gh h2
  simp only [Bool.and_eq_true, decide_eq_true_eq] at h
  obtain ⟨⟨rfl, h3⟩, h4, h5⟩ := h
  exact axd (o4 hc h3).1 (hc.mg (by decide +kernel)) (aq e hc h5).v h4
 | .enm e, c, X, tg, a, hc, h => by
  rw [abn] at h
  replace h := ao h
  obtain ⟨⟨n, ls⟩, h1, h⟩ := h
  obtain ⟨p, p', rfl⟩ := j4 h1
  replace h := ao h
  obtain ⟨l, h2, h⟩ := h
  cases gh h2
  simp only [Bool.and_eq_true, decide_eq_true_eq] at h
  obtain ⟨⟨h6, rfl, h3⟩, h4, h5⟩ := h
  obtain ⟨ts, h7⟩ := Option.isSome_iff_exists.mp h6
  obtain ⟨k0, pt, rfl⟩ := ab4 h7
  exact axl (o4 hc h3).1 (hc.mg (by decide +kernel)) (aq e hc h5).v h4
 | .zip _ _, c, X, tg, a, hc, h => by rw [abn] at h; cases h
end
end
noncomputable def aog (T : Tab) (c : Ctx) (l : Lv) (e : Ex) (tg v : Expr) : Bool :=
 match l with
 | .tg t => (tgB c 0 t tg && ((o9 v && ((dName tg).isSome || ap0 v)) || (match t with | .name _ => (acb v).isSome | _ => false))) && az T e c v
 | .sub o i => onO (ah6 tg) fun q => (o9 v && aca q.2) && (az T e c v && (az T o c q.1 && az T i c q.2))
 | .fld o f => onO (agk tg) fun q => (o9 v && flB T.fls f q.2.1) && (az T e c v && az T o c q.1)
noncomputable def aul : Stmt -> Option (List Expr × Expr) | .Assign t v _ => some (t, v) | _ => none
noncomputable def aus : Stmt -> Option Expr | .Expr v _ => some v | _ => none
noncomputable def ato : Stmt -> Option (Expr × List Stmt × List Stmt) | .If t l r _ => some (t, l, r) | _ => none
noncomputable def awe : Stmt -> Option (Expr × List Stmt × List Stmt) | .While t l r _ => some (t, l, r) | _ => none
noncomputable def avj : Stmt -> Option (Expr × Expr × List Stmt × List Stmt) | .For t i l r _ => some (t, i, l, r) | _ => none
noncomputable def aox : Stmt -> Option (Option Expr) | .Return v _ => some v | _ => none
noncomputable def aj0 : Stmt -> Option Nat | .Break _ => some 0 | .Continue _ => some 1 | .Pass _ => some 2 | _ => none
theorem ar6 {a : Stmt} {t : List Expr} {v : Expr} (h : aul a = some (t, v)) : ∃ p, a = .Assign t v p := by cases a <;> cases h <;> exact ⟨_, rfl⟩
theorem asx {a : Stmt} {v : Expr} (h : aus a = some v) : ∃ p, a = .Expr v p := by cases a <;> cases h <;> exact ⟨_, rfl⟩
theorem asq {a : Stmt} {t : Expr} {l r : List Stmt} (h : ato a = some (t, l, r)) : ∃ p, a = .If t l r p := by cases a <;> cases h <;> exact ⟨_, rfl⟩
theorem aqz {a : Stmt} {t : Expr} {l r : List Stmt} (h : awe a = some (t, l, r)) : ∃ p, a = .While t l r p := by cases a <;> cases h <;> exact ⟨_, rfl⟩
theorem aq4 {a : Stmt} {t i : Expr} {l r : List Stmt} (h : avj a = some (t, i, l, r)) : ∃ p, a = .For t i l r p := by cases a <;> cases h <;> exact ⟨_, rfl⟩
theorem ajo {a : Stmt} {v : Option Expr} (h : aox a = some v) : ∃ p, a = .Return v p := by cases a <;> cases h <;> exact ⟨_, rfl⟩
theorem ae4 {a : Stmt} {n : Nat} (h : aj0 a = some n) : (n = 0 /\ ∃ p, a = .Break p) \/ (n = 1 /\ ∃ p, a = .Continue p) \/ (n = 2 /\ ∃ p, a = .Pass p) := by
 cases a <;> cases h
 . exact .inr (.inr ⟨rfl, _, rfl⟩)
 . exact .inl ⟨rfl, _, rfl⟩
 . exact .inr (.inl ⟨rfl, _, rfl⟩)
mutual
noncomputable def uh (T : Tab) : Stm -> Ctx -> Stmt -> Bool
 | .asg l e, c, a => onO (aul a) fun q => onO (j8 q.1) fun t => aog T c l e t q.2
 | .expr e, c, a => onO (aus a) fun v => o9 v && az T e c v
 | .iff t x y, c, a => onO (ato a) fun q => ph q.1 && (az T t c q.1 && (rm T x c q.2.1 && rm T y c q.2.2))
 | .whl t x, c, a => onO (awe a) fun q => (ph q.1 && q.2.2.isEmpty) && (az T t c q.1 && rm T x c q.2.1)
 | .for_ t it x, c, a => onO (avj a) fun q => (tgB c 0 t q.1 && (je q.2.1 && q.2.2.2.isEmpty)) && (abn T it c q.1 q.2.1 && rm T x c q.2.2.1)
 | .ret e, c, a => onO (aox a) fun v => onO v (az T e c)
 | .retN, _, a => onO (aox a) fun v => v.isNone
 | .brk, _, a => decide (aj0 a = some 0)
 | .cont, _, a => decide (aj0 a = some 1)
 | .pass, _, a => decide (aj0 a = some 2)
 | .raise _ _, _, _ => true
noncomputable def rm (T : Tab) : Stms -> Ctx -> List Stmt -> Bool
 | .nil, _, a => a.isEmpty
 | .cons s r, c, a => match a with | st :: rest => uh T s c st && rm T r c rest | _ => false
end
section
variable {T : Tab} {nm : Nm} {W : Wld} {k : Nat} {c : Ctx} {X : Cx}
noncomputable def swB (c : Ctx) (t : Str) (pt vp : Pos) (sc : Scope) : Bool := (c.sc.lookup t == some NameKind.local && pt.line == vp.line) && !(sc.names.any fun y => y.1 == t && (y.2 == .local || y.2 == .cell))
theorem akp (hc : CxOk T nm W k c X) {elt : Expr} {gs : List Comprehension} {sc : Scope} {vp pt : Pos} {t : Str} {l : Nat} : swapsWith (.ListComp elt gs sc vp) (some (.Name t pt)) l X.env = pure (swB c t pt vp sc) := by
 have b : X.env.blockKind = .function := by unfold Env.blockKind; rw [hc.kd]; rfl
 show (pure (X.env.blockKind == .function && X.env.kindOf t == some .local && pt.line == vp.line && !(sc.names.any fun (n, k) => n == t && (k == .local || k == .cell))) : Sem Bool) = _
 rw [b]
 unfold Env.kindOf
 rw [hc.sc]
 simp [swB]
theorem alx {a : Expr} {q : Expr × List Comprehension × Scope} (hq : acb a = some q) (e : Ex) (h : az T e c a = true) : (∃ v j t it x, e = .comp v j t it x) \/ ∃ v j t it i x, e = .compif v j t it i x := by
 obtain ⟨elt, gs, sc⟩ := q
 obtain ⟨p, rfl⟩ := aau hq
 have no : ∀ {α : Type} (f : α -> Bool), onO (none : Option α) f = true -> False := fun f z => by cases z
 cases e with
 | comp v j t it x => exact .inl ⟨_, _, _, _, _, rfl⟩
 | compif v j t it q x => exact .inr ⟨_, _, _, _, _, _, rfl⟩
 | cst d => rw [az] at h; cases d <;> cases h
 | rngL _ => rw [az] at h; cases h
 | blt b es =>
  exfalso
  cases b with
  | isList => cases es with
   | nil => rw [az] at h; cases h; (intro x e1 e2; cases e2)
   | cons x r => cases r with
    | nil => rw [az] at h; cases h
    | cons _ _ => rw [az] at h; cases h; (intro x e1 e2; cases e2)
  | _ => rw [az] at h; cases h; (intro x e1 e2; cases e1)
 | _ => rw [az] at h; cases h
theorem apd (hc : CxOk T nm W k c X) {i : Nat} {tg v : Expr} {p : Pos} {e : Ex} (ht : tgB c 0 (.name i) tg = true) (hv : (acb v).isSome = true) (h : az T e c v = true) : PS X (.Assign [tg] v p) (tS nm W X.K (.asg (.tg (.name i)) e)) := by
 have nd : X.N.Nodup := by rw [hc.N]; exact hc.nd
 obtain ⟨⟨elt, gs, sc⟩, hq⟩ := Option.isSome_iff_exists.mp hv
 obtain ⟨y, py, rfl, hy, _⟩ := ahi (nm := nm) (W := W) (k := k) (T := T) hc ht
 have co := alx hq e h
 obtain ⟨vp, rfl⟩ := aau hq
 have sw := fun l => akp (T := T) (nm := nm) (W := W) (k := k) hc (elt := elt) (gs := gs) (sc := sc) (vp := vp) (pt := py) (t := y) (l := l)
 cases hs : swB c y py vp sc with
 | false =>
  rw [hs] at sw
  exact akf (aq e hc h).v (agd hc ht).1 (sw p.line) rfl rfl
 | true =>
  rw [hs] at sw
  simp only [swB, Bool.and_eq_true] at hs
  have hl : X.env.scope.names.lookup y = some .local := by rw [hc.sc]; have := hs.1.1; simpa using this
  rcases co with ⟨v, j, t, it, x, rfl⟩ | ⟨v, j, t, it, i', x, rfl⟩
  . rw [az] at h
    replace h := ao h
    obtain ⟨⟨elt', gs', sc'⟩, h1, h⟩ := h
    cases h1
    replace h := ao h
    obtain ⟨⟨tg, iter, ifs, as⟩, h2, h⟩ := h
    cases gh h2
    simp only [Bool.and_eq_true, List.isEmpty_iff] at h
    obtain ⟨⟨h3, rfl⟩, h4, h5⟩ := h
    obtain ⟨rfl, q1, q2, B, hB, hg, q3, q4⟩ := aa0 hc h3
    cases q2
    exact alp B hc.calm (zy it hc h4) hg (fun C fp s H => (aq x (hB C fp s H) h5).v) q1 q3 q4 nd hy hl (sw p.line)
  . rw [az] at h
    replace h := ao h
    obtain ⟨⟨elt', gs', sc'⟩, h1, h⟩ := h
    cases h1
    replace h := ao h
    obtain ⟨⟨tg, iter, ifs, as⟩, h2, h⟩ := h
    cases gh h2
    replace h := ao h
    obtain ⟨d, h6, h⟩ := h
    cases gh h6
    simp only [Bool.and_eq_true] at h
    obtain ⟨⟨h3, h7⟩, h4, h8, h5⟩ := h
    obtain ⟨rfl, q1, q2, B, hB, hg, q3, q4⟩ := aa0 hc h3
    cases q2
    exact ah8 B hc.calm (zy it hc h4) hg (fun C fp s H => (aq i' (hB C fp s H) h8).q h7) (fun C fp s H => (aq x (hB C fp s H) h5).v) q1 q3 q4 nd hy hl (sw p.line)
end
section
variable {T : Tab} {nm : Nm} {W : Wld} {k : Nat}
theorem aqo {c : Ctx} {X : Cx} (hc : CxOk T nm W k c X) {l : Lv} {e : Ex} {tg v : Expr} {p : Pos} (h : aog T c l e tg v = true) : PS X (.Assign [tg] v p) (tS nm W X.K (.asg l e)) := by
 cases l with
 | tg t =>
  simp only [aog, Bool.and_eq_true, Bool.or_eq_true] at h
  obtain ⟨⟨h1, h2⟩, h3⟩ := h
  rcases h2 with ⟨h4, h5⟩ | h4
  . have g := agd (nm := nm) hc h1
    have sh : (∃ n q, tg = .Name n q) \/ ∃ ts k0 q, tg = .Tuple ts k0 q := by
     cases t with
     | name i =>
      obtain ⟨n, z1, _⟩ := ao h1
      exact .inl ⟨n, qb z1⟩
     | names is =>
      obtain ⟨ts, z1, _⟩ := ao h1
      exact .inr ⟨ts, ab4 z1⟩
    rcases sh with ⟨n, q, rfl⟩ | ⟨ts, k0, q, rfl⟩
    . exact akf (aq e hc h3).v g.1 (aav h4 _ _ _) rfl rfl
    . have w : ap0 v = true := by
       rcases h5 with h5 | h5
       . cases h5
       . exact h5
      have w2 : swappedStores [.Tuple ts k0 q] v X.env = pure none := by
       cases v <;> first | rfl | (cases w; done)
      exact akf (aq e hc h3).v g.1 (aav h4 _ _ _) w2 rfl
  . cases t with
    | name i => exact apd hc h1 h4 h3
    | names _ => cases h4
 | sub o i =>
  replace h := ao (show onO (ah6 tg) _ = true from h)
  obtain ⟨⟨lo, li⟩, h0, h⟩ := h
  obtain ⟨p', rfl⟩ := aek h0
  simp only [Bool.and_eq_true] at h
  obtain ⟨⟨h1, h2⟩, h3, h4, h5⟩ := h
  refine ana (af9 hc.room) (aq e hc h3).v (aq o hc h4).v (aq i hc h5).v h1 fun v => ?_
  cases li <;> first | rfl | (cases h2; done)
 | fld o f =>
  replace h := ao (show onO (agk tg) _ = true from h)
  obtain ⟨⟨lo, n, p'⟩, h0, h⟩ := h
  cases aey h0
  simp only [Bool.and_eq_true] at h
  obtain ⟨⟨h1, h2⟩, h3, h4⟩ := h
  obtain ⟨t1, t2⟩ := hc.tab.fl _ _ (of_decide_eq_true h2)
  exact aon t1 t2 (aq e hc h3).v (aq o hc h4).v h1
mutual
theorem aqp : ∀ (s : Stm) {c : Ctx} {X : Cx} {a : Stmt}, CxOk T nm W k c X -> c.fn = true -> uh T s c a = true -> PS X a (tS nm W X.K s)
 | .asg l e, c, X, a, hc, hf, h => by
  rw [uh] at h
  replace h := ao h
  obtain ⟨⟨ts, v⟩, h1, h⟩ := h
  obtain ⟨p, rfl⟩ := ar6 h1
  replace h := ao h
  obtain ⟨t, h2, h⟩ := h
  cases gh h2
  exact aqo hc h
 | .expr e, c, X, a, hc, hf, h => by
  rw [uh] at h
  replace h := ao h
  obtain ⟨v, h1, h⟩ := h
  obtain ⟨p, rfl⟩ := asx h1
  simp only [Bool.and_eq_true] at h
  exact aue (aq e hc h.2).v (zf h.1 _ _ _)
 | .iff t x y, c, X, a, hc, hf, h => by
  rw [uh] at h
  replace h := ao h
  obtain ⟨⟨q, l, r⟩, h1, h⟩ := h
  obtain ⟨p, rfl⟩ := asq h1
  simp only [Bool.and_eq_true] at h
  exact ayk ((aq t hc h.2.1).q h.1) (qp x hc hf h.2.2.1) (qp y hc hf h.2.2.2)
 | .whl t x, c, X, a, hc, hf, h => by
  rw [uh] at h
  replace h := ao h
  obtain ⟨⟨q, l, r⟩, h1, h⟩ := h
  obtain ⟨p, rfl⟩ := aqz h1
  simp only [Bool.and_eq_true, List.isEmpty_iff] at h
  obtain ⟨⟨h2, rfl⟩, h3, h4⟩ := h
  exact axs (hc.fnl hf).2 ((aq t hc h3).q h2) (qp x hc hf h4)
 | .for_ t it x, c, X, a, hc, hf, h => by
  rw [uh] at h
  replace h := ao h
  obtain ⟨⟨tg, iter, l, r⟩, h1, h⟩ := h
  obtain ⟨p, rfl⟩ := aq4 h1
  simp only [Bool.and_eq_true, List.isEmpty_iff] at h
  obtain ⟨⟨h2, h3, rfl⟩, h4, h5⟩ := h
  exact ayc (hc.fnl hf).2 hc.calm (zy it hc h4) (agd hc h2).1 (qp x hc hf h5) h3
 | .ret e, c, X, a, hc, hf, h => by
  rw [uh] at h
  replace h := ao h
  obtain ⟨v, h1, h⟩ := h
  obtain ⟨p, rfl⟩ := ajo h1
  replace h := ao h
  obtain ⟨w, rfl, h⟩ := h
  exact ayq (aq e hc h).v
 | .retN, c, X, a, hc, hf, h => by
  rw [uh] at h
  replace h := ao h
  obtain ⟨v, h1, h⟩ := h
  obtain ⟨p, rfl⟩ := ajo h1
  cases Option.isNone_iff_eq_none.mp h
  exact av8
 | .brk, c, X, a, hc, hf, h => by
  rw [uh] at h
  rcases ae4 (of_decide_eq_true h) with ⟨_, p, rfl⟩ | ⟨z, _⟩ | ⟨z, _⟩
  . exact aw3
  . cases z
  . cases z
 | .cont, c, X, a, hc, hf, h => by
  rw [uh] at h
  rcases ae4 (of_decide_eq_true h) with ⟨z, _⟩ | ⟨_, p, rfl⟩ | ⟨z, _⟩
  . cases z
  . exact avf
  . cases z
 | .pass, c, X, a, hc, hf, h => by
  rw [uh] at h
  rcases ae4 (of_decide_eq_true h) with ⟨z, _⟩ | ⟨z, _⟩ | ⟨_, p, rfl⟩
  . cases z
  . cases z
  . exact avu
 | .raise _ _, c, X, a, hc, hf, h => aq0
theorem qp : ∀ (s : Stms) {c : Ctx} {X : Cx} {a : List Stmt}, CxOk T nm W k c X -> c.fn = true -> rm T s c a = true -> PSs X a (tSs nm W X.K s)
 | .nil, c, X, a, hc, hf, h => by
  rw [rm] at h
  cases List.isEmpty_iff.mp h
  exact aur
 | .cons s r, c, X, a, hc, hf, h => by
  cases a with
  | nil => simp [rm] at h
  | cons st rest =>
   rw [rm] at h
   simp only [Bool.and_eq_true] at h
   exact aqk (aqp s hc hf h.1) (qp r hc hf h.2)
end
end
structure Def where
 x : Str
 qual : Str
 N : List Str
 ps : List Str
noncomputable def scB (N ps : List Str) (sc : Scope) : Bool :=
 (decide (sc.kind = .function) && (!sc.isCoroutine && !sc.isGenerator)) && ((decide N.Nodup && decide (N.take ps.length = ps)) &&
 (ps.all (fun x => sc.names.lookup x == some .local || sc.names.lookup x == some .cell) && sc.names.all (fun y => !(y.2 == NameKind.free))))
theorem avi {N ps : List Str} {sc : Scope} (h : scB N ps sc = true) : ab2 N ps sc := by
 simp only [scB, Bool.and_eq_true, decide_eq_true_eq, Bool.not_eq_true', List.all_eq_true] at h
 obtain ⟨⟨h1, h2, h3⟩, ⟨h4, h5⟩, h6, h7⟩ := h
 exact ⟨h1, h2, h3, h4, h5, fun x m => by have := h6 x m; simpa using this, fun y m => by have := h7 y m; simpa using this⟩
noncomputable def aev (T : Tab) (d : Def) (F : MW.Fn) (st : Stmt) : Bool :=
 (scB d.N d.ps (bf st) && (decide (F.np = d.ps.length) && decide (F.ns = d.N.length))) && rm T F.body ⟨d.N, (bf st).names, true⟩ (bw st)
theorem asw {W : Wld} {F : MW.Fn} {ds : List Dv} {M M' : Store} {d : Dv} (h : F.run W ds M = .ok d M') : ds.length = F.np /\ ∃ fl ρ', F.body.den W (ds.map some ++ List.replicate (F.ns - F.np) none) M = .ok (fl, ρ') M' /\ (fl = .ret d \/ (fl = .next /\ d = .non)) := by
 unfold MW.Fn.run at h
 split at h
 . rename_i hl
   obtain ⟨⟨fl, ρ'⟩, M1, e1, e⟩ := aa h
   refine ⟨hl, fl, ρ', ?_⟩
   cases fl with
   | ret z => cases e; exact ⟨e1, .inl rfl⟩
   | next => cases e; exact ⟨e1, .inr ⟨rfl, rfl⟩⟩
   | brk => cases e
   | cont => cases e
 . cases h
theorem at7 {T : Tab} {nm : Nm} {k : Nat} {P : Program} {w : World} {K : Fg} {mg : Str -> Option Value} {base : Heap} {IR : MW.Prog} {n i : Nat} {F : MW.Fn} {d : Def} {st : Stmt} {f : Addr} {fd : FuncData} (U : Fun K d.x d.qual st f fd) (hF : IR.fns[i]? = some F) (h : aev T d F st = true)
 (hT : TabOk T nm ⟨IR.call n, IR.cls⟩ k P w K mg base) : FnOk P w K mg base CX0 (k + 17) f fd d.ps (spF nm ⟨IR.call (n + 1), IR.cls⟩ K F.np i) := by
 simp only [aev, Bool.and_eq_true, decide_eq_true_eq] at h
 obtain ⟨⟨h1, h2, h3⟩, h4⟩ := h
 have S := avi h1
 have go : ∀ ds M d' M', MW.Wld.call ⟨IR.call (n + 1), IR.cls⟩ i ds M = .ok d' M' -> F.run ⟨IR.call n, IR.cls⟩ ds M = .ok d' M' := fun ds M d' M' e => by
  have e : IR.call (n + 1) i ds M = .ok d' M' := e
  unfold MW.Prog.call at e
  rw [hF] at e
  exact e
 refine U.ok (k := k + 16) S (fun vs H Q E ⟨ι, M, ds, d', M', _, r, l, e, _⟩ => by rw [<- r.length, l, h2]) (fun cdv A outer s H vs Q E hr ⟨ι, M, ds, d', M', SM, r, l, e, q⟩ => ?_)
 have hc : CxOk T nm ⟨IR.call n, IR.cls⟩ k ⟨d.N, (bf st).names, true⟩ (adh CX0 P w K mg base d.N d.qual (bf st) f cdv A outer s H E).nox :=
  ⟨rfl, S.nd, rfl, S.kind, rfl, hr, fun _ => ⟨fun _ => rfl, PassesOwn.never⟩, hT⟩
 refine ⟨_, qp F.body hc rfl h4, ?_⟩
 obtain ⟨hl, fl, ρ', e1, e2⟩ := asw (go _ _ _ _ e)
 refine ⟨ι, _, M, fl, ρ', M', SM, ?_, e1, fun ι' H' σ' le S' R' => ?_⟩
 . unfold L2.start
   exact (EnvR.ofVals r).append (EnvR.nones _ (by rw [List.length_replicate, h3, <- r.length, l]))
 . rcases e2 with rfl | ⟨rfl, rfl⟩
   . exact fun v rv => q ι' H' v le S' rv
   . exact q ι' H' _ le S' .non
theorem aiy {nm : Nm} {P : Program} {w : World} {K : Fg} {mg : Str -> Option Value} {base : Heap} {IR : MW.Prog} {T : Tab} {D : Nat -> Def} {st : Nat -> Stmt} {fa : Nat -> Addr} {fd : Nat -> FuncData}
 (U : ∀ i, i < IR.fns.length -> Fun K (D i).x (D i).qual (st i) (fa i) (fd i)) (h : ∀ i F, IR.fns[i]? = some F -> aev T (D i) F (st i) = true)
 (mk : ∀ n, (∀ i F, IR.fns[i]? = some F -> FnOk P w K mg base CX0 (17 * n) (fa i) (fd i) (D i).ps (spF nm ⟨IR.call n, IR.cls⟩ K F.np i)) -> TabOk T nm ⟨IR.call n, IR.cls⟩ (17 * n) P w K mg base) :
 ∀ n i F, IR.fns[i]? = some F -> FnOk P w K mg base CX0 (17 * n) (fa i) (fd i) (D i).ps (spF nm ⟨IR.call n, IR.cls⟩ K F.np i)
 | 0, i, F, hF => ⟨(fun vs H Q E ⟨ι, M, ds, d', M', _, r, l, e, _⟩ => by cases e), fun A outer s H args us vs Q E hr he hb hv ⟨ι, M, ds, d', M', _, r, l, e, _⟩ => by cases e⟩
 | n + 1, i, F, hF => at7 (U i (List.getElem?_eq_some_iff.mp hF).1) hF (h i F hF) (mk n (aiy U h mk n))
noncomputable def anx (s : Str) : Bool := s.cps[0]? == some 0
noncomputable def ahx (fls : List Str) : Bool := decide fls.Nodup && fls.all fun s => !anx s
noncomputable def abu (fls : List Str) (i : Nat) : Str := match fls[i]? with | some s => s | none => ⟨#[0, 0, i]⟩
theorem ano {fls : List Str} (h : ahx fls = true) (i j : Nat) (e : abu fls i = abu fls j) : i = j := by
 simp only [ahx, Bool.and_eq_true, decide_eq_true_eq, List.all_eq_true] at h
 have own : ∀ k, anx ⟨#[0, 0, k]⟩ = true := fun k => rfl
 unfold abu at e
 cases hi : fls[i]? with
 | some a =>
  rw [hi] at e
  cases hj : fls[j]? with
  | some b =>
   rw [hj] at e
   have e : a = b := e
   subst e
   obtain ⟨l1, e1⟩ := List.getElem?_eq_some_iff.mp hi
   obtain ⟨l2, e2⟩ := List.getElem?_eq_some_iff.mp hj
   exact (List.getElem_inj h.1).mp (e1.trans e2.symm)
  | none =>
   rw [hj] at e
   have e : a = ⟨#[0, 0, j]⟩ := e
   have := h.2 a (List.mem_of_getElem? hi)
   rw [e, own] at this; cases this
 | none =>
  rw [hi] at e
  cases hj : fls[j]? with
  | some b =>
   rw [hj] at e
   have e : (⟨#[0, 0, i]⟩ : Str) = b := e
   have := h.2 b (List.mem_of_getElem? hj)
   rw [<- e, own] at this; cases this
  | none =>
   rw [hj] at e
   have e : (⟨#[0, 0, i]⟩ : Str) = ⟨#[0, 0, j]⟩ := e
   simpa using e
noncomputable def aoj (cas : List (Option Addr)) (fls : List Str) (h : ahx fls = true) : Nm := ⟨fun c => (cas[c]?).join, abu fls, ano h⟩
noncomputable def akc (fls : List Str) (x : Str) : Bool := !(fls.contains x) && !anx x
theorem apr {fls : List Str} {x : Str} (h : akc fls x = true) (i : Nat) : abu fls i ≠ x := fun e => by
 simp only [akc, Bool.and_eq_true, Bool.not_eq_true'] at h
 unfold abu at e
 cases hi : fls[i]? with
 | some a =>
  rw [hi] at e
  have e : a = x := e
  rw [<- e] at h
  have := List.contains_iff_mem.mpr (List.mem_of_getElem? hi)
  rw [this] at h; cases h.1
 | none =>
  rw [hi] at e
  have e : (⟨#[0, 0, i]⟩ : Str) = x := e
  rw [<- e] at h
  cases h.2
section
variable (K : Fg) (mg : Str -> Option Value)
noncomputable def AllF : List Def -> List Stmt -> List Addr -> List FuncData -> Prop
 | d :: ds, s :: ss, a :: as, f :: fs => (Fun K d.x d.qual s a f /\ Binds K f d.ps []) /\ AllF ds ss as fs
 | [], [], [], [] => True
 | _, _, _, _ => False
noncomputable def AllG : List (Option (Str × Nat)) -> List Addr -> Prop
 | some p :: r, a :: as => mg p.1 = some (.ref a) /\ AllG r as
 | none :: r, _ :: as => AllG r as
 | _, _ => True
noncomputable def AllM (C : Addr) (mts : List (Str × Nat)) (fas : List Addr) : List (Nat × Nat) -> Prop
 | q :: r => (∃ p a, mts[q.1]? = some p /\ fas[q.2]? = some a /\ Meth K C p.1 a) /\ AllM C mts fas r
 | [] => True
noncomputable def AllN (C : Addr) : List Str -> Prop
 | x :: r => NoAttr K C x /\ AllN C r
 | [] => True
structure ClF (T : Tab) (fas : List Addr) (x : Str) (C : Addr) (cl : MW.Cl) : Prop where
 mg : mg x = some (.ref C)
 cs : Cls K C
 ini : ∃ f, fas[cl.init]? = some f /\ Mk K C f
 me : AllM K C T.mts fas cl.meths
 na : AllN K C T.fls
noncomputable def AllC (T : Tab) (fas : List Addr) : List (Option (Str × Nat)) -> List (Option Addr) -> List MW.Cl -> Prop
 | some p :: r, some C :: cs, cl :: cls => ClF K mg T fas p.1 C cl /\ AllC T fas r cs cls
 | none :: r, none :: cs, _ :: cls => AllC T fas r cs cls
 | [], [], [] => True
 | _, _, _ => False
noncomputable def AllV : List (Str × Int) -> Prop
 | p :: r => (∃ t, mg p.1 = some (.int p.2 t)) /\ AllV r
 | [] => True
noncomputable def AllB : List Str -> Prop
 | x :: r => mg x = none /\ AllB r
 | [] => True
end
section
variable {K : Fg} {mg : Str -> Option Value}
theorem AllF.get : ∀ {ds : List Def} {ss : List Stmt} {as : List Addr} {fs : List FuncData} {i : Nat} {d : Def}, AllF K ds ss as fs -> ds[i]? = some d -> ∃ s a f, ss[i]? = some s /\ as[i]? = some a /\ fs[i]? = some f /\ Fun K d.x d.qual s a f /\ Binds K f d.ps []
 | d :: ds, s :: ss, a :: as, f :: fs, 0, d', h, e => by cases e; exact ⟨s, a, f, rfl, rfl, rfl, h.1⟩
 | d :: ds, s :: ss, a :: as, f :: fs, i + 1, d', h, e => by
  obtain ⟨s', a', f', h1, h2, h3, h4⟩ := AllF.get (i := i) h.2 (by simpa using e)
  exact ⟨s', a', f', by simpa using h1, by simpa using h2, by simpa using h3, h4⟩
theorem AllG.get : ∀ {l : List (Option (Str × Nat))} {as : List Addr} {i : Nat} {p : Str × Nat} {a : Addr}, AllG mg l as -> l[i]? = some (some p) -> as[i]? = some a -> mg p.1 = some (.ref a)
 | some q :: l, b :: as, 0, p, a, h, e, e2 => by cases e; cases e2; exact h.1
 | none :: l, b :: as, 0, p, a, h, e, e2 => by cases e
 | some q :: l, b :: as, i + 1, p, a, h, e, e2 => AllG.get (i := i) h.2 (by simpa using e) (by simpa using e2)
 | none :: l, b :: as, i + 1, p, a, h, e, e2 => AllG.get (i := i) (l := l) (as := as) h (by simpa using e) (by simpa using e2)
theorem AllM.get {C : Addr} {mts : List (Str × Nat)} {fas : List Addr} : ∀ {l : List (Nat × Nat)} {q : Nat × Nat}, AllM K C mts fas l -> q ∈ l -> ∃ p a, mts[q.1]? = some p /\ fas[q.2]? = some a /\ Meth K C p.1 a
 | q' :: l, q, h, m => by
  rcases List.mem_cons.mp m with z | z
  . rw [z]; exact h.1
  . exact AllM.get h.2 z
theorem AllN.get {C : Addr} : ∀ {l : List Str} {x : Str}, AllN K C l -> x ∈ l -> NoAttr K C x
 | y :: l, x, h, m => by
  rcases List.mem_cons.mp m with z | z
  . rw [z]; exact h.1
  . exact AllN.get h.2 z
theorem AllC.get {T : Tab} {fas : List Addr} : ∀ {l : List (Option (Str × Nat))} {cs : List (Option Addr)} {cls : List MW.Cl} {c : Nat} {p : Str × Nat}, AllC K mg T fas l cs cls -> l[c]? = some (some p) -> ∃ C cl, cs[c]? = some (some C) /\ cls[c]? = some cl /\ ClF K mg T fas p.1 C cl
 | some q :: l, some C :: cs, cl :: cls, 0, p, h, e => by cases e; exact ⟨C, cl, rfl, rfl, h.1⟩
 | some q :: l, some C :: cs, cl :: cls, c + 1, p, h, e => by
  obtain ⟨C', cl', h1, h2, h3⟩ := AllC.get (c := c) h.2 (by simpa using e)
  exact ⟨C', cl', by simpa using h1, by simpa using h2, h3⟩
 | none :: l, none :: cs, cl :: cls, 0, p, h, e => by cases e
 | none :: l, none :: cs, cl :: cls, c + 1, p, h, e => by
  obtain ⟨C', cl', h1, h2, h3⟩ := AllC.get (l := l) (cs := cs) (cls := cls) (c := c) h (by simpa using e)
  exact ⟨C', cl', by simpa using h1, by simpa using h2, h3⟩
theorem AllC.at {T : Tab} {fas : List Addr} : ∀ {l : List (Option (Str × Nat))} {cs : List (Option Addr)} {cls : List MW.Cl} {c : Nat} {C : Addr}, AllC K mg T fas l cs cls -> cs[c]? = some (some C) -> Cls K C /\ AllN K C T.fls
 | some q :: l, some C :: cs, cl :: cls, 0, p, h, e => by cases e; exact ⟨h.1.cs, h.1.na⟩
 | some q :: l, some C :: cs, cl :: cls, c + 1, p, h, e => AllC.at (c := c) h.2 (by simpa using e)
 | none :: l, none :: cs, cl :: cls, 0, p, h, e => by cases e
 | [], [], _, _, _, _, e => by simp at e
 | [], _ :: _, [], _, _, h, _ => h.elim
 | [], _ :: _, _ :: _, _, _, h, _ => h.elim
 | none :: l, none :: cs, cl :: cls, c + 1, p, h, e => AllC.at (l := l) (cs := cs) (cls := cls) (c := c) h (by simpa using e)
theorem AllV.get : ∀ {l : List (Str × Int)} {x : Str} {i : Int}, AllV mg l -> (x, i) ∈ l -> ∃ t, mg x = some (.int i t)
 | q :: l, x, i, h, m => by
  rcases List.mem_cons.mp m with z | z
  . rw [<- z] at h; exact h.1
  . exact AllV.get h.2 z
theorem AllB.get : ∀ {l : List Str} {x : Str}, AllB mg l -> x ∈ l -> mg x = none
 | q :: l, x, h, m => by
  rcases List.mem_cons.mp m with z | z
  . rw [z]; exact h.1
  . exact AllB.get h.2 z
end
noncomputable def abr (T : Tab) : List MW.Fn -> List Def -> List Stmt -> Bool
 | F :: Fs, d :: ds, s :: ss => aev T d F s && abr T Fs ds ss
 | [], [], [] => true
 | _, _, _ => false
noncomputable def npB (fns : List MW.Fn) (f n : Nat) : Bool := match fns[f]? with | some F => F.np == n | none => false
noncomputable def tfB (fns : List MW.Fn) (l : List (Option (Str × Nat))) : Bool := l.zipIdx.all fun q => match q.1 with | some p => npB fns q.2 p.2 | none => true
noncomputable def tcB (IR : MW.Prog) (l : List (Option (Str × Nat))) : Bool := l.zipIdx.all fun q => match q.1 with | some p => (match IR.cls[q.2]? with | some cl => npB IR.fns cl.init (p.2 + 1) | none => false) | none => true
noncomputable def a0c (cls : List MW.Cl) (m c f : Nat) : Bool := cls.zipIdx.all fun q => match q.1.meths.lookup m with | none => true | some g => q.2 == c && g == f
noncomputable def tmB (IR : MW.Prog) (T : Tab) (mcs : List (Nat × Nat)) : Bool := T.mts.zipIdx.all fun q => match mcs[q.2]? with
 | some cf => (a0c IR.cls q.2 cf.1 cf.2 && (npB IR.fns cf.2 (q.1.2 + 1) && akc T.fls q.1.1)) && ((match T.cls[cf.1]? with | some (some _) => true | _ => false) && (match IR.cls[cf.1]? with | some cl => cl.meths.lookup q.2 == some cf.2 | none => false))
 | none => false
theorem ut {α : Type} {l : List α} {g : α × Nat -> Bool} (h : l.zipIdx.all g = true) {i : Nat} {x : α} (e : l[i]? = some x) : g (x, i) = true := by
 rw [List.all_eq_true] at h
 exact h (x, i) (by rw [List.mem_iff_getElem?]; exact ⟨i, by rw [List.getElem?_zipIdx, e]; simp⟩)
theorem ag5 {fns : List MW.Fn} {f n : Nat} (h : npB fns f n = true) : ∃ F, fns[f]? = some F /\ F.np = n := by
 unfold npB at h
 split at h
 . rename_i F e; exact ⟨F, e, eq_of_beq h⟩
 . cases h
theorem adf {T : Tab} : ∀ {Fs : List MW.Fn} {ds : List Def} {ss : List Stmt} {i : Nat} {F : MW.Fn}, abr T Fs ds ss = true -> Fs[i]? = some F -> ∃ d s, ds[i]? = some d /\ ss[i]? = some s /\ aev T d F s = true
 | F :: Fs, d :: ds, s :: ss, 0, F', h, e => by
  simp only [abr, Bool.and_eq_true] at h
  cases e; exact ⟨d, s, rfl, rfl, h.1⟩
 | F :: Fs, d :: ds, s :: ss, i + 1, F', h, e => by
  simp only [abr, Bool.and_eq_true] at h
  obtain ⟨d', s', h1, h2, h3⟩ := adf (i := i) h.2 (by simpa using e)
  exact ⟨d', s', by simpa using h1, by simpa using h2, h3⟩
 | [], _, _, _, _, _, e => by simp at e
 | _ :: _, [], _, _, _, h, _ => by simp [abr] at h
 | _ :: _, _ :: _, [], _, _, h, _ => by simp [abr] at h
theorem avv {P : Program} {w : World} {K : Fg} {mg : Str -> Option Value} {base : Heap} {IR : MW.Prog} {T : Tab} {Ds : List Def} {ss : List Stmt} {fas : List Addr} {fds : List FuncData} {cas : List (Option Addr)} {mcs : List (Nat × Nat)}
 (hfl : ahx T.fls = true) (hP : abr T IR.fns Ds ss = true) (h1 : tfB IR.fns T.fns = true) (h2 : tcB IR T.cls = true) (h3 : tmB IR T mcs = true) (aF : AllF K Ds ss fas fds) (aG : AllG mg T.fns fas) (aC : AllC K mg T fas T.cls cas IR.cls) (aV : AllV mg T.csts) (aB : AllB mg wz)
 (kit : ∀ Ty ∈ ["NoneType", "bool", "int", "str", "tuple", "dict"], PySem.W.kitOne K (.type Ty) (.type "list") = some false) {n i : Nat} {F : MW.Fn} (hF : IR.fns[i]? = some F) :
 ∃ d a f, Ds[i]? = some d /\ fas[i]? = some a /\ fds[i]? = some f /\ Binds K f d.ps [] /\ FnOk P w K mg base CX0 (17 * n) a f d.ps (spF (aoj cas T.fls hfl) ⟨IR.call n, IR.cls⟩ K F.np i) := by
 let dd : Def := ⟨Str.empty, Str.empty, [], []⟩
 let sd : Stmt := .Pass ⟨0, 0, 0, 0⟩
 obtain ⟨d, s, g1, g2, g3⟩ := adf hP hF
 have all : ∀ (i : Nat) (F : MW.Fn), IR.fns[i]? = some F -> ∃ d s a f, Ds[i]? = some d /\ ss[i]? = some s /\ fas[i]? = some a /\ fds[i]? = some f /\ Fun K d.x d.qual s a f /\ Binds K f d.ps [] /\ aev T d F s = true := fun i F e => by
  obtain ⟨d, s, g1, g2, g3⟩ := adf hP e
  obtain ⟨s', a, f, k1, k2, k3, k4, k5⟩ := aF.get g1
  rw [g2] at k1; cases k1
  exact ⟨d, s, a, f, g1, g2, k2, k3, k4, k5, g3⟩
 have df : ∀ {j : Nat} {a : Addr} {f : FuncData} {d : Def}, fas[j]? = some a -> fds[j]? = some f -> Ds[j]? = some d -> (fas[j]?).getD 0 = a /\ Ds[j]?.getD dd = d := fun e1 e2 e3 => ⟨by rw [e1]; rfl, by rw [e3]; rfl⟩
 obtain ⟨fd0, hfd0⟩ : ∃ fd0 : FuncData, True := by
  obtain ⟨s', a, f, _⟩ := aF.get g1
  exact ⟨f, trivial⟩
 have main := aiy (nm := aoj cas T.fls hfl) (P := P) (w := w) (K := K) (mg := mg) (base := base) (IR := IR) (T := T) (D := fun i => Ds[i]?.getD dd) (st := fun i => ss[i]?.getD sd) (fa := fun i => (fas[i]?).getD 0) (fd := fun i => (fds[i]?).getD fd0)
  (fun i hi => by
   obtain ⟨d, s, a, f, k1, k2, k3, k4, k5, k6, k7⟩ := all i IR.fns[i] (by simp [hi])
   rw [k1, k2, k3, k4]; exact k5)
  (fun i F e => by
   obtain ⟨d, s, a, f, k1, k2, k3, k4, k5, k6, k7⟩ := all i F e
   rw [k1, k2]; exact k7)
  (fun n G => ?_) n i F hF
 . obtain ⟨d', s', a, f, k1, k2, k3, k4, k5, k6, k7⟩ := all i F hF
   refine ⟨d', a, f, k1, k3, k4, k6, ?_⟩
   have := main
   rw [k1, k3, k4] at this
   exact this
 ·
  have at_ : ∀ {j : Nat} {F : MW.Fn} {a : Addr}, IR.fns[j]? = some F -> fas[j]? = some a -> ∃ (f : FuncData) (d : Def), Binds K f d.ps [] /\ FnOk P w K mg base CX0 (17 * n) a f d.ps (spF (aoj cas T.fls hfl) ⟨IR.call n, IR.cls⟩ K F.np j) /\ PySem.W.keepIn K (.ref a) = true := fun {j F a} e1 e2 => by
   obtain ⟨d, s, a', f, k1, k2, k3, k4, k5, k6, k7⟩ := all j F e1
   rw [e2] at k3; cases k3
   have g := G j F e1
   rw [k1, e2, k4] at g
   exact ⟨f, d, k6, g, k5.kp⟩
  have addr : ∀ {j : Nat} {F : MW.Fn}, IR.fns[j]? = some F -> ∃ a, fas[j]? = some a := fun {j F} e => by
   obtain ⟨d, s, a', f, k1, k2, k3, _⟩ := all j F e
   exact ⟨a', k3⟩
  refine ⟨fun f x m e => ?_, fun c x m e => ?_, fun m x j e => ?_, fun f x e => ?_, fun x i m => aV.get m, fun x m => aB.get m, kit⟩
  . obtain ⟨F, e1, e2⟩ := ag5 (ut h1 e)
    obtain ⟨a, e3⟩ := addr e1
    obtain ⟨fd, d, b, g, kp⟩ := at_ e1 e3
    rw [e2] at g
    exact ⟨a, fd, d.ps, g, aG.get e e3, kp, b⟩
  . obtain ⟨C, cl, q1, q2, q3⟩ := aC.get e
    have z := ut h2 e
    simp only [q2] at z
    obtain ⟨F, e1, e2⟩ := ag5 z
    obtain ⟨f, f1, f2⟩ := q3.ini
    obtain ⟨fd, d, b, g, kp⟩ := at_ e1 f1
    rw [e2] at g
    exact ⟨C, f, fd, d.ps, cl, f2, g, q3.mg, b, q2, by show (cas[c]?).join = some C; rw [q1]; rfl⟩
  . have z := ut h3 e
    simp only at z
    split at z
    . rename_i cf hcf
      simp only [Bool.and_eq_true] at z
      obtain ⟨⟨z1, z2, z3⟩, z4, z5⟩ := z
      obtain ⟨F, e1, e2⟩ := ag5 z2
      split at z4
      . rename_i p hp
        obtain ⟨C, cl, q1, q2, q3⟩ := aC.get hp
        rw [q2] at z5
        simp only at z5
        have mem : (m, cf.2) ∈ cl.meths := mem_of_lookup (eq_of_beq z5)
        obtain ⟨p', a, r1, r2, r3⟩ := q3.me.get mem
        rw [e] at r1; cases r1
        obtain ⟨fd, d, b, g, kp⟩ := at_ e1 r2
        rw [e2] at g
        refine ⟨C, a, fd, d.ps, cf.2, q3.cs, r3, g, b, fun c' cl' hc' g' hg' => ?_, apr z3⟩
        have y := ut z1 hc'
        simp only [hg', Bool.and_eq_true] at y
        have y1 : c' = cf.1 := eq_of_beq y.1
        exact ⟨by show (cas[c']?).join = some C; rw [y1, q1]; rfl, eq_of_beq y.2⟩
      . cases z4
    . cases z
  . refine ⟨by show x = abu T.fls f; unfold abu; rw [e], fun c C hC => ?_⟩
    have hC : (cas[c]?).join = some C := hC
    have hC2 : cas[c]? = some (some C) := by
     cases q : cas[c]? with
     | none => rw [q] at hC; cases hC
     | some o => rw [q] at hC; cases o with
      | none => cases hC
      | some C' => cases hC; rfl
    obtain ⟨y1, y2⟩ := aC.at hC2
    exact ⟨y1, y2.get (List.mem_of_getElem? e)⟩
section
variable {K : Fg} {mg : Str -> Option Value}
theorem fN : AllF K [] [] [] [] := trivial
theorem fC {d : Def} {s : Stmt} {a : Addr} {f : FuncData} {ds : List Def} {ss : List Stmt} {as : List Addr} {fs : List FuncData} (F : Fun K d.x d.qual s a f) (b : Binds K f d.ps []) (r : AllF K ds ss as fs) : AllF K (d :: ds) (s :: ss) (a :: as) (f :: fs) := ⟨⟨F, b⟩, r⟩
theorem gN {as : List Addr} : AllG mg [] as := trivial
theorem gS {p : Str × Nat} {r : List (Option (Str × Nat))} {a : Addr} {as : List Addr} (h : mg p.1 = some (.ref a)) (t : AllG mg r as) : AllG mg (some p :: r) (a :: as) := ⟨h, t⟩
theorem gO {r : List (Option (Str × Nat))} {a : Addr} {as : List Addr} (t : AllG mg r as) : AllG mg (none :: r) (a :: as) := t
theorem mN {C : Addr} {mts : List (Str × Nat)} {fas : List Addr} : AllM K C mts fas [] := trivial
theorem mC {C : Addr} {mts : List (Str × Nat)} {fas : List Addr} {q : Nat × Nat} {r : List (Nat × Nat)} {p : Str × Nat} {a : Addr} (h1 : mts[q.1]? = some p) (h2 : fas[q.2]? = some a) (m : Meth K C p.1 a) (t : AllM K C mts fas r) : AllM K C mts fas (q :: r) := ⟨⟨p, a, h1, h2, m⟩, t⟩
theorem nN {C : Addr} : AllN K C [] := trivial
theorem nC {C : Addr} {x : Str} {r : List Str} (h : NoAttr K C x) (t : AllN K C r) : AllN K C (x :: r) := ⟨h, t⟩
theorem cN {T : Tab} {fas : List Addr} : AllC K mg T fas [] [] [] := trivial
theorem cO {T : Tab} {fas : List Addr} {r : List (Option (Str × Nat))} {cs : List (Option Addr)} {cl : MW.Cl} {cls : List MW.Cl} (t : AllC K mg T fas r cs cls) : AllC K mg T fas (none :: r) (none :: cs) (cl :: cls) := t
theorem cS {T : Tab} {fas : List Addr} {p : Str × Nat} {C : Addr} {r : List (Option (Str × Nat))} {cs : List (Option Addr)} {cl : MW.Cl} {cls : List MW.Cl} (h : ClF K mg T fas p.1 C cl) (t : AllC K mg T fas r cs cls) : AllC K mg T fas (some p :: r) (some C :: cs) (cl :: cls) := ⟨h, t⟩
theorem vN : AllV mg [] := trivial
theorem vC {p : Str × Int} {r : List (Str × Int)} {t : Tok} (h : mg p.1 = some (.int p.2 t)) (q : AllV mg r) : AllV mg (p :: r) := ⟨⟨t, h⟩, q⟩
theorem bN : AllB mg [] := trivial
theorem bC {x : Str} {r : List Str} (h : mg x = none) (q : AllB mg r) : AllB mg (x :: r) := ⟨h, q⟩
end
theorem ati (K : Fg) (Ty U : String) : PySem.W.kitOne K (.type Ty) (.type U) = (if (Value.type Ty == Value.type U) = true then some true else if PySem.W.kitMeta U = true then (fastBuiltinMro Ty).map (·.contains (.type U)) else none) := rfl
theorem am5 (K : Fg) : ∀ Ty ∈ ["NoneType", "bool", "int", "str", "tuple", "dict"], PySem.W.kitOne K (.type Ty) (.type "list") = some false := fun Ty m => by
 simp only [List.mem_cons, List.not_mem_nil, or_false] at m
 rcases m with rfl | rfl | rfl | rfl | rfl | rfl <;> rw [ati] <;> decide +kernel
noncomputable def agf (K : Fg) : Sp := fun vs H Q _ => ∃ (a : Addr) (ns : List Int), vs = [.ref a] /\ Only H /\ SqL K H a (ns.map V.int) /\ ns.length <= 63 /\ ∀ H', Q (.bl true) H'
theorem ark {K : Fg} {H : Hp} {a : Addr} {vs : List V} (o : Only H) (h : SqL K H a vs) : FzAt K H a vs := by
 rcases h with (h | h) | h
 . rcases o a with z | ⟨ob, xs, z⟩ <;> rw [z] at h <;> cases h
 . exact .inl h
 . exact .inr h
theorem aqx {nm : Nm} {K : Fg} {W : Wld} {i : Nat} (run : ∀ (ns : List Int), ns.length <= 63 -> ∃ M', W.call i [.fz (ns.map MW.D.int)] [] = .ok (.bl true) M') {vs : List V} {H : Hp} {Q : VK} {E : XK} (h : agf K vs H Q E) : spF nm W K 1 i vs H Q E := by
 obtain ⟨a, ns, rfl, o, hS, hl, k⟩ := h
 obtain ⟨M', e⟩ := run ns hl
 refine ⟨⟨[], []⟩, [], _, _, M', ⟨rfl, List.nodup_nil, by simp, fun n o a h => by simp at h⟩, .cons (.fz (ark o hS) (RepL.ints ns)) .nil, rfl, e, fun ι' H' v le S' r => ?_⟩
 cases r
 exact k H'
theorem walk {l : PySem.W.OpenLaw} {q : Program} {loose : List Str} {XP : (Str -> Option Value) -> Heap -> Prop} {YP : World -> Heap -> Prop} {d : DefRec} {K : Params -> Fg} (hn : l.most = some 63) (hdf : d.params.defaults = []) (hY : ∀ (w : World) (h : Heap), YP w h -> (K w.params).In h)
 (F : ∀ (w : World) (mg : Str -> Option Value) (fa : Addr) (h : Heap), (K w.params).In h -> h.Ns mainGlobals mg -> mg d.name = some (.ref fa) ->
  ∃ fd : FuncData, (∀ (s : Shared) (u : Value), BindsTo s fd ⟨[u], []⟩ [("script", u)]) /\ ∀ base : Heap, (K w.params).In base -> base.Ns mainGlobals mg -> FnOk l.prog w (K w.params) mg base CX0 170 fa fd ["script"] (agf (K w.params))) :
 PySem.W.WalkO q loose XP YP l.row.toRowW d [] (fun f vs => PySem.call f vs) :=
 L2.ase (n := 63) (k := 170) (x := "script") (CX := fun _ => CX0) (sp := fun w => agf (K w.params)) hn (by decide) hdf ⟨rfl, by decide, by decide⟩ hY F (fun _ _ a ns hl ho hS => ⟨a, ns, rfl, ho, hS, hl, fun _ => rfl⟩) fun _ _ _ _ _ z => z
end Ck
namespace K01
open MW
noncomputable def xg : Stms := .cons (.expr (.call 9 (.cons (.var 1) (.cons (.var 2) (.nil))))) (.cons (.expr (.call 10 (.cons (.var 2) (.cons (.var 3) (.nil))))) (.cons (.expr (.call 11 (.cons (.var 2) (.cons (.var 3) (.nil))))) (.cons (.asg (.fld (.var 0) 2) (.var 1)) (.cons (.asg (.fld (.var 0) 1) (.var 2)) (.cons (.asg (.fld (.var 0) 0) (.blt .dict (.cons (.var 3) (.nil)))) (.nil))))))
noncomputable def wj : Fn := ⟨4, 4, xg⟩
noncomputable def ye : Stms := .cons (.ret (.fld (.var 0) 2)) (.nil)
noncomputable def yp : Fn := ⟨1, 1, ye⟩
noncomputable def xu : Stms := .cons (.ret (.fld (.var 0) 1)) (.nil)
noncomputable def wu : Fn := ⟨1, 1, xu⟩
noncomputable def xx : Stms := .cons (.ret (.call 6 (.cons (.fld (.var 0) 0) (.cons (.var 1) (.cons (.var 2) (.nil)))))) (.nil)
noncomputable def vd : Fn := ⟨3, 3, xx⟩
noncomputable def c_Pattern_ways_1 : Ex := .compif true 2 (.names [2, 3]) (.enm (.fld (.var 0) 1)) (.cmp .eq (.ix (.var 3) (.cst (.int 0))) (.var 1)) (.var 2)
noncomputable def zg : Stms := .cons (.ret (.bin .addL (.vlst (.cons (.cst (.int (-1))) (.nil))) (c_Pattern_ways_1))) (.nil)
noncomputable def zj : Fn := ⟨2, 2, zg⟩
noncomputable def ug : Stms := .cons (.iff (.cmp .eq (.var 2) (.cst (.int (-1)))) (.cons (.ret (.var 1)) (.nil)) (.nil)) (.cons (.ret (.ix (.ix (.fld (.var 0) 1) (.var 2)) (.cst (.int 1)))) (.nil))
noncomputable def uf : Fn := ⟨3, 3, ug⟩
noncomputable def qx : Stms := .cons (.iff (.cmp .eq (.var 1) (.cst (.int (-1)))) (.cons (.ret (.var 2)) (.nil)) (.nil)) (.cons (.iff (.cmp .eq (.var 2) (.cst (.int (-1)))) (.cons (.ret (.var 1)) (.nil)) (.nil)) (.cons (.ret (.ix (.var 0) (.tup (.cons (.var 1) (.cons (.var 2) (.nil)))))) (.nil)))
noncomputable def q9 : Fn := ⟨3, 3, qx⟩
noncomputable def t_meeting_pairs_1 : Stms := .cons (.iff (.cmp .eq (.ix (.var 3) (.cst (.int 1))) (.ix (.var 5) (.cst (.int 0)))) (.cons (.expr (.bm .append (.var 1) (.cons (.tup (.cons (.var 2) (.cons (.var 4) (.nil)))) (.nil)))) (.nil)) (.nil)) (.nil)
noncomputable def um : Stm := .for_ (.names [4, 5]) (.enm (.var 0)) t_meeting_pairs_1
noncomputable def j0 : Stms := .cons (um) (.nil)
noncomputable def uo : Stm := .for_ (.names [2, 3]) (.enm (.var 0)) j0
noncomputable def yj : Stms := .cons (.asg (.tg (.name 1)) (.lst (.nil))) (.cons (uo) (.cons (.ret (.var 1)) (.nil)))
noncomputable def yd : Fn := ⟨1, 6, yj⟩
noncomputable def mj : Stms := .cons (.iff (.cmp .eq (.var 1) (.cst (.int (-1)))) (.cons (.ret (.cmp .eq (.var 2) (.var 3))) (.nil)) (.nil)) (.cons (.ret (.and (.chain .le .lt (.cst (.int 0)) (.var 1) (.blt .len (.cons (.var 0) (.nil)))) (.cmp .eq (.ix (.var 0) (.var 1)) (.tup (.cons (.var 2) (.cons (.var 3) (.nil))))))) (.nil))
noncomputable def lg : Fn := ⟨4, 4, mj⟩
noncomputable def kj : Stms := .cons (.iff (.not (.and (.chain .le .lt (.cst (.int 0)) (.ix (.var 2) (.cst (.int 0))) (.var 0)) (.chain .le .lt (.cst (.int 0)) (.ix (.var 2) (.cst (.int 1))) (.var 0)))) (.cons (.raise 1 (.cons (.cst (.str (PySem.Str.ofString "a doing is from a kind to a kind"))) (.nil))) (.nil)) (.nil)) (.nil)
noncomputable def wg : Stm := .for_ (.name 2) (.val (.var 1)) kj
noncomputable def zx : Stms := .cons (.iff (.not (.chain .le .le (.cst (.int 1)) (.var 0) (.cst (.int 3)))) (.cons (.raise 1 (.cons (.cst (.str (PySem.Str.ofString "a pattern has one to three kinds"))) (.nil))) (.nil)) (.nil)) (.cons (.iff (.cmp .gt (.blt .len (.cons (.var 1) (.nil))) (.cst (.int 5))) (.cons (.raise 1 (.cons (.cst (.str (PySem.Str.ofString "a pattern has at most five doings"))) (.nil))) (.nil)) (.nil)) (.cons (wg) (.nil)))
noncomputable def aak : Fn := ⟨2, 3, zx⟩
noncomputable def o8 : Stms := .cons (.iff (.not (.call 8 (.cons (.var 0) (.cons (.ix (.var 1) (.tup (.cons (.var 3) (.cons (.var 4) (.nil))))) (.cons (.ix (.ix (.var 0) (.var 3)) (.cst (.int 0))) (.cons (.ix (.ix (.var 0) (.var 4)) (.cst (.int 1))) (.nil))))))) (.cons (.raise 1 (.cons (.cst (.str (PySem.Str.ofString "two doings come to a way of their own ends"))) (.nil))) (.nil)) (.nil)) (.nil)
noncomputable def yg : Stm := .for_ (.names [3, 4]) (.val (.var 2)) o8
noncomputable def abf : Stms := .cons (.asg (.tg (.name 2)) (.call 7 (.cons (.var 0) (.nil)))) (.cons (.iff (.setne (.var 1) (.var 2)) (.cons (.raise 1 (.cons (.cst (.str (PySem.Str.ofString "a table tells of just the pairs of doings that meet"))) (.nil))) (.nil)) (.nil)) (.cons (yg) (.nil)))
noncomputable def abb : Fn := ⟨2, 5, abf⟩
noncomputable def jn : Stms := .cons (.iff (.cmp .notin (.tup (.cons (.var 4) (.cons (.var 5) (.nil)))) (.var 1)) (.cons (.cont) (.nil)) (.nil)) (.cons (.asg (.tg (.name 6)) (.call 6 (.cons (.var 1) (.cons (.ix (.var 1) (.tup (.cons (.var 3) (.cons (.var 4) (.nil))))) (.cons (.var 5) (.nil)))))) (.cons (.asg (.tg (.name 7)) (.call 6 (.cons (.var 1) (.cons (.var 3) (.cons (.ix (.var 1) (.tup (.cons (.var 4) (.cons (.var 5) (.nil))))) (.nil)))))) (.cons (.iff (.cmp .ne (.var 6) (.var 7)) (.cons (.raise 1 (.cons (.cst (.str (PySem.Str.ofString "three doings come to one way, however they are taken together"))) (.nil))) (.nil)) (.nil)) (.nil))))
noncomputable def vz : Stm := .for_ (.name 5) (.rng (.blt .len (.cons (.var 0) (.nil)))) jn
noncomputable def lz : Stms := .cons (vz) (.nil)
noncomputable def v7 : Stm := .for_ (.names [3, 4]) (.val (.var 2)) lz
noncomputable def zu : Stms := .cons (.asg (.tg (.name 2)) (.call 7 (.cons (.var 0) (.nil)))) (.cons (v7) (.nil))
noncomputable def aaj : Fn := ⟨2, 8, zu⟩
noncomputable def qi : Stms := .cons (.iff (.cmp .lt (.var 1) (.blt .len (.cons (.var 0) (.nil)))) (.cons (.ret (.ix (.var 0) (.var 1))) (.nil)) (.nil)) (.cons (.ret (.cst (.int 0))) (.nil))
noncomputable def qw : Fn := ⟨2, 2, qi⟩
noncomputable def xm : Stms := .cons (.asg (.tg (.name 2)) (.call 12 (.cons (.var 0) (.cons (.var 1) (.nil))))) (.cons (.iff (.cmp .ge (.var 2) (.bin .pow (.cst (.int 10)) (.cst (.int 18)))) (.cons (.ret (.lst (.cons (.bin .sub (.var 2) (.bin .pow (.cst (.int 10)) (.cst (.int 18)))) (.cons (.cst (.bl true)) (.nil))))) (.nil)) (.nil)) (.cons (.ret (.lst (.cons (.bin .mod (.var 2) (.cst (.int 2147483647))) (.cons (.cst (.bl false)) (.nil))))) (.nil)))
noncomputable def vq : Fn := ⟨2, 3, xm⟩
noncomputable def zc : Stms := .cons (.iff (.ix (.var 0) (.cst (.int 1))) (.cons (.asg (.tg (.name 2)) (.bin .mod (.ix (.var 0) (.cst (.int 0))) (.var 1))) (.cons (.asg (.sub (.var 0) (.cst (.int 0))) (.bin .fdiv (.ix (.var 0) (.cst (.int 0))) (.var 1))) (.cons (.ret (.var 2)) (.nil)))) (.nil)) (.cons (.asg (.sub (.var 0) (.cst (.int 0))) (.bin .mod (.bin .add (.bin .mul (.ix (.var 0) (.cst (.int 0))) (.cst (.int 48271))) (.cst (.int 29))) (.cst (.int 2147483647)))) (.cons (.asg (.tg (.name 3)) (.bin .mod (.bin .add (.bin .add (.bin .mul (.ix (.var 0) (.cst (.int 0))) (.ix (.var 0) (.cst (.int 0)))) (.bin .mul (.cst (.int 39373)) (.ix (.var 0) (.cst (.int 0))))) (.cst (.int 7))) (.cst (.int 2147483629)))) (.cons (.asg (.tg (.name 3)) (.bin .mod (.bin .add (.bin .mul (.var 3) (.var 3)) (.bin .mul (.cst (.int 16807)) (.var 3))) (.cst (.int 2147483587)))) (.cons (.ret (.bin .mod (.bin .fdiv (.var 3) (.cst (.int 8))) (.var 1))) (.nil)))))
noncomputable def zb : Fn := ⟨2, 4, zc⟩
noncomputable def c__law_begun_1 : Ex := .comp true 1 (.name 12) (.rng (.ix (.var 7) (.var 10))) (.call 14 (.cons (.var 0) (.cons (.ix (.var 7) (.var 11)) (.nil))))
noncomputable def t__law_begun_0 : Stms := .cons (.asg (.tg (.name 10)) (.call 14 (.cons (.var 0) (.cons (.var 6) (.nil))))) (.cons (.asg (.tg (.name 11)) (.call 14 (.cons (.var 0) (.cons (.var 6) (.nil))))) (.cons (.expr (.bm .append (.var 8) (.cons (.tup (.cons (.var 10) (.cons (.var 11) (.cons (.blt .tuple (.cons (c__law_begun_1) (.nil))) (.nil))))) (.nil)))) (.nil)))
noncomputable def s__law_begun_0 : Stm := .for_ (.name 9) (.rng (.call 14 (.cons (.var 0) (.cons (.cst (.int 4)) (.nil))))) t__law_begun_0
noncomputable def c__law_begun_2 : Ex := .comp true 1 (.name 12) (.rng (.var 6)) (.bin .add (.cst (.int 1)) (.call 14 (.cons (.var 0) (.cons (.cst (.int 3)) (.nil)))))
noncomputable def v5 : Stms := .cons (.asg (.tg (.name 1)) (.call 14 (.cons (.var 0) (.cons (.cst (.int 12)) (.nil))))) (.cons (.iff (.cmp .lt (.var 1) (.cst (.int 7))) (.cons (.asg (.tg (.name 2)) (.vlst (.cons (.tup (.cons (.cst (.int 0)) (.cons (.cst (.int 1)) (.cons (.tup (.cons (.cst (.int 0)) (.cons (.cst (.int 1)) (.nil)))) (.nil))))) (.cons (.tup (.cons (.cst (.int 0)) (.cons (.cst (.int 1)) (.cons (.tup (.cons (.cst (.int 1)) (.cons (.cst (.int 0)) (.nil)))) (.nil))))) (.nil))))) (.cons (.asg (.tg (.name 3)) (.vlst (.cons (.tup (.cons (.cst (.int 0)) (.cons (.cst (.int 1)) (.cons (.tup (.cons (.cst (.int 0)) (.cons (.cst (.int 0)) (.cons (.cst (.int 1)) (.cons (.cst (.int 1)) (.nil)))))) (.nil))))) (.cons (.tup (.cons (.cst (.int 0)) (.cons (.cst (.int 1)) (.cons (.tup (.cons (.cst (.int 0)) (.cons (.cst (.int 1)) (.cons (.cst (.int 0)) (.cons (.cst (.int 1)) (.nil)))))) (.nil))))) (.cons (.tup (.cons (.cst (.int 1)) (.cons (.cst (.int 0)) (.cons (.tup (.cons (.cst (.int 0)) (.cons (.cst (.int 3)) (.nil)))) (.nil))))) (.nil)))))) (.cons (.asg (.tg (.name 4)) (.vlst (.cons (.tup (.cons (.cst (.int 0)) (.cons (.cst (.int 0)) (.cons (.tup (.cons (.cst (.int 1)) (.cons (.cst (.int 0)) (.nil)))) (.nil))))) (.nil)))) (.cons (.asg (.tg (.name 5)) (.vlst (.cons (.var 2) (.cons (.var 3) (.cons (.var 4) (.cons (.vlst (.cons (.tup (.cons (.cst (.int 0)) (.cons (.cst (.int 0)) (.cons (.tup (.cons (.cst (.int 1)) (.cons (.cst (.int 2)) (.cons (.cst (.int 0)) (.nil))))) (.nil))))) (.nil))) (.cons (.vlst (.cons (.tup (.cons (.cst (.int 0)) (.cons (.cst (.int 0)) (.cons (.tup (.cons (.cst (.int 0)) (.cons (.cst (.int 0)) (.nil)))) (.nil))))) (.nil))) (.cons (.vlst (.nil)) (.cons (.vlst (.cons (.tup (.cons (.cst (.int 0)) (.cons (.cst (.int 1)) (.cons (.tup (.cons (.cst (.int 0)) (.cons (.cst (.int 1)) (.nil)))) (.nil))))) (.cons (.tup (.cons (.cst (.int 1)) (.cons (.cst (.int 2)) (.cons (.tup (.cons (.cst (.int 0)) (.cons (.cst (.int 0)) (.cons (.cst (.int 1)) (.nil))))) (.nil))))) (.nil)))) (.nil)))))))))) (.cons (.ret (.ix (.var 5) (.var 1))) (.nil)))))) (.nil)) (.cons (.asg (.tg (.name 6)) (.bin .add (.cst (.int 1)) (.call 14 (.cons (.var 0) (.cons (.cst (.int 3)) (.nil)))))) (.cons (.asg (.tg (.name 7)) (c__law_begun_2)) (.cons (.asg (.tg (.name 8)) (.lst (.nil))) (.cons (s__law_begun_0) (.cons (.ret (.var 8)) (.nil)))))))
noncomputable def f__law_begun : Fn := ⟨1, 12, v5⟩
noncomputable def c__law_closed_1 : Ex := .comp true 1 (.name 10) (.val (.ix (.var 7) (.cst (.int 2)))) (.ix (.ix (.var 8) (.cst (.int 2))) (.var 10))
noncomputable def t__law_closed_2 : Stms := .cons (.asg (.tg (.name 4)) (.tup (.nil))) (.cons (.iff (.cmp .eq (.ix (.var 7) (.cst (.int 1))) (.ix (.var 8) (.cst (.int 0)))) (.cons (.asg (.tg (.name 4)) (.blt .tuple (.cons (c__law_closed_1) (.nil)))) (.nil)) (.nil)) (.cons (.asg (.tg (.name 9)) (.tup (.cons (.ix (.var 7) (.cst (.int 0))) (.cons (.ix (.var 8) (.cst (.int 1))) (.cons (.var 4) (.nil)))))) (.cons (.iff (.and (.cmp .ne (.var 4) (.tup (.nil))) (.and (.cmp .notin (.var 9) (.var 1)) (.or (.cmp .ne (.ix (.var 9) (.cst (.int 0))) (.ix (.var 9) (.cst (.int 1)))) (.cmp .ne (.var 4) (.rngT (.blt .len (.cons (.var 4) (.nil)))))))) (.cons (.expr (.bm .append (.var 1) (.cons (.var 9) (.nil)))) (.nil)) (.nil)) (.nil))))
noncomputable def s__law_closed_2 : Stm := .for_ (.names [7, 8]) (.val (.vlst (.cons (.tup (.cons (.ix (.var 1) (.var 5)) (.cons (.ix (.var 1) (.var 6)) (.nil)))) (.cons (.tup (.cons (.ix (.var 1) (.var 6)) (.cons (.ix (.var 1) (.var 5)) (.nil)))) (.nil))))) t__law_closed_2
noncomputable def t__law_closed_1 : Stms := .cons (s__law_closed_2) (.nil)
noncomputable def s__law_closed_1 : Stm := .for_ (.name 6) (.rng (.blt .len (.cons (.var 1) (.nil)))) t__law_closed_1
noncomputable def yt : Stms := .cons (s__law_closed_1) (.cons (.asg (.tg (.name 5)) (.bin .add (.var 5) (.cst (.int 1)))) (.nil))
noncomputable def s__law_closed_0 : Stm := .whl (.and (.cmp .lt (.var 5) (.blt .len (.cons (.var 1) (.nil)))) (.cmp .lt (.blt .len (.cons (.var 1) (.nil))) (.cst (.int 6)))) yt
noncomputable def t__law_closed_3 : Stms := .cons (.iff (.and (.or (.cmp .ne (.var 2) (.var 3)) (.cmp .ne (.var 4) (.rngT (.blt .len (.cons (.var 4) (.nil)))))) (.cmp .notin (.tup (.cons (.var 2) (.cons (.var 3) (.cons (.var 4) (.nil))))) (.var 1))) (.cons (.expr (.bm .append (.var 1) (.cons (.tup (.cons (.var 2) (.cons (.var 3) (.cons (.var 4) (.nil))))) (.nil)))) (.nil)) (.nil)) (.nil)
noncomputable def s__law_closed_3 : Stm := .for_ (.names [2, 3, 4]) (.val (.var 0)) t__law_closed_3
noncomputable def abe : Stms := .cons (.asg (.tg (.name 1)) (.lst (.nil))) (.cons (s__law_closed_3) (.cons (.asg (.tg (.name 5)) (.cst (.int 0))) (.cons (s__law_closed_0) (.cons (.ret (.var 1)) (.nil)))))
noncomputable def aba : Fn := ⟨1, 10, abe⟩
noncomputable def c__law_pattern_1 : Ex := .comp true 3 (.names [8, 9, 10]) (.val (.var 2)) (.tup (.cons (.var 8) (.cons (.var 9) (.nil))))
noncomputable def c__law_pattern_2 : Ex := .comp true 1 (.name 8) (.val (.ix (.ix (.var 2) (.var 5)) (.cst (.int 2)))) (.ix (.ix (.ix (.var 2) (.var 6)) (.cst (.int 2))) (.var 8))
noncomputable def t__law_pattern_1 : Stms := .cons (.iff (.cmp .eq (.ix (.ix (.var 2) (.var 5)) (.cst (.int 1))) (.ix (.ix (.var 2) (.var 6)) (.cst (.int 0)))) (.cons (.asg (.tg (.name 7)) (.tup (.cons (.ix (.ix (.var 2) (.var 5)) (.cst (.int 0))) (.cons (.ix (.ix (.var 2) (.var 6)) (.cst (.int 1))) (.cons (.blt .tuple (.cons (c__law_pattern_2) (.nil))) (.nil)))))) (.cons (.asg (.sub (.var 4) (.tup (.cons (.var 5) (.cons (.var 6) (.nil))))) (.ite (.cmp .inn (.var 7) (.var 2)) (.bm .index (.var 2) (.cons (.var 7) (.nil))) (.neg (.cst (.int 1))))) (.nil))) (.nil)) (.nil)
noncomputable def wk : Stm := .for_ (.name 6) (.rng (.blt .len (.cons (.var 2) (.nil)))) t__law_pattern_1
noncomputable def mq : Stms := .cons (wk) (.nil)
noncomputable def s__law_pattern_0 : Stm := .for_ (.name 5) (.rng (.blt .len (.cons (.var 2) (.nil)))) mq
noncomputable def c__law_pattern_3 : Ex := .comp true 3 (.names [8, 9, 10]) (.val (.var 2)) (.blt .max (.cons (.var 8) (.cons (.var 9) (.nil))))
noncomputable def w5 : Stms := .cons (.asg (.tg (.name 1)) (.cut (.var 1) (.none) (.some (.neg (.cst (.int 1)))))) (.cons (.asg (.tg (.name 2)) (.call 16 (.cons (.var 1) (.nil)))) (.nil))
noncomputable def s__law_pattern_2 : Stm := .whl (.cmp .gt (.blt .len (.cons (.var 2) (.nil))) (.cst (.int 5))) w5
noncomputable def aah : Stms := .cons (.asg (.tg (.name 1)) (.call 15 (.cons (.var 0) (.nil)))) (.cons (.asg (.tg (.name 2)) (.call 16 (.cons (.var 1) (.nil)))) (.cons (s__law_pattern_2) (.cons (.asg (.tg (.name 3)) (.bin .add (.cst (.int 1)) (.blt .max (.cons (.bin .add (c__law_pattern_3) (.vlst (.cons (.cst (.int 0)) (.nil)))) (.nil))))) (.cons (.iff (.cmp .eq (.var 2) (.vlst (.nil))) (.cons (.asg (.tg (.name 3)) (.bin .add (.cst (.int 1)) (.call 14 (.cons (.var 0) (.cons (.cst (.int 3)) (.nil)))))) (.nil)) (.nil)) (.cons (.asg (.tg (.name 4)) (.dicT)) (.cons (s__law_pattern_0) (.cons (.ret (.tup (.cons (.var 3) (.cons (.blt .tuple (.cons (c__law_pattern_1) (.nil))) (.cons (.var 4) (.nil)))))) (.nil))))))))
noncomputable def aae : Fn := ⟨1, 8, aah⟩
noncomputable def c__law_ways_1 : Ex := .compif true 1 (.name 2) (.rng (.blt .len (.cons (.ix (.var 0) (.cst (.int 1))) (.nil)))) (.cmp .eq (.ix (.ix (.ix (.var 0) (.cst (.int 1))) (.var 2)) (.cst (.int 0))) (.var 1)) (.var 2)
noncomputable def acu : Stms := .cons (.ret (.bin .add (.vlst (.cons (.neg (.cst (.int 1))) (.nil))) (c__law_ways_1))) (.nil)
noncomputable def acz : Fn := ⟨2, 2, acu⟩
noncomputable def aar : Stms := .cons (.ret (.ite (.cmp .lt (.var 2) (.cst (.int 0))) (.var 1) (.ix (.ix (.ix (.var 0) (.cst (.int 1))) (.var 2)) (.cst (.int 1))))) (.nil)
noncomputable def aa3 : Fn := ⟨3, 3, aar⟩
noncomputable def j7 : Stms := .cons (.iff (.or (.cmp .lt (.var 1) (.cst (.int 0))) (.cmp .lt (.var 2) (.cst (.int 0)))) (.cons (.ret (.bin .add (.bin .add (.var 1) (.var 2)) (.cst (.int 1)))) (.nil)) (.nil)) (.cons (.ret (.ix (.ix (.var 0) (.cst (.int 2))) (.tup (.cons (.var 1) (.cons (.var 2) (.nil)))))) (.nil))
noncomputable def j6 : Fn := ⟨3, 3, j7⟩
noncomputable def ue : Stms := .cons (.iff (.cmp .ne (.meth (.var 0) 2 (.cons (.var 4) (.cons (.var 6) (.nil)))) (.call 20 (.cons (.var 1) (.cons (.var 4) (.cons (.var 6) (.nil)))))) (.cons (.ret (.cst (.bl false))) (.nil)) (.nil)) (.nil)
noncomputable def s__law_told_2 : Stm := .for_ (.name 6) (.val (.call 18 (.cons (.var 1) (.cons (.var 5) (.nil))))) ue
noncomputable def uc : Stms := .cons (.asg (.tg (.name 5)) (.call 19 (.cons (.var 1) (.cons (.var 2) (.cons (.var 4) (.nil)))))) (.cons (.iff (.cmp .ne (.meth (.var 0) 4 (.cons (.var 2) (.cons (.var 4) (.nil)))) (.var 5)) (.cons (.ret (.cst (.bl false))) (.nil)) (.nil)) (.cons (s__law_told_2) (.nil)))
noncomputable def s__law_told_1 : Stm := .for_ (.name 4) (.val (.call 18 (.cons (.var 1) (.cons (.var 2) (.nil))))) uc
noncomputable def ul : Stms := .cons (.asg (.tg (.name 3)) (.meth (.var 0) 3 (.cons (.var 2) (.nil)))) (.cons (.iff (.or (.not (.blt .isList (.cons (.var 3) .nil))) (.cmp .ne (.var 3) (.call 18 (.cons (.var 1) (.cons (.var 2) (.nil)))))) (.cons (.ret (.cst (.bl false))) (.nil)) (.nil)) (.cons (.expr (.bm .append (.var 3) (.cons (.cst (.int 9)) (.nil)))) (.cons (s__law_told_1) (.nil))))
noncomputable def aa9 : Stm := .for_ (.name 2) (.rng (.ix (.var 1) (.cst (.int 0)))) ul
noncomputable def acj : Stms := .cons (.iff (.or (.cmp .ne (.meth (.var 0) 0 (.nil)) (.ix (.var 1) (.cst (.int 0)))) (.cmp .ne (.meth (.var 0) 1 (.nil)) (.ix (.var 1) (.cst (.int 1))))) (.cons (.ret (.cst (.bl false))) (.nil)) (.nil)) (.cons (aa9) (.cons (.ret (.cst (.bl true))) (.nil)))
noncomputable def ack : Fn := ⟨2, 7, acj⟩
noncomputable def ai3 : Stms := .cons (.iff (.not (.call 21 (.cons (.ix (.var 3) (.var 5)) (.cons (.ix (.var 1) (.var 5)) (.nil))))) (.cons (.ret (.cst (.bl false))) (.nil)) (.nil)) (.nil)
noncomputable def s_law_0 : Stm := .for_ (.name 5) (.val (.vlst (.cons (.cst (.int 0)) (.cons (.cst (.int 1)) (.cons (.cst (.int 0)) (.nil)))))) ai3
noncomputable def aiu : Stms := .cons (.asg (.sub (.var 4) (.tup (.cons (.cst (.int 0)) (.cons (.cst (.int 0)) (.nil))))) (.cst (.int 7))) (.nil)
noncomputable def s_law_1 : Stm := .for_ (.name 4) (.val (.var 2)) aiu
noncomputable def c_law_1 : Ex := .comp true 1 (.name 6) (.val (.var 1)) (.ix (.var 6) (.cst (.int 2)))
noncomputable def c_law_2 : Ex := .comp true 1 (.name 6) (.rng (.cst (.int 2))) (.make 2 (.cons (.ix (.ix (.var 1) (.var 6)) (.cst (.int 0))) (.cons (.ix (.ix (.var 1) (.var 6)) (.cst (.int 1))) (.cons (.ix (.var 2) (.var 6)) (.nil)))))
noncomputable def c_law_3 : Ex := .comp true 1 (.name 6) (.val (.var 1)) (.blt .dict (.cons (.ix (.var 6) (.cst (.int 2))) (.nil)))
noncomputable def c_law_4 : Ex := .comp true 1 (.name 6) (.rng (.cst (.int 2))) (.call 17 (.cons (.call 13 (.cons (.var 0) (.cons (.var 6) (.nil)))) (.nil)))
noncomputable def apy : Stms := .cons (.asg (.tg (.name 1)) (c_law_4)) (.cons (.asg (.tg (.name 2)) (c_law_3)) (.cons (.asg (.tg (.name 3)) (c_law_2)) (.cons (.iff (.cmp .ne (.var 2) (c_law_1)) (.cons (.ret (.cst (.bl false))) (.nil)) (.nil)) (.cons (s_law_1) (.cons (s_law_0) (.cons (.ret (.cst (.bl true))) (.nil)))))))
noncomputable def akj : Fn := ⟨1, 6, apy⟩
noncomputable def prog : Prog := ⟨[wj, yp, wu, vd, zj, uf, q9, yd, lg, aak, abb, aaj, qw, vq, zb, f__law_begun, aba, aae, acz, aa3, j6, ack, akj], [⟨0, []⟩, ⟨0, []⟩, ⟨0, [(0, 1), (1, 2), (2, 3), (3, 4), (4, 5)]⟩]⟩
open PySem L2
noncomputable def top (i : Nat) : Stmt := PySem.Challenge.pw_mapwright_k01_patterns_told.main.body.getD i (.Pass ⟨0, 0, 0, 0⟩)
noncomputable def sts : List Stmt := [inClass (top 7) 0, inClass (top 7) 1, inClass (top 7) 2, inClass (top 7) 3, inClass (top 7) 4, inClass (top 7) 5, top 8, top 9, top 10, top 11, top 12, top 13, top 15, top 16, top 17, top 18, top 19, top 20, top 21, top 22, top 23, top 24, top 25]
noncomputable def Ds : List Ck.Def := [⟨"__init__", "Pattern.__init__", ["self", "kinds", "doings", "table"], ["self", "kinds", "doings", "table"]⟩, ⟨"kinds", "Pattern.kinds", ["self"], ["self"]⟩, ⟨"doings", "Pattern.doings", ["self"], ["self"]⟩, ⟨"behind", "Pattern.behind", ["self", "one", "other"], ["self", "one", "other"]⟩, ⟨"ways", "Pattern.ways", ["self", "kind"], ["self", "kind"]⟩, ⟨"end", "Pattern.end", ["self", "kind", "way"], ["self", "kind", "way"]⟩, ⟨"both_ways", "both_ways", ["table", "one", "other"], ["table", "one", "other"]⟩, ⟨"meeting_pairs", "meeting_pairs", ["doings", "pairs", "one", "ends", "other", "more"], ["doings"]⟩, ⟨"is_way_between", "is_way_between", ["doings", "way", "start", "goal"], ["doings", "way", "start", "goal"]⟩, ⟨"check_doings", "check_doings", ["kinds", "doings", "ends"], ["kinds", "doings"]⟩, ⟨"check_table", "check_table", ["doings", "table", "pairs", "one", "other"], ["doings", "table"]⟩, ⟨"check_threes", "check_threes", ["doings", "table", "pairs", "one", "other", "last", "ahead", "after"], ["doings", "table"]⟩, ⟨"_law_cell_at", "_law_cell_at", ["script", "k"], ["script", "k"]⟩, ⟨"_law_state", "_law_state", ["script", "k", "cell"], ["script", "k"]⟩, ⟨"_law_take", "_law_take", ["state", "many", "found", "mixed"], ["state", "many"]⟩, ⟨"_law_begun", "_law_begun", ["state", "way", "graph", "loops", "swap", "known", "kinds", "sizes", "found", "k", "one", "other"], ["state"]⟩, ⟨"_law_closed", "_law_closed", ["begun", "found", "one", "other", "row", "k", "j", "first", "second", "more"], ["begun"]⟩, ⟨"_law_pattern", "_law_pattern", ["state", "begun", "closed", "kinds", "table", "j", "k", "more"], ["state"]⟩, ⟨"_law_ways", "_law_ways", ["pat", "kind"], ["pat", "kind"]⟩, ⟨"_law_end", "_law_end", ["pat", "kind", "way"], ["pat", "kind", "way"]⟩, ⟨"_law_behind", "_law_behind", ["pat", "one", "other"], ["pat", "one", "other"]⟩, ⟨"_law_told", "_law_told", ["pattern", "pat", "kind", "found", "way", "far", "more"], ["pattern", "pat"]⟩, ⟨"law", "law", ["script", "pats", "tables", "made", "table", "k"], ["script"]⟩]
noncomputable def tab : Ck.Tab := ⟨[none, none, none, none, none, none, some ("both_ways", 3), some ("meeting_pairs", 1), some ("is_way_between", 4), some ("check_doings", 2), some ("check_table", 2), some ("check_threes", 2), some ("_law_cell_at", 2), some ("_law_state", 2), some ("_law_take", 2), some ("_law_begun", 1), some ("_law_closed", 1), some ("_law_pattern", 1), some ("_law_ways", 2), some ("_law_end", 3), some ("_law_behind", 3), some ("_law_told", 2), some ("law", 1)], [none, none, some ("Pattern", 3)], [("kinds", 0), ("doings", 0), ("behind", 2), ("ways", 1), ("end", 2)], ["together", "doing_ends", "kind_count"], [("STAYING", -1), ("MOST_KINDS", 3), ("MOST_DOINGS", 5)]⟩
noncomputable def mcs : List (Nat × Nat) := [(2, 1), (2, 2), (2, 3), (2, 4), (2, 5)]
theorem chk : Ck.abr tab prog.fns Ds sts = true := by decide +kernel
theorem azr : Ck.ahx tab.fls = true := by decide +kernel
theorem a0e : Ck.tfB prog.fns tab.fns = true := by decide +kernel
theorem a0g : Ck.tcB prog tab.cls = true := by decide +kernel
theorem a0b : Ck.tmB prog tab mcs = true := by decide +kernel
end K01
namespace MW
theorem afb {fin : Store -> Bool} {item : Nat -> Store -> Option D} {body : D -> Env -> Store -> Res (Flow × Env)} (I : Nat -> Env -> Store -> Prop) {n : Nat}
 (step : ∀ i ρ M, i < n -> I i ρ M -> ∃ d fl ρ' M', item i M = some d /\ body d ρ M = .ok (fl, ρ') M' /\ (fl = .next \/ fl = .cont) /\ I (i + 1) ρ' M') (hfin : ∀ ρ M, I n ρ M -> fin M = true) :
 ∀ (k i : Nat) (ρ : Env) (M : Store), i + k = n -> I i ρ M -> ∃ ρ' M', iw fin item body k i ρ M = .ok (.next, ρ') M' /\ I n ρ' M'
 | 0, i, ρ, M, e, h => by
  have q : i = n := by omega
  rw [q] at h
  exact ⟨ρ, M, by simp [iw, hfin ρ M h], h⟩
 | k + 1, i, ρ, M, e, h => by
  obtain ⟨d, fl, ρ1, M1, h1, h2, h3, h4⟩ := step i ρ M (by omega) h
  obtain ⟨ρ2, M2, g1, g2⟩ := afb I step hfin k (i + 1) ρ1 M1 (by omega) h4
  refine ⟨ρ2, M2, ?_, g2⟩
  rcases h3 with rfl | rfl <;> simp [iw, h1, h2, g1]
theorem acg {body : D -> Env -> Store -> Res (Flow × Env)} {ds : List D} (I : Nat -> Env -> Store -> Prop) {ρ : Env} {M : Store} (h0 : I 0 ρ M)
 (step : ∀ i d ρ M, ds[i]? = some d -> I i ρ M -> ∃ fl ρ' M', body d ρ M = .ok (fl, ρ') M' /\ (fl = .next \/ fl = .cont) /\ I (i + 1) ρ' M') :
 ∃ ρ' M', iw (Src.con ds).fin (Src.con ds).item body (Src.con ds).len 0 ρ M = .ok (.next, ρ') M' /\ I ds.length ρ' M' := by
 refine afb I (fun i ρ M hi h => ?_) (fun _ _ _ => rfl) ds.length 0 ρ M (by omega) h0
 obtain ⟨fl, ρ', M', a, b, c⟩ := step i ds[i] ρ M (by simp [hi]) h
 exact ⟨ds[i], fl, ρ', M', by simp [Src.item, hi], a, b, c⟩
theorem aex {body : D -> Env -> Store -> Res (Flow × Env)} {n : Nat} (I : Nat -> Env -> Store -> Prop) {ρ : Env} {M : Store} (h0 : I 0 ρ M)
 (step : ∀ i ρ M, i < n -> I i ρ M -> ∃ fl ρ' M', body (.int i) ρ M = .ok (fl, ρ') M' /\ (fl = .next \/ fl = .cont) /\ I (i + 1) ρ' M') :
 ∃ ρ' M', iw (Src.con ((List.range n).map fun (k : Nat) => D.int (k : Int))).fin (Src.con ((List.range n).map fun (k : Nat) => D.int (k : Int))).item body (Src.con ((List.range n).map fun (k : Nat) => D.int (k : Int))).len 0 ρ M = .ok (.next, ρ') M' /\ I n ρ' M' := by
 have := acg (ds := (List.range n).map fun (k : Nat) => D.int (k : Int)) (body := body) I h0 (fun i d ρ M hd h => by
  have hi : i < n := by have := (List.getElem?_eq_some_iff.mp hd).1; simpa using this
  rw [List.getElem?_map, List.getElem?_range hi] at hd
  have hd : D.int (i : Int) = d := by simpa using hd
  subst hd
  exact step i ρ M hi h)
 simpa using this
theorem ao0 {body : D -> Env -> Store -> Res (Flow × Env)} {p : Nat} {ds : List D} (I : Nat -> Env -> Store -> Prop) {ρ : Env} {M : Store} (h0 : I 0 ρ M) (stay : ∀ i ρ M, I i ρ M -> M[p]? = some (.lst ds))
 (step : ∀ i d ρ M, ds[i]? = some d -> I i ρ M -> ∃ fl ρ' M', body d ρ M = .ok (fl, ρ') M' /\ (fl = .next \/ fl = .cont) /\ I (i + 1) ρ' M') :
 ∃ ρ' M', iw (Src.live p ds.length).fin (Src.live p ds.length).item body (Src.live p ds.length).len 0 ρ M = .ok (.next, ρ') M' /\ I ds.length ρ' M' := by
 refine afb I (fun i ρ M hi h => ?_) (fun ρ M h => by simp [Src.fin, stay _ ρ M h]) ds.length 0 ρ M (by omega) h0
 obtain ⟨fl, ρ', M', a, b, c⟩ := step i ds[i] ρ M (by simp [hi]) h
 exact ⟨ds[i], fl, ρ', M', by simp [Src.item, stay i ρ M h, hi], a, b, c⟩
theorem aa1 {fin : Store -> Bool} {item : Nat -> Store -> Option D} {body : D -> Store -> Res (Option D)} (I : Nat -> List D -> Store -> Prop) {n : Nat}
 (step : ∀ i xs M, i < n -> I i xs M -> ∃ d o M', item i M = some d /\ body d M = .ok o M' /\ I (i + 1) (xs ++ o.toList) M') (hfin : ∀ xs M, I n xs M -> fin M = true) :
 ∀ (k i : Nat) (xs : List D) (M : Store), i + k = n -> I i xs M -> ∃ ys M', jb fin item body k i M = .ok ys M' /\ I n (xs ++ ys) M'
 | 0, i, xs, M, e, h => by
  have q : i = n := by omega
  rw [q] at h
  exact ⟨[], M, by simp [jb, hfin xs M h], by simpa using h⟩
 | k + 1, i, xs, M, e, h => by
  obtain ⟨d, o, M1, h1, h2, h3⟩ := step i xs M (by omega) h
  obtain ⟨ys, M2, g1, g2⟩ := aa1 I step hfin k (i + 1) (xs ++ o.toList) M1 (by omega) h3
  refine ⟨o.toList ++ ys, M2, ?_, by rw [<- List.append_assoc]; exact g2⟩
  cases o <;> simp [jb, h1, h2, g1]
theorem aby {body : D -> Store -> Res (Option D)} {s : Src} {ds : List D} {g : D -> Option D} {M : Store} (hfin : s.fin M = true) (hl : s.len = ds.length) (hi : ∀ i, i < ds.length -> s.item i M = ds[i]?) (h : ∀ d ∈ ds, body d M = .ok (g d) M) :
 jb s.fin s.item body s.len 0 M = .ok (ds.filterMap g) M := by
 obtain ⟨ys, M', e, h1, h2⟩ := aa1 (fin := s.fin) (item := s.item) (body := body) (fun i xs M' => M' = M /\ xs = (ds.take i).filterMap g) (n := ds.length) (fun i xs M' hlt hI => by
  obtain ⟨rfl, rfl⟩ := hI
  refine ⟨ds[i], g ds[i], M', by rw [hi i hlt]; simp [hlt], h _ (List.getElem_mem hlt), rfl, ?_⟩
  rw [List.take_succ, List.filterMap_append]
  simp [hlt]
  cases e : g ds[i] <;> simp [e]) (fun xs M' h => by rw [h.1]; exact hfin) ds.length 0 [] M (by omega) ⟨rfl, rfl⟩
 rw [hl, e, h1]
 simp at h2
 rw [h2]
theorem ao3 {body : D -> Store -> Res (Option D)} {ds : List D} {g : D -> D} {M : Store} (h : ∀ d ∈ ds, body d M = .ok (some (g d)) M) :
 jb (Src.con ds).fin (Src.con ds).item body (Src.con ds).len 0 M = .ok (ds.map g) M := by
 rw [aby (s := .con ds) (ds := ds) (g := fun d => some (g d)) rfl rfl (fun i _ => rfl) h, List.filterMap_eq_map']
end MW
namespace MW
theorem abk {c : Env -> Store -> Res D} {body : Env -> Store -> Res (Flow × Env)} (I : Nat -> Env -> Store -> Prop) (Post : Env -> Store -> Prop)
 (step : ∀ m ρ M, I m ρ M -> (∃ M1, c ρ M = .ok (.bl false) M1 /\ Post ρ M1) \/
  ∃ M1 fl ρ' M2 m', c ρ M = .ok (.bl true) M1 /\ body ρ M1 = .ok (fl, ρ') M2 /\ (fl = .next \/ fl = .cont) /\ m' < m /\ I m' ρ' M2) :
 ∀ (k m : Nat) (ρ : Env) (M : Store), m < k -> I m ρ M -> ∃ ρ' M', jo c body k ρ M = .ok (.next, ρ') M' /\ Post ρ' M'
 | 0, m, _, _, h, _ => absurd h (Nat.not_lt_zero _)
 | k + 1, m, ρ, M, h, hI => by
  rcases step m ρ M hI with ⟨M1, h1, h2⟩ | ⟨M1, fl, ρ1, M2, m', h1, h2, h3, h4, h5⟩
  . exact ⟨ρ, M1, by simp [jo, h1], h2⟩
  . obtain ⟨ρ3, M3, g1, g2⟩ := abk I Post step k m' ρ1 M2 (by omega) h5
    refine ⟨ρ3, M3, ?_, g2⟩
    rcases h3 with rfl | rfl <;> simp [jo, h1, h2, g1]
end MW
namespace MW
noncomputable def Keep (M M' : Store) : Prop := ∀ (a : Nat) (o : MO), M[a]? = some o -> M'[a]? = some o
theorem Keep.refl (M : Store) : Keep M M := fun _ _ h => h
theorem Keep.trans {M M1 M2 : Store} (a : Keep M M1) (b : Keep M1 M2) : Keep M M2 := fun x o h => b x o (a x o h)
theorem Keep.app (M X : Store) : Keep M (M ++ X) := fun _ _ h => dj h
theorem Keep.len {M M' : Store} (k : Keep M M') : M.length <= M'.length := by
 rcases Nat.eq_zero_or_pos M.length with h | h
 . omega
 . have := fj (k (M.length - 1) M[M.length - 1] (by simp))
   omega
theorem Keep.asList {M M' : Store} (k : Keep M M') {d : D} {ds : List D} (h : asList M d = some ds) : MW.asList M' d = some ds := by
 cases d with
 | vl xs => exact h
 | ref n =>
  simp only [MW.asList] at h ⊢
  cases e : M[n]? with
  | none => rw [e] at h; simp at h
  | some o => rw [e] at h; rw [k n o e]; exact h
 | _ => simp [MW.asList] at h
theorem adk {body : D -> Env -> Store -> Res (Flow × Env)} {d : D} {ds : List D} (I : Nat -> Env -> Store -> Prop) {ρ : Env} {M : Store} (hd : asList M d = some ds) (h0 : I 0 ρ M)
 (stay : ∀ i ρ M, I i ρ M -> asList M d = some ds)
 (step : ∀ i x ρ M, ds[i]? = some x -> I i ρ M -> ∃ fl ρ' M', body x ρ M = .ok (fl, ρ') M' /\ (fl = .next \/ fl = .cont) /\ I (i + 1) ρ' M') :
 ∃ s, srcOf M d = some s /\ ∃ ρ' M', iw s.fin s.item body s.len 0 ρ M = .ok (.next, ρ') M' /\ I ds.length ρ' M' := by
 cases d with
 | vl xs => simp [asList] at hd; subst hd; exact ⟨_, rfl, acg I h0 step⟩
 | ref n =>
  cases e : M[n]? with
  | none => simp [asList, e] at hd
  | some o =>
   cases o with
   | lst xs =>
    simp [asList, e] at hd
    subst hd
    refine ⟨.live n xs.length, by simp [srcOf, e], ao0 I h0 (fun i ρ M h => ?_) step⟩
    have := stay i ρ M h
    simp only [asList] at this
    split at this <;> simp_all
   | _ => simp [asList, e] at hd
 | _ => simp [asList] at hd
theorem ai5 {body : D -> Store -> Res (Option D)} {ds : List D} {g : D -> D} {M : Store} (hl : ds.length <= 100000) (h : ∀ d ∈ ds, body d M = .ok (some (g d)) M) : di (.con ds) body M = .ok (ds.map g) M := by
 rw [di, if_pos (show (Src.con ds).len <= 100000 from hl)]; exact ao3 h
theorem ade {body : D -> Store -> Res (Option D)} {ds : List D} {g : D -> Option D} {M : Store} (hl : ds.length <= 100000) (h : ∀ d ∈ ds, body d M = .ok (g d) M) : di (.con ds) body M = .ok (ds.filterMap g) M := by
 rw [di, if_pos (show (Src.con ds).len <= 100000 from hl)]; exact aby (s := .con ds) rfl rfl (fun _ _ => rfl) h
theorem aii {body : D -> Store -> Res (Option D)} {d : D} {ds : List D} {g : D -> Option D} {M : Store} (hd : asList M d = some ds) (hl : ds.length <= 100000) (h : ∀ x ∈ ds, body x M = .ok (g x) M) :
 ∃ s, srcOf M d = some s /\ di s body M = .ok (ds.filterMap g) M := by
 cases d with
 | vl xs => simp [asList] at hd; subst hd; exact ⟨_, rfl, ade hl h⟩
 | ref n =>
  cases e : M[n]? with
  | none => simp [asList, e] at hd
  | some o =>
   cases o with
   | lst xs =>
    simp [asList, e] at hd
    subst hd
    exact ⟨.live n xs.length, by simp [srcOf, e], by rw [di, if_pos (show (Src.live n xs.length).len <= 100000 from hl)]; exact aby (s := .live n xs.length) (by simp [Src.fin, e]) rfl (fun i _ => by simp [Src.item, e]) h⟩
   | _ => simp [asList, e] at hd
 | _ => simp [asList] at hd
end MW
namespace K01
open MW
structure F where
 a : Nat
 b : Nat
 r : List Nat
 deriving DecidableEq
noncomputable def nD (x : Nat) : D := .int (x : Int)
noncomputable def ie (r : List Nat) : D := .tup (r.map nD)
noncomputable def F.toD (f : F) : D := .tup [.int f.a, .int f.b, ie f.r]
theorem ajm (x y : Nat) : decide ((x : Int) = (y : Int)) = decide (x = y) := by
 by_cases h : x = y
 . simp [h]
 . have : ¬ ((x : Int) = (y : Int)) := by omega
   simp [h, this]
theorem qe (M : Store) (n x y : Nat) : eqD M (n + 1) (.int x) (.int y) = some (decide (x = y)) := by rw [ae0, ajm]
theorem afa (M : Store) (n : Nat) : ∀ r s : List Nat, eqL (eqD M (n + 1)) (r.map nD) (s.map nD) = some (decide (r = s))
 | [], [] => by simp [eqL]
 | [], _ :: _ => by simp [eqL]
 | _ :: _, [] => by simp [eqL]
 | x :: r, y :: s => by
  rw [List.map_cons, List.map_cons, iy (a := nD x) (b := nD y) (qe M n x y) (afa M n r s)]
  by_cases h : x = y <;> simp [h]
theorem ahf (M : Store) (r s : List Nat) : dw M (ie r) (ie s) = some (decide (r = s)) := afa M 4 r s
theorem aze (M : Store) (f g : F) : dw M f.toD g.toD = some (decide (f = g)) := by
 obtain ⟨a, b, r⟩ := f
 obtain ⟨c, d, s⟩ := g
 have e : eqD M 5 (ie r) (ie s) = some (decide (r = s)) := afa M 3 r s
 show eqL (eqD M 5) [.int a, .int b, ie r] [.int c, .int d, ie s] = _
 rw [iy (qe M 4 a c) (iy (qe M 4 b d) (iy e (show eqL (eqD M 5) [] [] = some true from rfl)))]
 simp
theorem aj7 (M : Store) (g : F) : ∀ fs : List F, xf M g.toD (fs.map F.toD) = some (fs.map fun f => decide (f = g))
 | [] => rfl
 | f :: fs => by simp only [List.map_cons, xf, aze, aj7 M g fs]
theorem ajs (M : Store) (g : F) (fs : List F) : memD M g.toD (fs.map F.toD) = some (decide (g ∈ fs)) := by
 rw [memD, aj7, Option.map_some]
 congr 1
 induction fs with
 | nil => simp
 | cons f fs ih =>
  by_cases h : f = g
  . simp [h]
  . simp only [List.map_cons, List.any_cons, ih, List.mem_cons, id]
    simp [h, Ne.symm h]
noncomputable def pos (g : F) : List F -> Nat
 | [] => 0
 | f :: fs => if f = g then 0 else pos g fs + 1
theorem axm (M : Store) (g : F) (fs : List F) : ae3 M g.toD (fs.map F.toD) = if g ∈ fs then some (pos g fs) else none := by
 rw [ae3, aj7, Option.bind_some]
 induction fs with
 | nil => simp
 | cons f fs ih =>
  rw [List.map_cons, List.findIdx?_cons, ih, pos]
  by_cases h : f = g
  . simp [h]
  . by_cases h2 : g ∈ fs <;> simp [h, Ne.symm h, h2]
theorem ae8 (g : F) : ∀ {fs : List F}, g ∈ fs -> fs[pos g fs]? = some g
 | f :: fs, h => by
  by_cases e : f = g
  . simp [pos, e]
  . have : g ∈ fs := by
     rcases List.mem_cons.mp h with q | q
     . exact absurd q.symm e
     . exact q
    simp [pos, e, ae8 g this]
theorem ahw {fs : List F} (nd : fs.Nodup) {i : Nat} {f : F} (h : fs[i]? = some f) : pos f fs = i := by
 have m : f ∈ fs := List.mem_of_getElem? h
 have g := ae8 f m
 obtain ⟨l1, e1⟩ := List.getElem?_eq_some_iff.mp h
 obtain ⟨l2, e2⟩ := List.getElem?_eq_some_iff.mp g
 exact (List.getElem_inj nd).mp (e2.trans e1.symm)
noncomputable def F.comp (f g : F) : F := ⟨f.a, g.b, f.r.map fun x => g.r.getD x 0⟩
noncomputable def F.isId (f : F) : Prop := f.a = f.b /\ f.r = List.range f.r.length
instance (f : F) : Decidable f.isId := inferInstanceAs (Decidable (_ /\ _))
structure Ok1 (sz : Nat -> Nat) (f : F) : Prop where
 a : f.a < 3
 b : f.b < 3
 len : f.r.length = sz f.a
 ran : ∀ x ∈ f.r, x < sz f.b
noncomputable def Sz (sz : Nat -> Nat) : Prop := ∀ k, 1 <= sz k /\ sz k <= 4
noncomputable def Good (sz : Nat -> Nat) (fs : List F) : Prop := ∀ f ∈ fs, Ok1 sz f
theorem getD_mem {r : List Nat} {x : Nat} (h : x < r.length) : r.getD x 0 ∈ r := by
 rw [List.getD_eq_getElem?_getD, List.getElem?_eq_getElem h]; exact List.getElem_mem h
theorem Ok1.comp {sz : Nat -> Nat} {f g : F} (hf : Ok1 sz f) (hg : Ok1 sz g) (h : f.b = g.a) : Ok1 sz (f.comp g) := by
 refine ⟨hf.a, hg.b, by simp [F.comp, hf.len], fun x hx => ?_⟩
 obtain ⟨y, hy, rfl⟩ := List.mem_map.mp hx
 have : y < g.r.length := by rw [hg.len, <- h]; exact hf.ran y hy
 exact hg.ran _ (getD_mem this)
theorem aif (r : List Nat) : (List.range r.length).map (fun x => r.getD x 0) = r := by
 apply List.ext_getElem?
 intro i
 by_cases h : i < r.length
 . simp [h, List.getElem?_range h]
 . simp [Nat.le_of_not_lt h, List.getElem?_eq_none]
theorem akl {sz : Nat -> Nat} {f g h : F} (hf : Ok1 sz f) (hg : Ok1 sz g) (e1 : f.b = g.a) : (f.comp g).comp h = f.comp (g.comp h) := by
 simp only [F.comp, List.map_map, F.mk.injEq, true_and]
 apply List.map_congr_left
 intro x hx
 have : x < g.r.length := by rw [hg.len, <- e1]; exact hf.ran x hx
 simp [this]
noncomputable def idF (sz : Nat -> Nat) (k : Nat) : F := ⟨k, k, List.range (sz k)⟩
theorem ael {sz : Nat -> Nat} {f : F} (hf : Ok1 sz f) (h : f.isId) : f = idF sz f.a := by
 obtain ⟨a, b, r⟩ := f
 obtain ⟨h1, h2⟩ := h
 have := hf.len
 simp only [idF] at *
 subst h1
 rw [<- this, <- h2]
theorem atc {sz : Nat -> Nat} {f : F} (hf : Ok1 sz f) : (idF sz f.a).comp f = f := by
 obtain ⟨a, b, r⟩ := f
 have := hf.len
 simp only [idF, F.comp] at *
 rw [<- this, aif]
theorem ai6 {sz : Nat -> Nat} {f : F} (hf : Ok1 sz f) : f.comp (idF sz f.b) = f := by
 obtain ⟨a, b, r⟩ := f
 have := hf.ran
 simp only [idF, F.comp, F.mk.injEq, true_and] at *
 conv => rhs; rw [<- List.map_id r]
 apply List.map_congr_left
 intro x hx
 simp [List.getElem?_range (this x hx)]
noncomputable def rz (fs : List F) : Prop := ∀ f ∈ fs, ∀ g ∈ fs, f.b = g.a -> f.comp g ∈ fs \/ (f.comp g).isId
theorem call_of {m f : Nat} {Fx : Fn} {ds : List D} {M : Store} (hm : 1 <= m) (hf : prog.fns[f]? = some Fx) : prog.call m f ds M = Fx.run ⟨prog.call (m - 1), prog.cls⟩ ds M := by
 obtain ⟨n, rfl⟩ : ∃ n, m = n + 1 := ⟨m - 1, by omega⟩
 simp [Prog.call, hf]
noncomputable def anc (n : Int) (f : Bool) : Prop := 0 <= n /\ (f = false -> n < 2147483647)
noncomputable def Has (t : Nat) (f : Bool) (M : Store) : Prop := ∃ n, M[t]? = some (.lst [.int n, .bl f]) /\ anc n f
structure St (t : Nat) (f : Bool) (M M' : Store) : Prop where
 len : M.length <= M'.length
 has : Has t f M'
 keep : ∀ (a : Nat) (o : MO), a ≠ t -> M[a]? = some o -> M'[a]? = some o
theorem St.trans {t : Nat} {f : Bool} {M M1 M2 : Store} (a : St t f M M1) (b : St t f M1 M2) : St t f M M2 :=
 ⟨Nat.le_trans a.len b.len, b.has, fun x o n h => b.keep x o n (a.keep x o n h)⟩
theorem St.of {t : Nat} {f : Bool} {M M' : Store} (h : Has t f M) (k : Keep M M') : St t f M M' :=
 ⟨k.len, let ⟨n, a, b⟩ := h; ⟨n, k _ _ a, b⟩, fun a o _ e => k a o e⟩
theorem my {m t : Nat} {many : Int} {f : Bool} {M : Store} (hm : 1 <= m) (hs : Has t f M) (hp : 0 < many) (hq : many < 1073741824) :
 ∃ (v : Nat) (M' : Store), prog.call m 14 [.ref t, .int many] M = .ok (.int v) M' /\ (v : Int) < many /\ St t f M M' /\ M'.length = M.length := by
 obtain ⟨n, h, hn⟩ := hs
 rw [call_of hm rfl]
 have hl := dz h
 have g0 := m6 hl (i := 0) (by decide) rfl
 have g1 := m6 hl (i := 1) (by decide) rfl
 have fin : ∀ n' : Int, anc n' f -> St t f M (M.set t (.lst [.int n', .bl f])) := fun n' o => ⟨by simp, ⟨n', gw h, o⟩, fun a u e q => by rw [ik (Ne.symm e)]; exact q⟩
 have hm0 : many ≠ 0 := by omega
 have c1 : ∀ y : Int, ∃ v : Nat, y % many = (v : Int) /\ (v : Int) < many := fun y => by
  have a := Int.emod_nonneg y hm0
  have b := Int.emod_lt_of_pos y hp
  exact ⟨(y % many).toNat, by omega, by omega⟩
 cases f with
 | true =>
  obtain ⟨v, e, l⟩ := c1 n
  refine ⟨v, _, ?_, l, fin (n / many) ⟨Int.ediv_nonneg hn.1 (by omega), by simp⟩, by simp⟩
  simp [Fn.run, zb, zc, g0, g1, hp, af3 _ _ hp hq, ajp h, e]
 | false =>
  have h1 := hn.1
  have h2 := hn.2 rfl
  obtain ⟨n', en⟩ : ∃ n', (n * 48271 + 29) % 2147483647 = n' := ⟨_, rfl⟩
  have e1 : 0 <= n' := en ▸ Int.emod_nonneg _ (by decide)
  have e2 : n' < 2147483647 := en ▸ Int.emod_lt_of_pos _ (by decide)
  obtain ⟨x, ex⟩ : ∃ x, (n' * n' + 39373 * n' + 7) % 2147483629 = x := ⟨_, rfl⟩
  have x1 : 0 <= x := ex ▸ Int.emod_nonneg _ (by decide)
  have x2 : x < 2147483629 := ex ▸ Int.emod_lt_of_pos _ (by decide)
  obtain ⟨y, ey⟩ : ∃ y, (x * x + 16807 * x) % 2147483587 = y := ⟨_, rfl⟩
  obtain ⟨v, e, l⟩ := c1 (y / 8)
  refine ⟨v, _, ?_, l, fin n' ⟨e1, fun _ => e2⟩, by simp⟩
  have k := gw (o := .lst [.int n', .bl false]) h
  have k0 := m6 (dz k) (i := 0) (by decide) rfl
  simp [Fn.run, zb, zc, g0, g1, hp, ajp h, vf n 48271 (.inr (by decide)), en, k0, vf n' n' (.inl (by omega)), vf 39373 n' (.inl (by decide)), ex, vf x x (.inl (by omega)), vf 16807 x (.inl (by decide)), ey, af3 _ 8 (by decide) (by decide), e]
theorem ajb {m k : Nat} {ns : List Int} {M : Store} (hm : 1 <= m) : prog.call m 12 [.fz (ns.map D.int), .int k] M = .ok (.int (ns.getD k 0)) M := by
 rw [call_of hm rfl]
 by_cases hk : k < ns.length
 . simp [Fn.run, qw, qi, ak8, hk, ayf (ds := ns.map D.int) (i := k) (x := .int (ns.getD k 0)) (by omega) (by simp [hk])]
 . simp [Fn.run, qw, qi, ak8, hk]
theorem agl {m k : Nat} {ns : List Int} {M : Store} (hm : 2 <= m) : ∃ n f, prog.call m 13 [.fz (ns.map D.int), .int k] M = .ok (.ref M.length) (M ++ [.lst [.int n, .bl f]]) /\ anc n f := by
 rw [call_of (by omega) rfl]
 by_cases h : (10 : Int) ^ 18 <= ns.getD k 0
 . refine ⟨ns.getD k 0 - 10 ^ 18, true, ?_, by omega, by simp⟩
   have h' : (1000000000000000000 : Int) <= ns[k]?.getD 0 := by simpa using h
   simp [Fn.run, vq, xm, ajb (show 1 <= m - 1 by omega), h', MW.new]
 . refine ⟨ns.getD k 0 % 2147483647, false, ?_, Int.emod_nonneg _ (by decide), fun _ => Int.emod_lt_of_pos _ (by decide)⟩
   have h' : ¬ (1000000000000000000 : Int) <= ns[k]?.getD 0 := by simpa using h
   simp [Fn.run, vq, xm, ajb (show 1 <= m - 1 by omega), h', MW.new]
theorem ajq (n : Nat) (i : Nat) (M : Store) (h : i < n) : (Src.con ((List.range n).map fun (k : Nat) => D.int (k : Int))).item i M = some (.int i) := by
 simp [Src.item, List.getElem?_range h]
theorem aji (n : Nat) : (Src.con ((List.range n).map fun (k : Nat) => D.int (k : Int))).len = n := by simp [Src.len]
section
variable {m t : Nat} {f : Bool} {M : Store}
theorem apj {a1 a2 a3 a4 a5 a7 a8 a9 a10 a11 : Option D} {K : Nat} (hm : 1 <= m) (hs : Has t f M) (hK : K <= 3) :
 ∃ (szs : List Nat) (M' : Store), c__law_begun_2.den ⟨prog.call m, prog.cls⟩ [some (.ref t), a1, a2, a3, a4, a5, some (.int K), a7, a8, a9, a10, a11] M = .ok (.vl (szs.map nD)) M' /\ szs.length = K /\ (∀ x ∈ szs, 1 <= x /\ x <= 3) /\ St t f M M' /\ M'.length = M.length := by
 unfold c__law_begun_2
 rw [wy]
 have hK' : K <= 100000 := by omega
 simp [hK']
 have h := aa1 (fin := fun _ => true) (item := (Src.con ((List.range K).map fun (k : Nat) => D.int (k : Int))).item)
  (body := fun d M => ((prog.call m 14 [D.ref t, D.int 3] M).bind fun y M2 => iz .add (.int 1) y M2).bind fun x M' => Res.ok (some x) M')
  (fun i xs M' => ∃ szs : List Nat, xs = szs.map nD /\ szs.length = i /\ (∀ x ∈ szs, 1 <= x /\ x <= 3) /\ St t f M M' /\ M'.length = M.length) (n := K)
  (fun i xs M' hi hI => by
   obtain ⟨szs, rfl, rfl, h1, h2, h3⟩ := hI
   obtain ⟨v, M2, e, l, s2, l2⟩ := my hm h2.has (many := 3) (by decide) (by decide)
   refine ⟨.int szs.length, some (.int (1 + v)), M2, ajq K _ M' hi, by simp [e], szs ++ [1 + v], by simp [nD], by simp, fun x hx => ?_, h2.trans s2, by omega⟩
   rcases List.mem_append.mp hx with q | q
   . exact h1 x q
   . have : x = 1 + v := by simpa using q
     omega) (fun _ _ _ => rfl) K 0 [] M (by omega) ⟨[], rfl, rfl, by simp, St.of hs (Keep.refl M), rfl⟩
 obtain ⟨ys, M', e, szs, h1, h2, h3, h4, h5⟩ := h
 refine ⟨szs, M', ?_, h2, h3, h4, h5⟩
 rw [di, aji, if_pos (by omega), show (Src.con ((List.range _).map fun (k : Nat) => D.int (k : Int))).fin = fun _ => true from rfl, e]
 simp at h1
 simp [h1]
theorem awv {a1 a2 a3 a4 a5 a6 a8 a9 : Option D} {szs : List Nat} {i j : Nat} (hm : 1 <= m) (hs : Has t f M) (h3 : ∀ x ∈ szs, 1 <= x /\ x <= 3) (hi : i < szs.length) (hj : j < szs.length) :
 ∃ (r : List Nat) (M' : Store), c__law_begun_1.den ⟨prog.call m, prog.cls⟩ [some (.ref t), a1, a2, a3, a4, a5, a6, some (.vl (szs.map nD)), a8, a9, some (.int i), some (.int j)] M = .ok (.vl (r.map nD)) M' /\
  r.length = szs.getD i 0 /\ (∀ x ∈ r, x < szs.getD j 0) /\ St t f M M' /\ M'.length = M.length := by
 unfold c__law_begun_1
 rw [wy]
 have gi := m6 (M := M) (d := .vl (szs.map nD)) (i := i) (x := .int ((szs.getD i 0 : Nat) : Int)) rfl (by omega) (by simp [hi, nD])
 have gj : ∀ M', dg (.vl (szs.map nD)) (.int j) M' = some (.int ((szs.getD j 0 : Nat) : Int)) := fun M' => m6 rfl (by omega) (by simp [hj, nD])
 have bi := h3 _ (getD_mem hi)
 have bj := h3 _ (getD_mem hj)
 generalize ea : szs.getD i 0 = a at *
 generalize eb : szs.getD j 0 = b at *
 have ha : a <= 100000 := by omega
 simp [gi, gj, ha]
 have h := aa1 (fin := fun _ => true) (item := (Src.con ((List.range a).map fun (k : Nat) => D.int (k : Int))).item)
  (body := fun d M => (prog.call m 14 [D.ref t, D.int b] M).bind fun x M' => Res.ok (some x) M')
  (fun i xs M' => ∃ r : List Nat, xs = r.map nD /\ r.length = i /\ (∀ x ∈ r, x < b) /\ St t f M M' /\ M'.length = M.length) (n := a)
  (fun i xs M' hi hI => by
   obtain ⟨r, rfl, rfl, h1, h2, h3⟩ := hI
   obtain ⟨v, M2, e, l, s2, l2⟩ := my hm h2.has (many := b) (by omega) (by omega)
   refine ⟨.int r.length, some (.int v), M2, ajq a _ M' hi, by simp [e], r ++ [v], by simp [nD], by simp, fun x hx => ?_, h2.trans s2, by omega⟩
   rcases List.mem_append.mp hx with q | q
   . exact h1 x q
   . have : x = v := by simpa using q
     omega) (fun _ _ _ => rfl) a 0 [] M (by omega) ⟨[], rfl, rfl, by simp, St.of hs (Keep.refl M), rfl⟩
 obtain ⟨ys, M', e, r, h1, h2, h3, h4, h5⟩ := h
 refine ⟨r, M', ?_, h2, h3, h4, h5⟩
 rw [di, aji, if_pos (by omega), show (Src.con ((List.range _).map fun (k : Nat) => D.int (k : Int))).fin = fun _ => true from rfl, e]
 simp at h1
 simp [h1]
end
section
variable {m t : Nat} {f : Bool} {M : Store}
theorem ahk {v K p : Nat} {szs : List Nat} {a9 a10 a11 : Option D} (hm : 1 <= m) (hs : Has t f M) (hK : szs.length = K) (hK1 : 1 <= K) (hK3 : K <= 3) (h3 : ∀ x ∈ szs, 1 <= x /\ x <= 3) (hp : M[p]? = some (.lst [])) (hpt : p ≠ t) :
 ∃ (fs : List F) (ρ' : Env) (M' : Store), s__law_begun_0.den ⟨prog.call m, prog.cls⟩ [some (.ref t), some (.int v), none, none, none, none, some (.int K), some (.vl (szs.map nD)), some (.ref p), a9, a10, a11] M = .ok (.next, ρ') M' /\
  ρ'[8]? = some (some (.ref p)) /\ M'[p]? = some (.lst (fs.map F.toD)) /\ fs.length <= 3 /\ Good (fun k => szs.getD k 1) fs /\ M.length <= M'.length /\ Has t f M' /\ (∀ (a : Nat) (o : MO), a ≠ t -> a ≠ p -> M[a]? = some o -> M'[a]? = some o) := by
 obtain ⟨w, M1, e1, l1, s1, ll1⟩ := my hm hs (many := 4) (by decide) (by decide)
 unfold s__law_begun_0
 rw [aaa]
 have hw : w <= 100000 := by omega
 simp [e1, hw]
 obtain ⟨ρ', M', e, fs, b9, b10, b11, rfl, h1, h2, h4, h5, h6, h7⟩ := aex (n := w) (body := fun d ρ M => t__law_begun_0.den ⟨prog.call m, prog.cls⟩ (ρ.set 9 (some d)) M)
  (fun i ρ M' => ∃ (fs : List F) (b9 b10 b11 : Option D), ρ = [some (.ref t), some (.int v), none, none, none, none, some (.int K), some (.vl (szs.map nD)), some (.ref p), b9, b10, b11] /\
   M'[p]? = some (.lst (fs.map F.toD)) /\ fs.length = i /\ Good (fun k => szs.getD k 1) fs /\ M.length <= M'.length /\ Has t f M' /\ (∀ (a : Nat) (o : MO), a ≠ t -> a ≠ p -> M[a]? = some o -> M'[a]? = some o))
  (M := M1) ⟨[], a9, a10, a11, rfl, by simpa using s1.keep p _ hpt hp, rfl, by intro f hf; simp at hf, s1.len, s1.has, fun a o na _ h => s1.keep a o na h⟩
  (fun i ρ M2 hi hI => by
   obtain ⟨fs, b9, b10, b11, rfl, g1, g2, g3, g4, g5, g6⟩ := hI
   obtain ⟨x, M3, ex, lx, sx, llx⟩ := my hm g5 (many := K) (by omega) (by omega)
   obtain ⟨y, M4, ey, ly, sy, lly⟩ := my hm sx.has (many := K) (by omega) (by omega)
   obtain ⟨r, M5, er, lr, rr, sr, llr⟩ := awv (a1 := some (.int v)) (a2 := none) (a3 := none) (a4 := none) (a5 := none) (a6 := some (.int K)) (a8 := some (.ref p)) (a9 := some (.int i)) (i := x) (j := y) hm sy.has h3 (by omega) (by omega)
   have gp := sr.keep p _ hpt (sy.keep p _ hpt (sx.keep p _ hpt g1))
   have hl : (fs.map F.toD).length < 100000 := by rw [List.length_map]; omega
   refine ⟨.next, _, M5.set p (.lst (fs.map F.toD ++ [F.toD ⟨x, y, r⟩])), ?_, .inl rfl, fs ++ [⟨x, y, r⟩], some (.int i), some (.int x), some (.int y), rfl, ?_, by simp [g2], ?_, ?_, ?_, ?_⟩
   . simp [t__law_begun_0, ex, ey, er, aad gp hl, xj (sy.keep p _ hpt (sx.keep p _ hpt g1)), bx, F.toD, ie]
   . rw [gw gp]; simp
   . intro f hf
     rcases List.mem_append.mp hf with q | q
     . exact g3 f q
     . have : f = ⟨x, y, r⟩ := by simpa using q
       subst this
       refine ⟨by show x < 3; omega, by show y < 3; omega, ?_, ?_⟩
       . show r.length = szs.getD x 1
         rw [lr]; simp [List.getD_eq_getElem?_getD, List.getElem?_eq_getElem (show x < szs.length by omega)]
       . intro z hz
         have := rr z hz
         show z < szs.getD y 1
         simp [List.getD_eq_getElem?_getD, List.getElem?_eq_getElem (show y < szs.length by omega)] at this ⊢
         exact this
   . have := sr.len; have := sy.len; have := sx.len; simp; omega
   . obtain ⟨n', q1, q2⟩ := sr.has
     exact ⟨n', by rw [ik hpt]; exact q1, q2⟩
   . intro a o na nb h
     rw [ik (Ne.symm nb)]
     exact sr.keep a o na (sy.keep a o na (sx.keep a o na (g6 a o na nb h))))
 have e' : iw (Src.con ((List.range w).map fun (k : Nat) => D.int (k : Int))).fin (Src.con ((List.range w).map fun (k : Nat) => D.int (k : Int))).item (fun d ρ M => t__law_begun_0.den ⟨prog.call m, prog.cls⟩ (ρ.set 9 (some d)) M) (Src.con ((List.range w).map fun (k : Nat) => D.int (k : Int))).len 0 [some (.ref t), some (.int v), none, none, none, none, some (.int K), some (.vl (szs.map nD)), some (.ref p), a9, a10, a11] M1 = _ := e
 exact ⟨fs, [some (.ref t), some (.int v), none, none, none, none, some (.int K), some (.vl (szs.map nD)), some (.ref p), b9, b10, b11], M', e', rfl, h1, by omega, h4, h5, h6, h7⟩
end
section
variable {m t : Nat} {f : Bool} {M : Store}
theorem anq (hm : 2 <= m) (hs : Has t f M) : ∃ (d : D) (M' : Store) (fs : List F) (sz : Nat -> Nat), prog.call m 15 [.ref t] M = .ok d M' /\ asList M' d = some (fs.map F.toD) /\ (∀ n, d = .ref n -> n ≠ t) /\ Sz sz /\ Good sz fs /\ fs.length <= 3 /\ St t f M M' := by
 have hm1 : 1 <= m - 1 := by omega
 obtain ⟨v, M1, e1, l1, s1, ll1⟩ := my hm1 hs (many := 12) (by decide) (by decide)
 rw [call_of (by omega) rfl]
 by_cases hv : v < 7
 . have hv' : (v : Int) < 7 := by omega
   have key : ∀ (fs : List F) (sz : Nat -> Nat), f__law_begun.run ⟨prog.call (m - 1), prog.cls⟩ [.ref t] M = .ok (.vl (fs.map F.toD)) M1 -> Sz sz -> Good sz fs -> fs.length <= 3 ->
    ∃ (d : D) (M' : Store) (fs : List F) (sz : Nat -> Nat), f__law_begun.run ⟨prog.call (m - 1), prog.cls⟩ [.ref t] M = .ok d M' /\ asList M' d = some (fs.map F.toD) /\ (∀ n, d = .ref n -> n ≠ t) /\ Sz sz /\ Good sz fs /\ fs.length <= 3 /\ St t f M M' :=
    fun fs sz a b c d => ⟨_, M1, fs, sz, a, rfl, fun n h => (by cases h), b, c, d, s1⟩
   have run : ∀ d, dg (.vl [.vl [.tup [.int 0, .int 1, .tup [.int 0, .int 1]], .tup [.int 0, .int 1, .tup [.int 1, .int 0]]], .vl [.tup [.int 0, .int 1, .tup [.int 0, .int 0, .int 1, .int 1]], .tup [.int 0, .int 1, .tup [.int 0, .int 1, .int 0, .int 1]], .tup [.int 1, .int 0, .tup [.int 0, .int 3]]],
    .vl [.tup [.int 0, .int 0, .tup [.int 1, .int 0]]], .vl [.tup [.int 0, .int 0, .tup [.int 1, .int 2, .int 0]]], .vl [.tup [.int 0, .int 0, .tup [.int 0, .int 0]]], .vl [], .vl [.tup [.int 0, .int 1, .tup [.int 0, .int 1]], .tup [.int 1, .int 2, .tup [.int 0, .int 0, .int 1]]]]) (.int v) M1 = some d ->
    f__law_begun.run ⟨prog.call (m - 1), prog.cls⟩ [.ref t] M = .ok d M1 := fun d hd => by simp [Fn.run, f__law_begun, v5, e1, hv', hd]
   have cs : v = 0 \/ v = 1 \/ v = 2 \/ v = 3 \/ v = 4 \/ v = 5 \/ v = 6 := by omega
   rcases cs with rfl | rfl | rfl | rfl | rfl | rfl | rfl
   . refine key [⟨0, 1, [0, 1]⟩, ⟨0, 1, [1, 0]⟩] (fun _ => 2) ?_ (fun k => by simp) (fun f hf => ?_) (by decide)
     . exact run _ rfl
     . simp at hf; rcases hf with rfl | rfl <;> exact ⟨by decide, by decide, by decide, by decide⟩
   . refine key [⟨0, 1, [0, 0, 1, 1]⟩, ⟨0, 1, [0, 1, 0, 1]⟩, ⟨1, 0, [0, 3]⟩] (fun k => if k = 0 then 4 else 2) ?_ (fun k => by dsimp only; split <;> omega) (fun f hf => ?_) (by decide)
     . exact run _ rfl
     . simp at hf; rcases hf with rfl | rfl | rfl <;> exact ⟨by decide, by decide, by decide, by decide⟩
   . refine key [⟨0, 0, [1, 0]⟩] (fun _ => 2) ?_ (fun k => by simp) (fun f hf => ?_) (by decide)
     . exact run _ rfl
     . simp at hf; subst hf; exact ⟨by decide, by decide, by decide, by decide⟩
   . refine key [⟨0, 0, [1, 2, 0]⟩] (fun _ => 3) ?_ (fun k => by simp) (fun f hf => ?_) (by decide)
     . exact run _ rfl
     . simp at hf; subst hf; exact ⟨by decide, by decide, by decide, by decide⟩
   . refine key [⟨0, 0, [0, 0]⟩] (fun _ => 2) ?_ (fun k => by simp) (fun f hf => ?_) (by decide)
     . exact run _ rfl
     . simp at hf; subst hf; exact ⟨by decide, by decide, by decide, by decide⟩
   . refine key [] (fun _ => 1) ?_ (fun k => by simp) (fun f hf => ?_) (by decide)
     . exact run _ rfl
     . simp at hf
   . refine key [⟨0, 1, [0, 1]⟩, ⟨1, 2, [0, 0, 1]⟩] (fun k => if k = 1 then 3 else 2) ?_ (fun k => by dsimp only; split <;> omega) (fun f hf => ?_) (by decide)
     . exact run _ rfl
     . simp at hf; rcases hf with rfl | rfl <;> exact ⟨by decide, by decide, by decide, by decide⟩
 . have hv' : ¬ (v : Int) < 7 := by omega
   obtain ⟨u, M2, e2, l2, s2, ll2⟩ := my hm1 s1.has (many := 3) (by decide) (by decide)
   obtain ⟨K, eK, hKu⟩ : ∃ K : Nat, (1 : Int) + (u : Int) = (K : Int) /\ K = 1 + u := ⟨1 + u, by omega, rfl⟩
   obtain ⟨szs, M3, e3, l3, r3, s3, ll3⟩ := apj (a1 := some (.int v)) (a2 := none) (a3 := none) (a4 := none) (a5 := none) (a7 := none) (a8 := none) (a9 := none) (a10 := none) (a11 := none) (K := K) hm1 s2.has (by omega)
   have htl : t < M3.length := by obtain ⟨n, h, _⟩ := s3.has; exact fj h
   have h4 : Has t f (M3 ++ [.lst []]) := by obtain ⟨n, h, o⟩ := s3.has; exact ⟨n, dj h, o⟩
   obtain ⟨fs, ρ', M5, e5, q8, q1, q2, q3, q4, q5, q6⟩ := ahk (v := v) (K := K) (p := M3.length) (a9 := none) (a10 := none) (a11 := none) hm1 h4 l3 (by omega) (by omega) r3 (by simp) (by omega)
   refine ⟨.ref M3.length, M5, fs, fun k => szs.getD k 1, ?_, dz q1, fun n h => by cases h; omega, fun k => ?_, q3, q2, ?_⟩
   . simp [Fn.run, f__law_begun, v5, e1, hv', e2, eK, e3, MW.new, e5, q8]
   . show 1 <= szs.getD k 1 /\ szs.getD k 1 <= 4
     by_cases h : k < szs.length
     . have := r3 _ (getD_mem h)
       simp [List.getD_eq_getElem?_getD, h] at this ⊢
       omega
     . simp [List.getD_eq_getElem?_getD, h]
   . refine s1.trans (s2.trans (s3.trans ⟨?_, q5, fun a o na h => q6 a o na ?_ (dj h)⟩))
     . have := q4; simp at this; omega
     . have := fj h; omega
end
structure Up (p : Nat) (M M' : Store) : Prop where
 len : M'.length = M.length
 oth : ∀ a : Nat, a ≠ p -> M'[a]? = M[a]?
theorem Up.refl (p : Nat) (M : Store) : Up p M M := ⟨rfl, fun _ _ => rfl⟩
theorem Up.trans {p : Nat} {M M1 M2 : Store} (a : Up p M M1) (b : Up p M1 M2) : Up p M M2 := ⟨b.len.trans a.len, fun x h => (b.oth x h).trans (a.oth x h)⟩
theorem Up.set (p : Nat) (M : Store) (o : MO) : Up p M (M.set p o) := ⟨by simp, fun a h => ik (Ne.symm h)⟩
theorem v9 {M : Store} {p : Nat} {ds : List D} {x : D} (h : M[p]? = some (.lst ds)) : ou M x (.ref p) = memD M x ds := by simp [ou, h, cu, asList]
theorem yo (f : F) (M : Store) : dg f.toD (.int 0) M = some (.int f.a) := rfl
theorem yf (f : F) (M : Store) : dg f.toD (.int 1) M = some (.int f.b) := rfl
theorem aki (f : F) (M : Store) : dg f.toD (.int 2) M = some (ie f.r) := rfl
theorem tu (M : Store) (r : List Nat) (n : Nat) : dw M (ie r) (.tup ((List.range n).map fun (k : Nat) => D.int (k : Int))) = some (decide (r = List.range n)) := ahf M r (List.range n)
theorem atx (M : Store) (r : List Nat) : dw M (ie r) (.tup []) = some (decide (r = [])) := ahf M r []
theorem gm (M : Store) (a b : Nat) : dw M (.int a) (.int b) = some (decide (a = b)) := by rw [eq_int, ajm]
theorem m7 (M : Store) (r : List Nat) : bx .len [ie r] M = .ok (.int r.length) M := by simp [bx, cu, ie]
theorem alr (M : Store) (ds : List D) : bx .tuple [.vl ds] M = .ok (.tup ds) M := by simp [bx, cu]
theorem aeo (M : Store) (r : List Nat) : bx .tuple [.vl (r.map nD)] M = .ok (ie r) M := alr M _
theorem ahq {sz : Nat -> Nat} {f : F} (hz : Sz sz) (h : Ok1 sz f) : 1 <= f.r.length /\ f.r.length <= 4 := by rw [h.len]; exact hz _
theorem atf (M : Store) (r : List Nat) : srcOf M (ie r) = some (.con (r.map nD)) := rfl
theorem alg (M : Store) (r : List Nat) {x : Nat} (h : x < r.length) : dg (ie r) (.int x) M = some (.int (r.getD x 0)) := vo (by omega) (by simp [h, nD])
section
variable {W : Wld} {M : Store} {sz : Nat -> Nat}
theorem aoz {f g : F} {a0 a1 a2 a3 a4 a5 a6 a9 : Option D} (hz : Sz sz) (hf : Ok1 sz f) (hg : Ok1 sz g) (h : f.b = g.a) :
 c__law_closed_1.den W [a0, a1, a2, a3, a4, a5, a6, some f.toD, some g.toD, a9] M = .ok (.vl ((f.comp g).r.map nD)) M := by
 have hsm : (f.r.map nD).length <= 100000 := by rw [List.length_map, hf.len]; have := hz f.a; omega
 unfold c__law_closed_1
 rw [wy]
 simp [aki, atf]
 have := ai5 (M := M) (ds := f.r.map nD) (g := fun d => match d with | .int i => nD (g.r.getD i.toNat 0) | _ => .non)
  (body := fun d M => ((Res.ofOpt (dg (ie g.r) d M) M).bind fun x M' => Res.ok (some x) M')) hsm (fun d hd => by
   obtain ⟨x, hx, rfl⟩ := List.mem_map.mp hd
   have hx' : x < g.r.length := by rw [hg.len, <- h]; exact hf.ran x hx
   rw [show nD x = D.int (x : Int) from rfl, alg M g.r hx']
   simp [nD])
 rw [this]
 simp [F.comp, nD]
noncomputable def jm (gs : List F) (f g : F) : List F := if f.b = g.a /\ f.comp g ∉ gs /\ ¬ (f.comp g).isId then gs ++ [f.comp g] else gs
theorem ahp (f g : F) : D.tup [.int f.a, .int g.b, ie (f.comp g).r] = (f.comp g).toD := rfl
theorem ad5 {f g : F} {gs : List F} {p : Nat} {a0 a2 a3 a4 a5 a6 a9 : Option D} (hz : Sz sz) (hf : Ok1 sz f) (hg : Ok1 sz g) (hp : M[p]? = some (.lst (gs.map F.toD))) (hl : gs.length < 100000) :
 ∃ (b4 b9 : Option D) (M' : Store), t__law_closed_2.den W [a0, some (.ref p), a2, a3, a4, a5, a6, some f.toD, some g.toD, a9] M = .ok (.next, [a0, some (.ref p), a2, a3, b4, a5, a6, some f.toD, some g.toD, b9]) M' /\
  M'[p]? = some (.lst ((jm gs f g).map F.toD)) /\ Up p M M' := by
 by_cases h : f.b = g.a
 . have hc := aoz (W := W) (M := M) (a0 := a0) (a1 := some (.ref p)) (a2 := a2) (a3 := a3) (a4 := some (.tup [])) (a5 := a5) (a6 := a6) (a9 := a9) hz hf hg h
   have hr : (f.comp g).r ≠ [] := fun e => by
    have := (ahq hz (hf.comp hg h)).1
    rw [e] at this; simp at this
   have hlen : (f.comp g).r.length <= 100000 := by have := (ahq hz (hf.comp hg h)).2; omega
   have hmem := ajs M (f.comp g) gs
   have e0 : (f.comp g).a = f.a := rfl
   have e1 : (f.comp g).b = g.b := rfl
   have ap := aad (d := (f.comp g).toD) hp (by rw [List.length_map]; exact hl)
   have key : ∃ T : Res (Flow × Env), t__law_closed_2.den W [a0, some (.ref p), a2, a3, a4, a5, a6, some f.toD, some g.toD, a9] M = T /\ (f.comp g ∈ gs -> T = .ok (.next, [a0, some (.ref p), a2, a3, some (ie (f.comp g).r), a5, a6, some f.toD, some g.toD, some (f.comp g).toD]) M) /\ (f.comp g ∉ gs -> (f.comp g).isId -> T = .ok (.next, [a0, some (.ref p), a2, a3, some (ie (f.comp g).r), a5, a6, some f.toD, some g.toD, some (f.comp g).toD]) M) /\
    (f.comp g ∉ gs -> ¬ (f.comp g).isId -> T = .ok (.next, [a0, some (.ref p), a2, a3, some (ie (f.comp g).r), a5, a6, some f.toD, some g.toD, some (f.comp g).toD]) (M.set p (.lst ((gs ++ [f.comp g]).map F.toD)))) := by
    refine ⟨_, (by simp [-eq_int, t__law_closed_2, yo, yf, gm, h, hc, aeo, ahp, atx, hr, v9 hp, hmem]; exact rfl), ?_, ?_, ?_⟩
    . intro m; simp [m]
    . intro m i; simp [-eq_int, m, yo, yf, gm, i.1, m7, hlen, tu, decide_eq_true i.2]
    . intro m i
      by_cases i1 : (f.comp g).a = (f.comp g).b
      . have i2 : ¬ (f.comp g).r = List.range (f.comp g).r.length := fun q => i ⟨i1, q⟩
        simp [-eq_int, yo, yf, gm, m, i1, m7, hlen, tu, i2, xj hp, ap]
      . simp [-eq_int, yo, yf, gm, m, i1, m7, hlen, tu, xj hp, ap]
   obtain ⟨T, e, k1, k2, k3⟩ := key
   by_cases m : f.comp g ∈ gs
   . exact ⟨_, _, M, e.trans (k1 m), by rw [jm, if_neg (fun q => q.2.1 m)]; exact hp, Up.refl p M⟩
   . by_cases i : (f.comp g).isId
     . exact ⟨_, _, M, e.trans (k2 m i), by rw [jm, if_neg (fun q => q.2.2 i)]; exact hp, Up.refl p M⟩
     . exact ⟨_, _, _, e.trans (k3 m i), by rw [jm, if_pos ⟨h, m, i⟩, gw hp], Up.set _ _ _⟩
 . refine ⟨some (.tup []), some (.tup [.int f.a, .int g.b, .tup []]), M, ?_, by rw [jm, if_neg (fun q => h q.1)]; exact hp, Up.refl p M⟩
   have := ahf M [] []
   simp [ie] at this
   simp [-eq_int, t__law_closed_2, yo, yf, gm, h, this]
end
structure Inv (sz : Nat -> Nat) (gs : List F) : Prop where
 good : Good sz gs
 nd : gs.Nodup
 nid : ∀ f ∈ gs, ¬ f.isId
theorem Inv.snoc {sz : Nat -> Nat} {gs : List F} {f : F} (h : Inv sz gs) (hf : Ok1 sz f) (hm : f ∉ gs) (hi : ¬ f.isId) : Inv sz (gs ++ [f]) := by
 refine ⟨fun x hx => ?_, ?_, fun x hx => ?_⟩
 . rcases List.mem_append.mp hx with q | q
   . exact h.good x q
   . have : x = f := by simpa using q
     exact this ▸ hf
 . rw [List.nodup_append]
   refine ⟨h.nd, by simp, fun a ha b hb => ?_⟩
   have : b = f := by simpa using hb
   exact fun e => hm (by rw [<- this, <- e]; exact ha)
 . rcases List.mem_append.mp hx with q | q
   . exact h.nid x q
   . have : x = f := by simpa using q
     exact this ▸ hi
noncomputable def Cl2 (gs : List F) (f g : F) : Prop := f.b = g.a -> f.comp g ∈ gs \/ (f.comp g).isId
theorem Cl2.mono {gs hs : List F} {f g : F} (h : Cl2 gs f g) (s : gs <+: hs) : Cl2 hs f g := fun e => (h e).imp (fun m => s.subset m) id
theorem vh (gs : List F) (f g : F) : gs <+: jm gs f g := by
 unfold jm; split
 . exact List.prefix_append _ _
 . exact List.prefix_rfl
theorem ac6 (gs : List F) (f g : F) : (jm gs f g).length <= gs.length + 1 := by
 unfold jm; split <;> simp
theorem ahs {sz : Nat -> Nat} {gs : List F} {f g : F} (h : Inv sz gs) (hf : Ok1 sz f) (hg : Ok1 sz g) : Inv sz (jm gs f g) := by
 unfold jm; split
 . rename_i q; exact h.snoc (hf.comp hg q.1) q.2.1 q.2.2
 . exact h
theorem air (gs : List F) (f g : F) : Cl2 (jm gs f g) f g := by
 intro e
 unfold jm
 by_cases m : f.comp g ∈ gs
 . left; split
   . exact List.mem_append_left _ m
   . exact m
 . by_cases i : (f.comp g).isId
   . exact .inr i
   . left; rw [if_pos ⟨e, m, i⟩]; simp
theorem zz {gs hs : List F} {i : Nat} {f : F} (s : gs <+: hs) (h : gs[i]? = some f) : hs[i]? = some f := by
 obtain ⟨t, rfl⟩ := s
 rw [List.getElem?_append_left (List.getElem?_eq_some_iff.mp h).1]; exact h
theorem qz {M : Store} {p : Nat} {gs : List F} {i : Nat} {f : F} (hp : M[p]? = some (.lst (gs.map F.toD))) (h : gs[i]? = some f) : dg (.ref p) (.int i) M = some f.toD := m6 (dz hp) (by omega) (by simp [h])
theorem n8 {M : Store} {p : Nat} {gs : List F} (hp : M[p]? = some (.lst (gs.map F.toD))) : bx .len [.ref p] M = .ok (.int gs.length) M := by rw [len_list (dz hp)]; simp
section
variable {W : Wld} {M : Store} {sz : Nat -> Nat}
theorem awr {f g : F} {gs : List F} {p k j : Nat} {a0 a2 a3 a4 a7 a8 a9 : Option D} (hz : Sz sz) (hi : Inv sz gs) (hp : M[p]? = some (.lst (gs.map F.toD))) (hl : gs.length < 90000) (hk : gs[k]? = some f) (hj : gs[j]? = some g) :
 ∃ (b4 b7 b8 b9 : Option D) (M' : Store), s__law_closed_2.den W [a0, some (.ref p), a2, a3, a4, some (.int k), some (.int j), a7, a8, a9] M = .ok (.next, [a0, some (.ref p), a2, a3, b4, some (.int k), some (.int j), b7, b8, b9]) M' /\
  M'[p]? = some (.lst ((jm (jm gs f g) g f).map F.toD)) /\ Up p M M' := by
 have hf := hi.good f (List.mem_of_getElem? hk)
 have hg := hi.good g (List.mem_of_getElem? hj)
 have l1 := ac6 gs f g
 obtain ⟨b4, b9, M1, e1, p1, u1⟩ := ad5 (W := W) (M := M) (a0 := a0) (a2 := a2) (a3 := a3) (a4 := a4) (a5 := some (.int k)) (a6 := some (.int j)) (a9 := a9) hz hf hg hp (by omega)
 obtain ⟨c4, c9, M2, e2, p2, u2⟩ := ad5 (W := W) (M := M1) (a0 := a0) (a2 := a2) (a3 := a3) (a4 := b4) (a5 := some (.int k)) (a6 := some (.int j)) (a9 := b9) hz hg hf p1 (by omega)
 refine ⟨c4, some g.toD, some f.toD, c9, M2, ?_, p2, u1.trans u2⟩
 unfold s__law_closed_2
 rw [aaa]
 simp [qz hp hk, qz hp hj, srcOf, Src.len, Src.fin, iw, Src.item, e1, e2]
theorem aq9 {f : F} {gs : List F} {p k : Nat} {a0 a2 a3 a4 a6 a7 a8 a9 : Option D} (hz : Sz sz) (hi : Inv sz gs) (hp : M[p]? = some (.lst (gs.map F.toD))) (hl : gs.length < 10000) (hk : gs[k]? = some f) :
 ∃ (hs : List F) (b4 b6 b7 b8 b9 : Option D) (M' : Store), s__law_closed_1.den W [a0, some (.ref p), a2, a3, a4, some (.int k), a6, a7, a8, a9] M = .ok (.next, [a0, some (.ref p), a2, a3, b4, some (.int k), b6, b7, b8, b9]) M' /\
  M'[p]? = some (.lst (hs.map F.toD)) /\ Up p M M' /\ gs <+: hs /\ Inv sz hs /\ hs.length <= 3 * gs.length /\ ∀ (j : Nat) (g : F), gs[j]? = some g -> Cl2 hs f g /\ Cl2 hs g f := by
 unfold s__law_closed_1
 rw [aaa]
 have hl' : gs.length <= 100000 := by omega
 simp [n8 hp, hl']
 obtain ⟨ρ', M', e, hs, b4, b6, b7, b8, b9, rfl, h1, h2, h3, h4, h5, h6⟩ := aex (n := gs.length) (body := fun d ρ M => t__law_closed_1.den W (ρ.set 6 (some d)) M)
  (fun i ρ M' => ∃ (hs : List F) (b4 b6 b7 b8 b9 : Option D), ρ = [a0, some (.ref p), a2, a3, b4, some (.int k), b6, b7, b8, b9] /\ M'[p]? = some (.lst (hs.map F.toD)) /\ Up p M M' /\ gs <+: hs /\ Inv sz hs /\ hs.length <= gs.length + 2 * i /\
   ∀ (j : Nat) (g : F), j < i -> gs[j]? = some g -> Cl2 hs f g /\ Cl2 hs g f) (ρ := [a0, some (.ref p), a2, a3, a4, some (.int k), a6, a7, a8, a9]) (M := M)
  ⟨gs, a4, a6, a7, a8, a9, rfl, hp, Up.refl p M, List.prefix_rfl, hi, by omega, fun j g h => absurd h (Nat.not_lt_zero _)⟩
  (fun i ρ M2 hlt hI => by
   obtain ⟨hs, b4, b6, b7, b8, b9, rfl, g1, g2, g3, g4, g5, g6⟩ := hI
   have gi : gs[i]? = some gs[i] := by simp [hlt]
   obtain ⟨c4, c7, c8, c9, M3, e3, p3, u3⟩ := awr (W := W) (M := M2) (a0 := a0) (a2 := a2) (a3 := a3) (a4 := b4) (a7 := b7) (a8 := b8) (a9 := b9) hz g4 g1 (by omega) (zz g3 hk) (zz g3 gi)
   have hf := g4.good f (List.mem_of_getElem? (zz g3 hk))
   have hg := g4.good gs[i] (List.mem_of_getElem? (zz g3 gi))
   refine ⟨.next, _, M3, ?_, .inl rfl, jm (jm hs f gs[i]) gs[i] f, c4, some (.int i), c7, c8, c9, rfl, p3, g2.trans u3, (g3.trans (vh _ _ _)).trans (vh _ _ _), ahs (ahs g4 hf hg) hg hf, ?_, ?_⟩
   . simp [t__law_closed_1, e3]
   . have := ac6 hs f gs[i]
     have := ac6 (jm hs f gs[i]) gs[i] f
     omega
   . intro j g hj hg'
     have pr := (vh hs f gs[i]).trans (vh (jm hs f gs[i]) gs[i] f)
     rcases Nat.lt_succ_iff_lt_or_eq.mp hj with q | q
     . exact ⟨(g6 j g q hg').1.mono pr, (g6 j g q hg').2.mono pr⟩
     . subst q
       have : g = gs[j] := by rw [gi] at hg'; exact (Option.some.inj hg').symm
       subst this
       exact ⟨(air _ _ _).mono (vh _ _ _), air _ _ _⟩)
 refine ⟨hs, b4, b6, b7, b8, b9, M', e, h1, h2, h3, h4, by omega, fun j g hg => h6 j g (List.getElem?_eq_some_iff.mp hg).1 hg⟩
end
theorem akq (f : F) (i j k : Nat) (ρ : Env) : (Tg.names [i, j, k]).put f.toD ρ = some (((ρ.set i (some (.int f.a))).set j (some (.int f.b))).set k (some (ie f.r))) := rfl
noncomputable def aas (gs : List F) (f : F) : List F := if ¬ f.isId /\ f ∉ gs then gs ++ [f] else gs
noncomputable def ClK (gs : List F) (k : Nat) : Prop := ∀ (i j : Nat) (f g : F), i < k -> j < k -> gs[i]? = some f -> gs[j]? = some g -> Cl2 gs f g
section
variable {W : Wld} {M : Store} {sz : Nat -> Nat}
theorem alc {f : F} {gs : List F} {p : Nat} {a0 a5 a6 a7 a8 a9 : Option D} (hz : Sz sz) (hf : Ok1 sz f) (hp : M[p]? = some (.lst (gs.map F.toD))) (hl : gs.length < 100000) :
 ∃ M', t__law_closed_3.den W [a0, some (.ref p), some (.int f.a), some (.int f.b), some (ie f.r), a5, a6, a7, a8, a9] M = .ok (.next, [a0, some (.ref p), some (.int f.a), some (.int f.b), some (ie f.r), a5, a6, a7, a8, a9]) M' /\
  M'[p]? = some (.lst ((aas gs f).map F.toD)) /\ Up p M M' := by
 have hlen : f.r.length <= 100000 := by have := (ahq hz hf).2; omega
 have hmem := ajs M f gs
 have hD : D.tup [.int f.a, .int f.b, ie f.r] = f.toD := rfl
 have ap := aad (d := f.toD) hp (by rw [List.length_map]; exact hl)
 by_cases i : f.isId
 . refine ⟨M, ?_, by rw [aas, if_neg (fun q => q.1 i)]; exact hp, Up.refl p M⟩
   simp [-eq_int, t__law_closed_3, gm, i.1, m7, hlen, tu, decide_eq_true i.2]
 . by_cases m : f ∈ gs
   . refine ⟨M, ?_, by rw [aas, if_neg (fun q => q.2 m)]; exact hp, Up.refl p M⟩
     by_cases i1 : f.a = f.b
     . have i2 : ¬ f.r = List.range f.r.length := fun q => i ⟨i1, q⟩
       simp [i1] at hD
       simp [-eq_int, t__law_closed_3, gm, i1, i2, m7, hlen, tu, hD, v9 hp, hmem, m]
     . simp [-eq_int, t__law_closed_3, gm, i1, m7, hlen, tu, hD, v9 hp, hmem, m]
   . refine ⟨M.set p (.lst ((gs ++ [f]).map F.toD)), ?_, by rw [aas, if_pos ⟨i, m⟩, gw hp], Up.set _ _ _⟩
     by_cases i1 : f.a = f.b
     . have i2 : ¬ f.r = List.range f.r.length := fun q => i ⟨i1, q⟩
       simp [i1] at hD
       simp [-eq_int, t__law_closed_3, gm, i1, i2, m7, hlen, tu, hD, v9 hp, hmem, m, xj hp, ap]
     . simp [-eq_int, t__law_closed_3, gm, i1, m7, hlen, tu, hD, v9 hp, hmem, m, xj hp, ap]
theorem anz {gs : List F} {f : F} (h : Inv sz gs) (hf : Ok1 sz f) : Inv sz (aas gs f) := by
 unfold aas; split
 . rename_i q; exact h.snoc hf q.2 q.1
 . exact h
theorem apq (gs : List F) (f : F) : (aas gs f).length <= gs.length + 1 := by unfold aas; split <;> simp
theorem ak2 {gs : List F} {p : Nat} {a0 a2 a3 a4 a6 a7 a8 a9 : Option D} (hz : Sz sz) (hi : Inv sz gs) (hp : M[p]? = some (.lst (gs.map F.toD))) (hl : gs.length <= 3) :
 ∃ (ρ' : Env) (M' : Store), s__law_closed_0.den W [a0, some (.ref p), a2, a3, a4, some (.int 0), a6, a7, a8, a9] M = .ok (.next, ρ') M' /\ ρ'[1]? = some (some (.ref p)) /\ ∃ hs : List F, M'[p]? = some (.lst (hs.map F.toD)) /\ Up p M M' /\ Inv sz hs /\ hs.length <= 15 /\
  (hs.length < 6 -> rz hs) /\ (gs = [] -> hs = []) := by
 unfold s__law_closed_0
 rw [agq]
 refine abk (fun m ρ M' => ∃ (hs : List F) (k : Nat) (b4 b6 b7 b8 b9 : Option D), ρ = [a0, some (.ref p), a2, a3, b4, some (.int k), b6, b7, b8, b9] /\ M'[p]? = some (.lst (hs.map F.toD)) /\ Up p M M' /\ Inv sz hs /\ hs.length <= 15 /\ ClK hs k /\ k <= 5 /\ m = 10 - k /\ (gs = [] -> hs = []))
  (fun ρ' M' => ρ'[1]? = some (some (.ref p)) /\ ∃ hs : List F, M'[p]? = some (.lst (hs.map F.toD)) /\ Up p M M' /\ Inv sz hs /\ hs.length <= 15 /\ (hs.length < 6 -> rz hs) /\ (gs = [] -> hs = [])) ?_ ae6 10 _ M (by decide)
  ⟨gs, 0, a4, a6, a7, a8, a9, rfl, hp, Up.refl p M, hi, by omega, fun i j f g h => absurd h (Nat.not_lt_zero _), by omega, rfl, id⟩
 intro m ρ M1 hI
 obtain ⟨hs, k, b4, b6, b7, b8, b9, rfl, g1, g2, g3, g4, g5, g6, g7, g8⟩ := hI
 by_cases c1 : k < hs.length
 . have c1' : (k : Int) < (hs.length : Int) := by omega
   by_cases c2 : hs.length < 6
   . have c2' : (hs.length : Int) < 6 := by omega
     right
     obtain ⟨is, d4, d6, d7, d8, d9, M2, e, p2, u2, pr, inv2, l2, cl2⟩ := aq9 (W := W) (M := M1) (a0 := a0) (a2 := a2) (a3 := a3) (a4 := b4) (a6 := b6) (a7 := b7) (a8 := b8) (a9 := b9) (k := k) hz g3 g1 (by omega) (show hs[k]? = some hs[k] by simp [c1])
     refine ⟨M1, .next, _, M2, 10 - (k + 1), ?_, ?_, .inl rfl, by omega, is, k + 1, d4, d6, d7, d8, d9, rfl, p2, g2.trans u2, inv2, by omega, ?_, by omega, rfl, ?_⟩
     . simp [n8 g1, c1', c2']
     . simp [yt, e]
     . intro i j f g hi' hj' hf hg
       have back : ∀ (i : Nat) (f : F), i < k + 1 -> is[i]? = some f -> hs[i]? = some f := fun i f hi hf => by
        have hlt : i < hs.length := by omega
        have := zz pr (show hs[i]? = some hs[i] by simp [hlt])
        rw [hf] at this
        rw [this]; simp [hlt]
       have hf' := back i f hi' hf
       have hg' := back j g hj' hg
       by_cases ei : i = k
       . subst ei
         have : f = hs[i] := by have := hf'; simp [c1] at this; exact this.symm
         subst this
         exact (cl2 j g hg').1
       . by_cases ej : j = k
         . subst ej
           have : g = hs[j] := by have := hg'; simp [c1] at this; exact this.symm
           subst this
           exact (cl2 i f hf').2
         . exact (g5 i j f g (by omega) (by omega) hf' hg').mono pr
     . intro e0
       have := g8 e0
       subst this
       simp at c1
   . left
     have c2' : ¬ (hs.length : Int) < 6 := by omega
     exact ⟨M1, by simp [n8 g1, c1', c2'], rfl, hs, g1, g2, g3, g4, fun q => absurd q c2, g8⟩
 . left
   have c1' : ¬ (k : Int) < (hs.length : Int) := by omega
   refine ⟨M1, by simp [n8 g1, c1'], rfl, hs, g1, g2, g3, g4, fun _ => ?_, g8⟩
   intro f hf g hg
   obtain ⟨i, hi', ei⟩ := List.getElem_of_mem hf
   obtain ⟨j, hj', ej⟩ := List.getElem_of_mem hg
   exact g5 i j f g (by omega) (by omega) (by simp [hi', ei]) (by simp [hj', ej])
theorem afv {m : Nat} {d : D} {fs : List F} (hm : 1 <= m) (hz : Sz sz) (hg : Good sz fs) (hl : fs.length <= 3) (hd : asList M d = some (fs.map F.toD)) :
 ∃ (hs : List F) (M' : Store), prog.call m 16 [d] M = .ok (.ref M.length) M' /\ M'[M.length]? = some (.lst (hs.map F.toD)) /\ Keep M M' /\ M'.length = M.length + 1 /\ Inv sz hs /\ hs.length <= 15 /\ (hs.length < 6 -> rz hs) /\ (fs = [] -> hs = []) := by
 rw [call_of hm rfl]
 have hd1 : asList (M ++ [.lst []]) d = some (fs.map F.toD) := (Keep.app M _).asList hd
 obtain ⟨s, hs0, ρ1, M1, e1, gs, b2, b3, b4, rfl, h1, h2, h3, h4, h5⟩ := adk (body := fun d ρ M => match (Tg.names [2, 3, 4]).put d ρ with
  | some ρ' => t__law_closed_3.den ⟨prog.call (m - 1), prog.cls⟩ ρ' M
  | none => .bad)
  (fun i ρ M' => ∃ (gs : List F) (b2 b3 b4 : Option D), ρ = [some d, some (.ref M.length), b2, b3, b4, none, none, none, none, none] /\ M'[M.length]? = some (.lst (gs.map F.toD)) /\ Up M.length (M ++ [.lst []]) M' /\ Inv sz gs /\ gs.length <= i /\ (fs = [] -> gs = []))
  (ρ := [some d, some (.ref M.length), none, none, none, none, none, none, none, none]) (M := M ++ [.lst []]) hd1
  ⟨[], none, none, none, rfl, by simp, Up.refl _ _, ⟨fun f hf => by simp at hf, by simp, fun f hf => by simp at hf⟩, by simp, fun _ => rfl⟩
  (fun i ρ M' hI => by
   obtain ⟨gs, b2, b3, b4, rfl, g1, g2, g3, g4, g5⟩ := hI
   cases d with
   | vl xs => exact hd
   | ref n =>
    have hn : n ≠ M.length := by
     simp only [asList] at hd
     cases e : M[n]? with
     | none => rw [e] at hd; simp at hd
     | some o => have := fj e; omega
    simp only [asList] at hd1 ⊢
    rw [g2.oth n hn]
    exact hd1
   | _ => simp [asList] at hd)
  (fun i x ρ M' hx hI => by
   obtain ⟨gs, b2, b3, b4, rfl, g1, g2, g3, g4, g5⟩ := hI
   obtain ⟨f, hf, rfl⟩ : ∃ f, fs[i]? = some f /\ f.toD = x := by simpa using hx
   have hfm := List.mem_of_getElem? hf
   have hil := (List.getElem?_eq_some_iff.mp hf).1
   obtain ⟨M2, e2, p2, u2⟩ := alc (W := ⟨prog.call (m - 1), prog.cls⟩) (M := M') (a0 := some d) (a5 := none) (a6 := none) (a7 := none) (a8 := none) (a9 := none) hz (hg f hfm) g1 (by omega)
   refine ⟨.next, _, M2, ?_, .inl rfl, aas gs f, some (.int f.a), some (.int f.b), some (ie f.r), rfl, p2, g2.trans u2, anz g3 (hg f hfm), ?_, fun e => ?_⟩
   . rw [akq]; exact e2
   . have := apq gs f; omega
   . subst e; simp at hf)
 have hgl : gs.length <= 3 := by simp at h4; omega
 obtain ⟨ρ2, M2, e2, q1, hs, p2, u2, inv2, l2, c2, z2⟩ := ak2 (W := ⟨prog.call (m - 1), prog.cls⟩) (M := M1) (a0 := some d) (a2 := b2) (a3 := b3) (a4 := b4) (a6 := none) (a7 := none) (a8 := none) (a9 := none) hz h3 h1 hgl
 have up := h2.trans u2
 refine ⟨hs, M2, ?_, p2, fun a o h => ?_, ?_, inv2, l2, c2, fun e => z2 (h5 e)⟩
 . have e1' : s__law_closed_3.den ⟨prog.call (m - 1), prog.cls⟩ [some d, some (.ref M.length), none, none, none, none, none, none, none, none] (M ++ [.lst []]) = .ok (.next, [some d, some (.ref M.length), b2, b3, b4, none, none, none, none, none]) M1 := by
    unfold s__law_closed_3
    rw [aaa]
    simp [hs0]
    exact e1
   simp [Fn.run, aba, abe, MW.new, e1', e2, q1]
 . have := fj h
   rw [up.oth a (by omega)]
   exact dj h
 . rw [up.len]; simp
end
end K01
namespace MW
section
variable {W : Wld} {ρ : Env} {M : Store}
theorem ym (v : Bool) (k : Nat) (t : Tg) (it : Itr) (e : Ex) : (Ex.comp v k t it e).den W ρ M = (it.den W ρ M).bind fun s M1 =>
 (di s (fun d M => (Res.ofOpt (t.put d (ρ ++ List.replicate k none)) M).bind fun ρ' M => (e.den W ρ' M).bind fun x M' => .ok (some x) M') M1).bind fun ds M2 => if v then .ok (.vl ds) M2 else new (.lst ds) M2 := by
 rw [wy]
 congr 1; funext s M1; congr 2; funext d M
 cases t.put d (ρ ++ List.replicate k none) <;> rfl
theorem acq (v : Bool) (k : Nat) (t : Tg) (it : Itr) (c e : Ex) : (Ex.compif v k t it c e).den W ρ M = (it.den W ρ M).bind fun s M1 =>
 (di s (fun d M => (Res.ofOpt (t.put d (ρ ++ List.replicate k none)) M).bind fun ρ' M => (c.den W ρ' M).bind fun b M' =>
  match b with
   | .bl true => (e.den W ρ' M').bind fun x M'' => .ok (some x) M''
   | .bl false => .ok none M'
   | _ => .bad) M1).bind fun ds M2 => if v then .ok (.vl ds) M2 else new (.lst ds) M2 := by
 rw [ado]
 congr 1; funext s M1; congr 2; funext d M
 cases t.put d (ρ ++ List.replicate k none) <;> rfl
theorem u9 (t : Tg) (it : Itr) (b : Stms) : (Stm.for_ t it b).den W ρ M = (it.den W ρ M).bind fun s M1 => iw s.fin s.item (fun d ρ M => (Res.ofOpt (t.put d ρ) M).bind fun ρ' M => b.den W ρ' M) s.len 0 ρ M1 := by
 rw [aaa]
 congr 1; funext s M1; congr 1; funext d ρ M
 cases t.put d ρ <;> rfl
theorem qy {t : Tg} {it : Ex} {b : Stms} {n : Nat} {M1 : Store} (hit : it.den W ρ M = .ok (.int (n : Int)) M1) (hn : n <= 100000) (I : Nat -> Env -> Store -> Prop) (h0 : I 0 ρ M1)
 (step : ∀ i ρ M, i < n -> I i ρ M -> ∃ ρ1 fl ρ' M', t.put (.int i) ρ = some ρ1 /\ b.den W ρ1 M = .ok (fl, ρ') M' /\ (fl = .next \/ fl = .cont) /\ I (i + 1) ρ' M') :
 ∃ ρ' M', (Stm.for_ t (.rng it) b).den W ρ M = .ok (.next, ρ') M' /\ I n ρ' M' := by
 rw [u9, ab9, hit]
 have hn' : ((n : Int)).natAbs <= 100000 := by omega
 simp only [Res.iu, hn', if_true, Int.toNat_natCast]
 exact aex I h0 (fun i ρ M hi h => by
  obtain ⟨ρ1, fl, ρ', M', a, b, c, d⟩ := step i ρ M hi h
  exact ⟨fl, ρ', M', by rw [a]; exact b, c, d⟩)
theorem m9 {t : Tg} {it : Ex} {b : Stms} {d : D} {ds : List D} {M1 : Store} (hit : it.den W ρ M = .ok d M1) (hd : asList M1 d = some ds) (I : Nat -> Env -> Store -> Prop) (h0 : I 0 ρ M1) (stay : ∀ i ρ M, I i ρ M -> asList M d = some ds)
 (step : ∀ i x ρ M, ds[i]? = some x -> I i ρ M -> ∃ ρ1 fl ρ' M', t.put x ρ = some ρ1 /\ b.den W ρ1 M = .ok (fl, ρ') M' /\ (fl = .next \/ fl = .cont) /\ I (i + 1) ρ' M') :
 ∃ ρ' M', (Stm.for_ t (.val it) b).den W ρ M = .ok (.next, ρ') M' /\ I ds.length ρ' M' := by
 rw [u9, uz, hit]
 obtain ⟨s, h1, h2⟩ := adk (body := fun d ρ M => (Res.ofOpt (t.put d ρ) M).bind fun ρ' M => b.den W ρ' M) I hd h0 stay (fun i x ρ M hx h => by
  obtain ⟨ρ1, fl, ρ', M', a, b, c, d⟩ := step i x ρ M hx h
  exact ⟨fl, ρ', M', by rw [a]; exact b, c, d⟩)
 simp only [Res.iu, h1, Res.p7]
 exact h2
theorem aia {t : Tg} {it : Ex} {b : Stms} {ds : List D} {M1 : Store} (hit : it.den W ρ M = .ok (.tup ds) M1) (I : Nat -> Env -> Store -> Prop) (h0 : I 0 ρ M1)
 (step : ∀ i x ρ M, ds[i]? = some x -> I i ρ M -> ∃ ρ1 fl ρ' M', t.put x ρ = some ρ1 /\ b.den W ρ1 M = .ok (fl, ρ') M' /\ (fl = .next \/ fl = .cont) /\ I (i + 1) ρ' M') :
 ∃ ρ' M', (Stm.for_ t (.val it) b).den W ρ M = .ok (.next, ρ') M' /\ I ds.length ρ' M' := by
 rw [u9, uz, hit]
 exact acg I h0 (fun i x ρ M hx h => by
  obtain ⟨ρ1, fl, ρ', M', a, b, c, d⟩ := step i x ρ M hx h
  exact ⟨fl, ρ', M', by rw [a]; exact b, c, d⟩)
theorem acv {t : Tg} {it : Ex} {b : Stms} {ds : List D} {M1 : Store} (hit : it.den W ρ M = .ok (.tup ds) M1) (I : Nat -> Env -> Store -> Prop) (h0 : I 0 ρ M1)
 (step : ∀ i x ρ M, ds[i]? = some x -> I i ρ M -> ∃ ρ1 fl ρ' M', t.put (.tup [.int i, x]) ρ = some ρ1 /\ b.den W ρ1 M = .ok (fl, ρ') M' /\ (fl = .next \/ fl = .cont) /\ I (i + 1) ρ' M') :
 ∃ ρ' M', (Stm.for_ t (.enm it) b).den W ρ M = .ok (.next, ρ') M' /\ I ds.length ρ' M' := by
 rw [u9, aep, hit]
 have := acg (ds := gq ds 0) (body := fun d ρ M => (Res.ofOpt (t.put d ρ) M).bind fun ρ' M => b.den W ρ' M) I h0 (fun i x ρ M hx h => by
  have hil : i < ds.length := by have := (List.getElem?_eq_some_iff.mp hx).1; simpa [gq] using this
  have hx' : x = .tup [.int i, ds[i]] := by
   simp [gq, hil] at hx
   exact hx.symm
  subst hx'
  obtain ⟨ρ1, fl, ρ', M', a, b, c, d⟩ := step i ds[i] ρ M (by simp [hil]) h
  exact ⟨fl, ρ', M', by rw [a]; exact b, c, d⟩)
 have e : (gq ds 0).length = ds.length := by simp [gq]
 rw [e] at this
 exact this
theorem abg {v : Bool} {k : Nat} {t : Tg} {it e : Ex} {d : D} {ds : List D} {g : D -> D} {M1 : Store} (hit : it.den W ρ M = .ok d M1) (hd : asList M1 d = some ds) (hl : ds.length <= 100000)
 (h : ∀ x ∈ ds, ∃ ρ1, t.put x (ρ ++ List.replicate k none) = some ρ1 /\ e.den W ρ1 M1 = .ok (g x) M1) :
 (Ex.comp v k t (.val it) e).den W ρ M = if v then .ok (.vl (ds.map g)) M1 else new (.lst (ds.map g)) M1 := by
 rw [ym, uz, hit]
 obtain ⟨s, h1, h2⟩ := aii (g := fun x => some (g x)) (body := fun d M => (Res.ofOpt (t.put d (ρ ++ List.replicate k none)) M).bind fun ρ' M => (e.den W ρ' M).bind fun x M' => .ok (some x) M') hd hl (fun x hx => by
  obtain ⟨ρ1, a, b⟩ := h x hx
  rw [a]; simp [b])
 simp only [Res.iu, h1, Res.p7, h2, List.filterMap_eq_map']
theorem agx {v : Bool} {k : Nat} {t : Tg} {it e : Ex} {ds : List D} {g : D -> D} {M1 : Store} (hit : it.den W ρ M = .ok (.tup ds) M1) (hl : ds.length <= 100000)
 (h : ∀ x ∈ ds, ∃ ρ1, t.put x (ρ ++ List.replicate k none) = some ρ1 /\ e.den W ρ1 M1 = .ok (g x) M1) :
 (Ex.comp v k t (.val it) e).den W ρ M = if v then .ok (.vl (ds.map g)) M1 else new (.lst (ds.map g)) M1 := by
 rw [ym, uz, hit]
 have h2 := ai5 (g := g) (M := M1) (body := fun d M => (Res.ofOpt (t.put d (ρ ++ List.replicate k none)) M).bind fun ρ' M => (e.den W ρ' M).bind fun x M' => .ok (some x) M') hl (fun x hx => by
  obtain ⟨ρ1, a, b⟩ := h x hx
  rw [a]; simp [b])
 show (di (.con ds) _ M1).bind _ = _
 rw [h2]; rfl
theorem ae9 {v : Bool} {k : Nat} {t : Tg} {it c e : Ex} {n : Nat} {q : Nat -> Bool} {g : Nat -> D} {M1 : Store} (hit : it.den W ρ M = .ok (.int (n : Int)) M1) (hl : n <= 100000)
 (h : ∀ i, i < n -> ∃ ρ1, t.put (.int i) (ρ ++ List.replicate k none) = some ρ1 /\ c.den W ρ1 M1 = .ok (.bl (q i)) M1 /\ (q i = true -> e.den W ρ1 M1 = .ok (g i) M1)) :
 (Ex.compif v k t (.rng it) c e).den W ρ M = if v then .ok (.vl (((List.range n).filter q).map g)) M1 else new (.lst (((List.range n).filter q).map g)) M1 := by
 rw [acq, ab9, hit]
 have hn' : ((n : Int)).natAbs <= 100000 := by omega
 simp only [Res.iu, hn', if_true, Int.toNat_natCast]
 rw [ade (ds := (List.range n).map fun (k : Nat) => D.int (k : Int)) (g := fun d => match d with | .int i => if q i.toNat then some (g i.toNat) else none | _ => none) (by simpa using hl) (fun x hx => by
  obtain ⟨i, hi, rfl⟩ := List.mem_map.mp hx
  obtain ⟨ρ1, a, b, c⟩ := h i (List.mem_range.mp hi)
  rw [a, Res.p7, Res.iu, b, Res.iu]
  cases e : q i with
  | true => simp [e, c e]
  | false => simp [e])]
 have : (((List.range n).map fun (k : Nat) => D.int (k : Int)).filterMap fun d => match d with | .int i => if q i.toNat then some (g i.toNat) else none | _ => none) = ((List.range n).filter q).map g := by
  rw [List.filterMap_map]
  induction List.range n with
  | nil => rfl
  | cons a l ih => by_cases e : q a = true <;> simp [e, ih]
 rw [this]; rfl
theorem ae2 {v : Bool} {k : Nat} {t : Tg} {it c e : Ex} {ds : List D} {q : Nat -> Bool} {g : Nat -> D} {M1 : Store} (hit : it.den W ρ M = .ok (.tup ds) M1) (hl : ds.length <= 100000)
 (h : ∀ (i : Nat) (x : D), ds[i]? = some x -> ∃ ρ1, t.put (.tup [.int i, x]) (ρ ++ List.replicate k none) = some ρ1 /\ c.den W ρ1 M1 = .ok (.bl (q i)) M1 /\ (q i = true -> e.den W ρ1 M1 = .ok (g i) M1)) :
 (Ex.compif v k t (.enm it) c e).den W ρ M = if v then .ok (.vl (((List.range ds.length).filter q).map g)) M1 else new (.lst (((List.range ds.length).filter q).map g)) M1 := by
 rw [acq, aep, hit]
 simp only [Res.iu]
 rw [ade (ds := gq ds 0) (g := fun d => match d with | .tup [.int i, _] => if q i.toNat then some (g i.toNat) else none | _ => none) (by simpa [gq] using hl) (fun x hx => by
  obtain ⟨i, hi, ei⟩ := List.getElem_of_mem hx
  have hil : i < ds.length := by simpa [gq] using hi
  have hx' : x = .tup [.int i, ds[i]] := by rw [<- ei]; simp [gq]
  subst hx'
  obtain ⟨ρ1, a, b, c⟩ := h i ds[i] (by simp [hil])
  rw [a, Res.p7, Res.iu, b, Res.iu]
  cases e : q i with
  | true => simp [e, c e]
  | false => simp [e])]
 have : ((gq ds 0).filterMap fun d => match d with | .tup [.int i, _] => if q i.toNat then some (g i.toNat) else none | _ => none) = ((List.range ds.length).filter q).map g := by
  have aux : ∀ (l : List D) (s : Nat), ((gq l s).filterMap fun d => match d with | .tup [.int i, _] => if q i.toNat then some (g i.toNat) else none | _ => none) = ((List.range' s l.length).filter q).map g := by
   intro l
   induction l with
   | nil => intro s; rfl
   | cons a l ih =>
    intro s
    have e1 : gq (a :: l) s = .tup [.int s, a] :: gq l (s + 1) := by simp [gq]
    rw [e1, List.length_cons, List.range'_succ]
    by_cases e : q s = true <;> simp [e, ih]
  rw [aux, List.range_eq_range']
 rw [this]; rfl
end
end MW
namespace K01
open MW
noncomputable def eD (f : F) : D := .tup [.int f.a, .int f.b]
noncomputable def dsD (hs : List F) : D := .tup (hs.map eD)
noncomputable def ent (hs : List F) (f g : F) : Int := if f.comp g ∈ hs then (pos (f.comp g) hs : Int) else -1
noncomputable def ky (j k : Nat) : List Kx := [.inl (j : Int), .inl (k : Int)]
theorem ag4 {j k j' k' : Nat} (h : ky j k = ky j' k') : j = j' /\ k = k' := by
 simp [ky] at h
 omega
noncomputable def Bef (j k j' k' : Nat) : Prop := j' < j \/ (j' = j /\ k' < k)
structure Tb (hs : List F) (j k : Nat) (kvs : List (List Kx × D)) : Prop where
 keys : ∀ p ∈ kvs, ∃ (j' k' : Nat) (f g : F), p = (ky j' k', .int (ent hs f g)) /\ hs[j']? = some f /\ hs[k']? = some g /\ f.b = g.a /\ Bef j k j' k'
 look : ∀ (j' k' : Nat) (f g : F), hs[j']? = some f -> hs[k']? = some g -> f.b = g.a -> Bef j k j' k' -> dq kvs (ky j' k') = some (.int (ent hs f g))
 len : kvs.length <= j * hs.length + k
theorem amm {kvs : List (List Kx × D)} {q : List Kx} (h : ∀ p ∈ kvs, p.1 ≠ q) : dq kvs q = none := by
 unfold dq
 rw [List.find?_eq_none.mpr (fun p hp => by simpa using h p hp)]
 rfl
theorem alw {kvs : List (List Kx × D)} {q : List Kx} {v : D} (h : ∀ p ∈ kvs, p.1 ≠ q) : jq kvs q v = kvs ++ [(q, v)] := by
 unfold jq
 rw [if_neg]
 simp only [List.any_eq_true, decide_eq_true_eq, not_exists, not_and]
 exact h
theorem ah5 {kvs : List (List Kx × D)} {q q' : List Kx} {v : D} (h : q ≠ q') : dq (kvs ++ [(q, v)]) q' = dq kvs q' := by
 unfold dq
 rw [List.find?_append]
 cases e : kvs.find? (fun p => decide (p.1 = q')) with
 | some p => rfl
 | none => simp [h]
theorem ahn {kvs : List (List Kx × D)} {q : List Kx} {v : D} (h : ∀ p ∈ kvs, p.1 ≠ q) : dq (kvs ++ [(q, v)]) q = some v := by
 unfold dq
 rw [List.find?_append, List.find?_eq_none.mpr (fun p hp => by simpa using h p hp)]
 simp
theorem Tb.skip {hs : List F} {j k : Nat} {kvs : List (List Kx × D)} (h : Tb hs j k kvs) {f g : F} (hf : hs[j]? = some f) (hg : hs[k]? = some g) (n : f.b ≠ g.a) : Tb hs j (k + 1) kvs := by
 refine ⟨fun p hp => ?_, fun j' k' f' g' a b c d => ?_, by have := h.len; omega⟩
 . obtain ⟨j', k', f', g', e, a, b, c, d⟩ := h.keys p hp
   exact ⟨j', k', f', g', e, a, b, c, by unfold Bef at *; omega⟩
 . by_cases q : j' = j /\ k' = k
   . obtain ⟨rfl, rfl⟩ := q
     rw [hf] at a; rw [hg] at b
     cases a; cases b
     exact absurd c n
   . exact h.look j' k' f' g' a b c (by unfold Bef at *; omega)
theorem Tb.fresh {hs : List F} {j k : Nat} {kvs : List (List Kx × D)} (h : Tb hs j k kvs) : ∀ p ∈ kvs, p.1 ≠ ky j k := by
 intro p hp e
 obtain ⟨j', k', f', g', rfl, a, b, c, d⟩ := h.keys p hp
 have := ag4 e
 unfold Bef at d
 omega
theorem Tb.put {hs : List F} {j k : Nat} {kvs : List (List Kx × D)} (h : Tb hs j k kvs) {f g : F} (hf : hs[j]? = some f) (hg : hs[k]? = some g) (n : f.b = g.a) : Tb hs j (k + 1) (jq kvs (ky j k) (.int (ent hs f g))) := by
 rw [alw h.fresh]
 refine ⟨fun p hp => ?_, fun j' k' f' g' a b c d => ?_, by have := h.len; simp; omega⟩
 . rcases List.mem_append.mp hp with q | q
   . obtain ⟨j', k', f', g', e, a, b, c, d⟩ := h.keys p q
     exact ⟨j', k', f', g', e, a, b, c, by unfold Bef at *; omega⟩
   . have : p = (ky j k, .int (ent hs f g)) := by simpa using q
     exact ⟨j, k, f, g, this, hf, hg, n, by unfold Bef; omega⟩
 . by_cases q : j' = j /\ k' = k
   . obtain ⟨rfl, rfl⟩ := q
     rw [hf] at a; rw [hg] at b
     cases a; cases b
     exact ahn h.fresh
   . rw [ah5 (fun e => q (by have := ag4 e; omega))]
     exact h.look j' k' f' g' a b c (by unfold Bef at *; omega)
theorem Tb.next {hs : List F} {j : Nat} {kvs : List (List Kx × D)} (h : Tb hs j hs.length kvs) : Tb hs (j + 1) 0 kvs := by
 refine ⟨fun p hp => ?_, fun j' k' f' g' a b c d => ?_, by have := h.len; have e : (j + 1) * hs.length = j * hs.length + hs.length := Nat.succ_mul _ _; omega⟩
 . obtain ⟨j', k', f', g', e, a, b, c, d⟩ := h.keys p hp
   exact ⟨j', k', f', g', e, a, b, c, by unfold Bef at *; omega⟩
 . have := (List.getElem?_eq_some_iff.mp b).1
   exact h.look j' k' f' g' a b c (by unfold Bef at *; omega)
section
variable {W : Wld} {M : Store} {sz : Nat -> Nat}
theorem anv {f g : F} {hs : List F} {q j k : Nat} {a0 a1 a3 a4 a7 : Option D} (hz : Sz sz) (hf : Ok1 sz f) (hg : Ok1 sz g) (h : f.b = g.a) (hq : M[q]? = some (.lst (hs.map F.toD))) (hj : hs[j]? = some f) (hk : hs[k]? = some g) :
 c__law_pattern_2.den W [a0, a1, some (.ref q), a3, a4, some (.int j), some (.int k), a7] M = .ok (.vl ((f.comp g).r.map nD)) M := by
 have hsm : (f.r.map nD).length <= 100000 := by rw [List.length_map, hf.len]; have := hz f.a; omega
 unfold c__law_pattern_2
 rw [agx (ds := f.r.map nD) (M1 := M) (g := fun d => match d with | .int i => nD (g.r.getD i.toNat 0) | _ => .non) (by simp [qz hq hj, aki, ie]) hsm (fun x hx => by
  obtain ⟨y, hy, rfl⟩ := List.mem_map.mp hx
  have hy' : y < g.r.length := by rw [hg.len, <- h]; exact hf.ran y hy
  exact ⟨_, rfl, by simp [qz hq hk, aki, nD, alg M g.r hy']⟩)]
 simp [F.comp, nD]
theorem akt {f g : F} {hs : List F} {q r j k : Nat} {kvs : List (List Kx × D)} {a0 a1 a3 a7 : Option D} (hz : Sz sz) (hi : Inv sz hs) (hl : hs.length <= 5) (hq : M[q]? = some (.lst (hs.map F.toD))) (hr : M[r]? = some (.dT kvs)) (hj : hs[j]? = some f) (hk : hs[k]? = some g) (ht : Tb hs j k kvs) :
 ∃ (b7 : Option D) (M' : Store) (kvs' : List (List Kx × D)), t__law_pattern_1.den W [a0, a1, some (.ref q), a3, some (.ref r), some (.int j), some (.int k), a7] M = .ok (.next, [a0, a1, some (.ref q), a3, some (.ref r), some (.int j), some (.int k), b7]) M' /\
  M'[r]? = some (.dT kvs') /\ Tb hs j (k + 1) kvs' /\ Up r M M' := by
 have hjl := (List.getElem?_eq_some_iff.mp hj).1
 have hkl := (List.getElem?_eq_some_iff.mp hk).1
 have hf := hi.good f (List.mem_of_getElem? hj)
 have hg := hi.good g (List.mem_of_getElem? hk)
 by_cases h : f.b = g.a
 . have hc := anv (W := W) (M := M) (a0 := a0) (a1 := a1) (a3 := a3) (a4 := some (.ref r)) (a7 := a7) hz hf hg h hq hj hk
   have hmem := ajs M (f.comp g) hs
   have hkv : kvs.length < 100000 := by
    have := ht.len
    have : j * hs.length <= 5 * 5 := Nat.mul_le_mul (by omega) hl
    omega
   have st := agn (d := .int (ent hs f g)) (b := .tup [.int j, .int k]) hr rfl hkv
   refine ⟨some (f.comp g).toD, _, jq kvs (ky j k) (.int (ent hs f g)), ?_, gw (o := .dT (jq kvs (ky j k) (.int (ent hs f g)))) hr, ht.put hj hk h, Up.set _ _ _⟩
   by_cases m : f.comp g ∈ hs
   . have hix : qj .index (.ref q) [(f.comp g).toD] M = .ok (.int (pos (f.comp g) hs)) M := by simp [qj, ao4 (dz hq), axm, m]
     have hty : yz .index (.ref q) M = true := by simp [yz, dz hq]
     have he : ent hs f g = (pos (f.comp g) hs : Int) := if_pos m
     rw [he] at st
     simp [-eq_int, t__law_pattern_1, qz hq hj, qz hq hk, yo, yf, gm, h, hc, aeo, ahp, v9 hq, hmem, m, hty, hix, st, he, ky]
   . have he : ent hs f g = -1 := if_neg m
     rw [he] at st
     simp [-eq_int, t__law_pattern_1, qz hq hj, qz hq hk, yo, yf, gm, h, hc, aeo, ahp, v9 hq, hmem, m, st, he, ky]
 . refine ⟨a7, M, kvs, ?_, hr, ht.skip hj hk h, Up.refl r M⟩
   simp [-eq_int, t__law_pattern_1, qz hq hj, qz hq hk, yo, yf, gm, h]
theorem aty {hs : List F} {q r : Nat} {a0 a1 a3 a5 a6 a7 : Option D} (hz : Sz sz) (hi : Inv sz hs) (hl : hs.length <= 5) (hq : M[q]? = some (.lst (hs.map F.toD))) (hr : M[r]? = some (.dT [])) (hqr : q ≠ r) :
 ∃ (ρ' : Env) (M' : Store) (kvs : List (List Kx × D)), s__law_pattern_0.den W [a0, a1, some (.ref q), a3, some (.ref r), a5, a6, a7] M = .ok (.next, ρ') M' /\ ρ'[2]? = some (some (.ref q)) /\ ρ'[3]? = some a3 /\ ρ'[4]? = some (some (.ref r)) /\ ρ'.length = 8 /\
  M'[r]? = some (.dT kvs) /\ Tb hs hs.length 0 kvs /\ Up r M M' := by
 unfold s__law_pattern_0
 have hlen : ∀ (M' : Store), Up r M M' -> bx .len [.ref q] M' = .ok (.int hs.length) M' := fun M' u => n8 (by rw [u.oth q hqr]; exact hq)
 obtain ⟨ρ', M', e, b5, b6, b7, kvs, rfl, h1, h2, h3⟩ := qy (W := W) (t := .name 5) (b := mq) (it := .blt .len (.cons (.var 2) .nil)) (n := hs.length) (ρ := [a0, a1, some (.ref q), a3, some (.ref r), a5, a6, a7]) (M := M) (M1 := M) (by simp [n8 hq]) (by omega)
  (fun j ρ M' => ∃ (b5 b6 b7 : Option D) (kvs : List (List Kx × D)), ρ = [a0, a1, some (.ref q), a3, some (.ref r), b5, b6, b7] /\ M'[r]? = some (.dT kvs) /\ Tb hs j 0 kvs /\ Up r M M')
  ⟨a5, a6, a7, [], rfl, hr, ⟨fun p hp => by simp at hp, fun j' k' f g a b c d => by unfold Bef at d; omega, by simp⟩, Up.refl r M⟩
  (fun j ρ M1 hj hI => by
   obtain ⟨b5, b6, b7, kvs, rfl, g1, g2, g3⟩ := hI
   have hq1 : M1[q]? = some (.lst (hs.map F.toD)) := by rw [g3.oth q hqr]; exact hq
   obtain ⟨ρ2, M2, e2, c6, c7, kvs2, rfl, k1, k2, k3⟩ := qy (W := W) (t := .name 6) (b := t__law_pattern_1) (it := .blt .len (.cons (.var 2) .nil)) (n := hs.length) (ρ := [a0, a1, some (.ref q), a3, some (.ref r), some (.int j), b6, b7]) (M := M1) (M1 := M1) (by simp [n8 hq1]) (by omega)
    (fun k ρ M' => ∃ (b6 b7 : Option D) (kvs : List (List Kx × D)), ρ = [a0, a1, some (.ref q), a3, some (.ref r), some (.int j), b6, b7] /\ M'[r]? = some (.dT kvs) /\ Tb hs j k kvs /\ Up r M1 M')
    ⟨b6, b7, kvs, rfl, g1, g2, Up.refl r M1⟩
    (fun k ρ M2 hk hI => by
     obtain ⟨b6, b7, kvs, rfl, k1, k2, k3⟩ := hI
     have hq2 : M2[q]? = some (.lst (hs.map F.toD)) := by rw [k3.oth q hqr]; exact hq1
     obtain ⟨c7, M3, kvs3, e3, p3, t3, u3⟩ := akt (W := W) (M := M2) (a0 := a0) (a1 := a1) (a3 := a3) (a7 := b7) hz hi hl hq2 k1 (show hs[j]? = some hs[j] by simp [hj]) (show hs[k]? = some hs[k] by simp [hk]) k2
     exact ⟨_, .next, _, M3, rfl, e3, .inl rfl, _, c7, kvs3, rfl, p3, t3, k3.trans u3⟩)
   exact ⟨_, .next, _, M2, rfl, by simp [mq, wk, e2],   .inl rfl, some (.int j), c6, c7, kvs2, rfl, k1, k2.next, g3.trans k3⟩)
 exact ⟨_, M', kvs, e, rfl, rfl, rfl, rfl, h1, h2, h3⟩
end
structure Pat (sz : Nat -> Nat) (K : Nat) (hs : List F) (kvs : List (List Kx × D)) : Prop where
 hz : Sz sz
 inv : Inv sz hs
 cl : rz hs
 len : hs.length <= 5
 k1 : 1 <= K
 k3 : K <= 3
 enda : ∀ f ∈ hs, f.a < K
 endb : ∀ f ∈ hs, f.b < K
 tb : Tb hs hs.length 0 kvs
theorem ahc : ∀ (xs : List Nat) (a : Nat), ∃ v : Nat, (xs.map fun (x : Nat) => (x : Int)).foldl (fun m x => if m < x then x else m) (a : Int) = (v : Int) /\ a <= v /\ (∀ x ∈ xs, x <= v) /\ (v = a \/ v ∈ xs)
 | [], a => ⟨a, rfl, Nat.le_refl _, by simp, .inl rfl⟩
 | x :: xs, a => by
  obtain ⟨v, e, h1, h2, h3⟩ := ahc xs (if a < x then x else a)
  refine ⟨v, ?_, ?_, fun y hy => ?_, ?_⟩
  . rw [List.map_cons, List.foldl_cons, <- e]
    congr 1
    by_cases q : a < x
    . have : (a : Int) < (x : Int) := by omega
      simp [q]
    . have : ¬ (a : Int) < (x : Int) := by omega
      simp [q]
  . split at h1 <;> omega
  . rcases List.mem_cons.mp hy with q | q
    . subst q; split at h1 <;> omega
    . exact h2 y q
  . rcases h3 with q | q
    . by_cases w : a < x
      . right; rw [if_pos w] at q; subst q; simp
      . left; rw [if_neg w] at q; exact q
    . right; exact List.mem_cons_of_mem _ q
theorem ahj : ∀ xs : List Nat, inL (xs.map nD) = some (xs.map fun (x : Nat) => (x : Int))
 | [] => rfl
 | x :: xs => by simp [nD, inL, show inL (xs.map nD) = _ from ahj xs]
section
variable {W : Wld} {M : Store} {sz : Nat -> Nat}
theorem au7 {xs : List Nat} (h : xs ≠ []) : ∃ v : Nat, bx .max [.vl (xs.map nD)] M = .ok (.int v) M /\ (∀ x ∈ xs, x <= v) /\ v ∈ xs := by
 obtain ⟨a, r, rfl⟩ : ∃ a r, xs = a :: r := List.exists_cons_of_ne_nil h
 obtain ⟨v, e, h1, h2, h3⟩ := ahc r a
 refine ⟨v, ?_, fun x hx => ?_, ?_⟩
 . have := ahj (a :: r)
   simp only [bx, ar9, amr, Option.bind_some, this]
   simp only [List.map_cons, aos, Option.bind_some, Option.map_some, Res.p7, e]
 . rcases List.mem_cons.mp hx with q | q
   . subst q; exact h1
   . exact h2 x q
 . rcases h3 with q | q
   . rw [q]; simp
   . exact List.mem_cons_of_mem _ q
theorem max2 (a b : Nat) : bx .max [.int a, .int b] M = .ok (nD (max a b)) M := by
 by_cases h : a < b
 . have h' : (a : Int) < b := by omega
   have e : max a b = b := by omega
   simp [bx, h, nD, e]
 . have h' : ¬ (a : Int) < b := by omega
   have e : max a b = a := by omega
   simp [bx, h, nD, e]
noncomputable def toF : D -> F
 | .tup [.int a, .int b, .tup r] => ⟨a.toNat, b.toNat, r.map fun d => match d with | .int i => i.toNat | _ => 0⟩
 | _ => ⟨0, 0, []⟩
theorem ab7 (f : F) : toF f.toD = f := by
 obtain ⟨a, b, r⟩ := f
 simp only [F.toD, ie, toF, List.map_map, Int.toNat_natCast, F.mk.injEq, true_and]
 conv => rhs; rw [<- List.map_id r]
 exact List.map_congr_left fun x _ => by simp [nD]
theorem apk {hs : List F} {q : Nat} {a0 a1 a3 a4 a5 a6 a7 : Option D} (hl : hs.length <= 100000) (hq : M[q]? = some (.lst (hs.map F.toD))) :
 c__law_pattern_3.den W [a0, a1, some (.ref q), a3, a4, a5, a6, a7] M = .ok (.vl ((hs.map fun f => max f.a f.b).map nD)) M := by
 unfold c__law_pattern_3
 rw [abg (d := .ref q) (ds := hs.map F.toD) (M1 := M) (g := fun d => nD (max (toF d).a (toF d).b)) (by simp) (dz hq) (by simpa using hl) (fun x hx => by
  obtain ⟨f, hf, rfl⟩ := List.mem_map.mp hx
  exact ⟨_, akq _ _ _ _ _, by simp [max2, ab7]⟩)]
 simp [ab7]
theorem al1 {hs : List F} {q : Nat} {ρ : Env} (hρ : ρ[2]? = some (some (.ref q))) (hρl : ρ.length = 8) (hl : hs.length <= 100000) (hq : M[q]? = some (.lst (hs.map F.toD))) :
 c__law_pattern_1.den W ρ M = .ok (.vl (hs.map eD)) M := by
 unfold c__law_pattern_1
 rw [abg (d := .ref q) (ds := hs.map F.toD) (M1 := M) (g := fun d => eD (toF d)) (by simp [hρ]) (dz hq) (by simpa using hl) (fun x hx => by
  obtain ⟨f, hf, rfl⟩ := List.mem_map.mp hx
  refine ⟨_, akq _ _ _ _ _, ?_⟩
  rw [ab7]
  simp [eD, List.getElem?_set, hρl])]
 simp [ab7]
theorem alb {m t : Nat} {f : Bool} {d : D} {fs hs : List F} {q : Nat} {a3 a4 a5 a6 a7 : Option D} (hm : 1 <= m) (hz : Sz sz) (hs0 : Has t f M) (hg : Good sz fs) (hl : fs.length <= 3) (hd : asList M d = some (fs.map F.toD))
 (hq : M[q]? = some (.lst (hs.map F.toD))) (hqt : q ≠ t) (hi : Inv sz hs) (hhl : hs.length <= 15) (hc : hs.length < 6 -> rz hs) (h0 : fs = [] -> hs = []) :
 ∃ (ρ' : Env) (M' : Store), s__law_pattern_2.den ⟨prog.call m, prog.cls⟩ [some (.ref t), some d, some (.ref q), a3, a4, a5, a6, a7] M = .ok (.next, ρ') M' /\ ∃ (d' : D) (q' : Nat) (hs' : List F), ρ' = [some (.ref t), some d', some (.ref q'), a3, a4, a5, a6, a7] /\
  M'[q']? = some (.lst (hs'.map F.toD)) /\ q' ≠ t /\ Inv sz hs' /\ hs'.length <= 5 /\ rz hs' /\ Keep M M' := by
 unfold s__law_pattern_2
 rw [agq]
 refine abk (fun n ρ M' => ∃ (d : D) (fs hs : List F) (q : Nat), ρ = [some (.ref t), some d, some (.ref q), a3, a4, a5, a6, a7] /\ fs.length = n /\ Good sz fs /\ fs.length <= 3 /\ asList M' d = some (fs.map F.toD) /\ M'[q]? = some (.lst (hs.map F.toD)) /\ q ≠ t /\
  Inv sz hs /\ hs.length <= 15 /\ (hs.length < 6 -> rz hs) /\ (fs = [] -> hs = []) /\ Keep M M')
  (fun ρ' M' => ∃ (d' : D) (q' : Nat) (hs' : List F), ρ' = [some (.ref t), some d', some (.ref q'), a3, a4, a5, a6, a7] /\ M'[q']? = some (.lst (hs'.map F.toD)) /\ q' ≠ t /\ Inv sz hs' /\ hs'.length <= 5 /\ rz hs' /\ Keep M M') ?_ ae6 fs.length _ M (by unfold ae6; omega)
  ⟨d, fs, hs, q, rfl, rfl, hg, hl, hd, hq, hqt, hi, hhl, hc, h0, Keep.refl M⟩
 intro n ρ M1 hI
 obtain ⟨d, fs, hs, q, rfl, rfl, g1, g2, g3, g4, g5, g6, g7, g8, g9, g10⟩ := hI
 by_cases c : 5 < hs.length
 . right
   have c' : (5 : Int) < (hs.length : Int) := by omega
   have hne : fs ≠ [] := fun e => by rw [g9 e] at c; simp at c
   have hpos : 1 <= fs.length := List.length_pos_iff.mpr hne
   have hcut : cutOp d none (some (-1)) M1 = some (.vl (fs.dropLast.map F.toD)) := by
    have hcl : aa8 (fs.map F.toD) none (some (-1)) = fs.dropLast.map F.toD := by
     have e2 : ((-1 : Int) + (fs.length : Int)).toNat = fs.length - 1 := by omega
     simp [aa8, clip, e2, List.map_dropLast, List.dropLast_eq_take]
    cases d with
    | tup ds => simp [asList] at g3
    | vl ds => simp only [cutOp, g3, Option.map_some, hcl]
    | ref n => simp only [cutOp, g3, Option.map_some, hcl]
    | _ => simp [asList] at g3
   have gd : Good sz fs.dropLast := fun f hf => g1 f (List.dropLast_subset fs hf)
   obtain ⟨hs', M2, e, p2, k2, l2, i2, b2, c2, z2⟩ := afv (M := M1) (m := m) (d := .vl (fs.dropLast.map F.toD)) hm hz gd (by simp; omega) rfl
   have ht1 : t < M1.length := by
    obtain ⟨n, h, _⟩ := hs0
    exact fj (g10 t _ h)
   refine ⟨M1, .next, _, M2, fs.length - 1, ?_, ?_, .inl rfl, by omega, .vl (fs.dropLast.map F.toD), fs.dropLast, hs', M1.length, rfl, by simp, gd, by simp; omega, rfl, p2, by omega, i2, b2, c2, z2, g10.trans k2⟩
   . simp [n8 g4, c']
   . simp [-List.map_dropLast, w5, hcut, e]
 . left
   have c' : ¬ (5 : Int) < (hs.length : Int) := by omega
   exact ⟨M1, by simp [n8 g4, c'], d, q, hs, rfl, g4, g5, g6, by omega, g8 (by omega), g10⟩
theorem adl {m t : Nat} {f : Bool} (hm : 3 <= m) (hs0 : Has t f M) : ∃ (K r : Nat) (sz : Nat -> Nat) (hs : List F) (kvs : List (List Kx × D)) (M' : Store), prog.call m 17 [.ref t] M = .ok (.tup [.int K, dsD hs, .ref r]) M' /\ M'[r]? = some (.dT kvs) /\ M.length <= r /\ Pat sz K hs kvs /\ St t f M M' := by
 rw [call_of (by omega) rfl]
 have ht0 : t < M.length := by obtain ⟨n, h, _⟩ := hs0; exact fj h
 obtain ⟨d, M1, fs, sz, e1, d1, n1, hz, g1, l1, s1⟩ := anq (m := m - 1) (by omega) hs0
 obtain ⟨hs, M2, e2, p2, k2, ll2, i2, b2, c2, z2⟩ := afv (M := M1) (m := m - 1) (d := d) (by omega) hz g1 l1 d1
 have ht1 : t < M1.length := by obtain ⟨n, h, _⟩ := s1.has; exact fj h
 have s2 : St t f M1 M2 := St.of s1.has k2
 obtain ⟨ρ3, M3, e3, d', q, hs', rfl, p3, q3, i3, l3, c3, k3⟩ := alb (M := M2) (m := m - 1) (t := t) (f := f) (d := d) (fs := fs) (hs := hs) (q := M1.length) (a3 := none) (a4 := none) (a5 := none) (a6 := none) (a7 := none) (by omega) hz s2.has g1 l1 (k2.asList d1) p2 (by omega) i2 b2 c2 z2
 have s3 : St t f M2 M3 := St.of s2.has k3
 have s03 := s1.trans (s2.trans s3)
 have hcomp := apk (W := ⟨prog.call (m - 1), prog.cls⟩) (M := M3) (a0 := some (.ref t)) (a1 := some d') (a3 := none) (a4 := none) (a5 := none) (a6 := none) (a7 := none) (by omega : hs'.length <= 100000) p3
 obtain ⟨v, ev, hv1, hv2⟩ := au7 (M := M3) (xs := (hs'.map fun f : F => max f.a f.b) ++ [0]) (by simp)
 have hadd : iz .add (.vl ((hs'.map fun f : F => max f.a f.b).map nD)) (.vl [.int 0]) M3 = .ok (.vl (((hs'.map fun f : F => max f.a f.b) ++ [0]).map nD)) M3 := by
  rw [afw _ _ (by simp; omega)]; simp [nD]
 generalize hX : (D.vl ((hs'.map fun f : F => max f.a f.b).map nD)) = X at hcomp hadd
 generalize hY : (D.vl (((hs'.map fun f : F => max f.a f.b) ++ [0]).map nD)) = Y at ev hadd
 have hv3 : v <= 2 := by
  rcases List.mem_append.mp hv2 with w | w
  . obtain ⟨x, hx, rfl⟩ := List.mem_map.mp w
    have := (i3.good x hx).a; have := (i3.good x hx).b; omega
  . simp at w; omega
 have heq : dw M3 (.ref q) (.vl []) = some (decide (hs' = [])) := by
  have hdc : yl M3 (.ref q) = false := by simp [yl, p3]
  simp only [dw, hdc]
  cases hs' with
  | nil => simp [eqD, asList, p3, eqL]
  | cons a l => simp [eqD, asList, p3]
 obtain ⟨K, M4, hK, k1, k3', ka, kb, p4, s4, l4⟩ : ∃ (K : Nat) (M4 : Store),
  (Stm.iff (.cmp .eq (.var 2) (.vlst .nil)) (.cons (.asg (.tg (.name 3)) (.bin .add (.cst (.int 1)) (.call 14 (.cons (.var 0) (.cons (.cst (.int 3)) .nil))))) .nil) .nil).den ⟨prog.call (m - 1), prog.cls⟩ [some (.ref t), some d', some (.ref q), some (.int (1 + (v : Int))), none, none, none, none] M3
   = .ok (.next, [some (.ref t), some d', some (.ref q), some (.int K), none, none, none, none]) M4 /\ 1 <= K /\ K <= 3 /\ (∀ f ∈ hs', f.a < K) /\ (∀ f ∈ hs', f.b < K) /\ M4[q]? = some (.lst (hs'.map F.toD)) /\ St t f M3 M4 /\ M4.length = M3.length := by
  by_cases he : hs' = []
  . obtain ⟨w, M4, ew, lw, sw, llw⟩ := my (m := m - 1) (by omega) s3.has (many := 3) (by decide) (by decide)
    refine ⟨1 + w, M4, ?_, by omega, by omega, by simp [he], by simp [he], sw.keep q _ q3 p3, sw, llw⟩
    simp [heq, he, ew]
  . refine ⟨1 + v, M3, ?_, by omega, by omega, fun x hx => ?_, fun x hx => ?_, p3, St.of s3.has (Keep.refl _), rfl⟩
    . simp [heq, he]
    . have := hv1 (max x.a x.b) (List.mem_append_left _ (List.mem_map.mpr ⟨x, hx, rfl⟩)); omega
    . have := hv1 (max x.a x.b) (List.mem_append_left _ (List.mem_map.mpr ⟨x, hx, rfl⟩)); omega
 have p5 : (M4 ++ [.dT []])[q]? = some (.lst (hs'.map F.toD)) := dj p4
 have hql := fj p4
 obtain ⟨ρ6, M6, kvs, e6, r2, r3, r4, r8, p6, t6, u6⟩ := aty (W := ⟨prog.call (m - 1), prog.cls⟩) (M := M4 ++ [.dT []]) (q := q) (r := M4.length) (a0 := some (.ref t)) (a1 := some d') (a3 := some (.int K)) (a5 := none) (a6 := none) (a7 := none) hz i3 l3 p5 (by simp) (by omega)
 have p6q : M6[q]? = some (.lst (hs'.map F.toD)) := by rw [u6.oth q (by omega)]; exact p5
 have hc1 := al1 (W := ⟨prog.call (m - 1), prog.cls⟩) (M := M6) r2 r8 (by omega : hs'.length <= 100000) p6q
 have s04 := s03.trans s4
 refine ⟨K, M4.length, sz, hs', kvs, M6, ?_, p6, s04.len, ⟨hz, i3, c3, l3, k1, k3', ka, kb, t6⟩, ?_⟩
 . simp only [Fn.run, aae, aah]
   simp [-ayi, e1, e2, e3, hcomp, hadd, ev, hK, MW.new, e6, r3, r4, hc1, alr, dsD]
 . refine s04.trans ⟨?_, ?_, fun a o na h => ?_⟩
   . rw [u6.len]; simp
   . obtain ⟨n, h, o⟩ := s4.has
     exact ⟨n, by rw [u6.oth t (by have := fj h; omega)]; exact dj h, o⟩
   . rw [u6.oth a (by have := fj h; omega)]; exact dj h
end
noncomputable def pD (p : Nat × Nat) : D := .tup [.int p.1, .int p.2]
noncomputable def Meet (hs : List F) (j k : Nat) : Prop := ∃ f g, hs[j]? = some f /\ hs[k]? = some g /\ f.b = g.a
structure Ps (hs : List F) (j k : Nat) (ps : List (Nat × Nat)) : Prop where
 all : ∀ p : Nat × Nat, p ∈ ps ↔ Meet hs p.1 p.2 /\ Bef j k p.1 p.2
 len : ps.length <= j * hs.length + k
theorem Ps.skip {hs : List F} {j k : Nat} {ps : List (Nat × Nat)} (h : Ps hs j k ps) {f g : F} (hf : hs[j]? = some f) (hg : hs[k]? = some g) (n : f.b ≠ g.a) : Ps hs j (k + 1) ps := by
 refine ⟨fun p => ?_, by have := h.len; omega⟩
 rw [h.all p]
 constructor
 . exact fun q => ⟨q.1, by have := q.2; unfold Bef at *; omega⟩
 . intro q
   refine ⟨q.1, ?_⟩
   have hb := q.2
   by_cases e : p.1 = j /\ p.2 = k
   . obtain ⟨f', g', a, b, c⟩ := q.1
     rw [e.1, hf] at a; rw [e.2, hg] at b
     cases a; cases b
     exact absurd c n
   . unfold Bef at *; omega
theorem Ps.put {hs : List F} {j k : Nat} {ps : List (Nat × Nat)} (h : Ps hs j k ps) {f g : F} (hf : hs[j]? = some f) (hg : hs[k]? = some g) (n : f.b = g.a) : Ps hs j (k + 1) (ps ++ [(j, k)]) := by
 refine ⟨fun p => ?_, by have := h.len; simp; omega⟩
 rw [List.mem_append, h.all p, List.mem_singleton]
 constructor
 . rintro (q | q)
   . exact ⟨q.1, by have := q.2; unfold Bef at *; omega⟩
   . subst q; exact ⟨⟨f, g, hf, hg, n⟩, by unfold Bef; omega⟩
 . intro q
   by_cases e : p.1 = j /\ p.2 = k
   . right; exact Prod.ext e.1 e.2
   . left; exact ⟨q.1, by have := q.2; unfold Bef at *; omega⟩
theorem Ps.next {hs : List F} {j : Nat} {ps : List (Nat × Nat)} (h : Ps hs j hs.length ps) : Ps hs (j + 1) 0 ps := by
 refine ⟨fun p => ?_, by have := h.len; have e : (j + 1) * hs.length = j * hs.length + hs.length := Nat.succ_mul _ _; omega⟩
 rw [h.all p]
 constructor
 . exact fun q => ⟨q.1, by have := q.2; unfold Bef at *; omega⟩
 . intro q
   refine ⟨q.1, ?_⟩
   obtain ⟨f, g, a, b, c⟩ := q.1
   have := (List.getElem?_eq_some_iff.mp b).1
   have := q.2
   unfold Bef at *; omega
theorem ab6 (f : F) (M : Store) : dg (eD f) (.int 0) M = some (.int f.a) := rfl
theorem ab8 (f : F) (M : Store) : dg (eD f) (.int 1) M = some (.int f.b) := rfl
theorem ace {hs : List F} {M : Store} {i : Nat} {f : F} (h : hs[i]? = some f) : dg (dsD hs) (.int i) M = some (eD f) := vo (by omega) (by simp [h])
theorem aej {hs : List F} {M : Store} : bx .len [dsD hs] M = .ok (.int hs.length) M := by simp [bx, cu, dsD]
theorem vm (x y : D) (i j : Nat) (ρ : Env) : (Tg.names [i, j]).put (.tup [x, y]) ρ = some ((ρ.set i (some x)).set j (some y)) := rfl
section
variable {W : Wld} {M : Store} {sz : Nat -> Nat}
theorem aie {f g : F} {hs : List F} {q j k : Nat} {ps : List (Nat × Nat)} {a0 : Option D} (hl : hs.length <= 5) (hq : M[q]? = some (.lst (ps.map pD))) (hj : hs[j]? = some f) (hk : hs[k]? = some g) (hp : Ps hs j k ps) :
 ∃ (M' : Store) (ps' : List (Nat × Nat)), t_meeting_pairs_1.den W [a0, some (.ref q), some (.int j), some (eD f), some (.int k), some (eD g)] M = .ok (.next, [a0, some (.ref q), some (.int j), some (eD f), some (.int k), some (eD g)]) M' /\
  M'[q]? = some (.lst (ps'.map pD)) /\ Ps hs j (k + 1) ps' /\ Up q M M' := by
 have hjl := (List.getElem?_eq_some_iff.mp hj).1
 have hkl := (List.getElem?_eq_some_iff.mp hk).1
 by_cases h : f.b = g.a
 . have hpl : (ps.map pD).length < 100000 := by
    have := hp.len
    have : j * hs.length <= 5 * 5 := Nat.mul_le_mul (by omega) hl
    rw [List.length_map]; omega
   have ap := aad (d := .tup [.int j, .int k]) hq hpl
   refine ⟨M.set q (.lst ((ps ++ [(j, k)]).map pD)), ps ++ [(j, k)], ?_, gw hq, hp.put hj hk h, Up.set _ _ _⟩
   simp [-eq_int, t_meeting_pairs_1, ab6, ab8, gm, h, xj hq, ap, pD]
 . refine ⟨M, ps, ?_, hq, hp.skip hj hk h, Up.refl q M⟩
   simp [-eq_int, t_meeting_pairs_1, ab6, ab8, gm, h]
theorem ahe {m : Nat} {hs : List F} (hm : 1 <= m) (hl : hs.length <= 5) :
 ∃ (M' : Store) (ps : List (Nat × Nat)), prog.call m 7 [dsD hs] M = .ok (.ref M.length) M' /\ M'[M.length]? = some (.lst (ps.map pD)) /\ Ps hs hs.length 0 ps /\ Up M.length (M ++ [.lst []]) M' := by
 rw [call_of hm rfl]
 obtain ⟨ρ', M', e, b2, b3, b4, b5, ps, rfl, h1, h2, h3⟩ := acv (W := ⟨prog.call (m - 1), prog.cls⟩) (t := .names [2, 3]) (b := j0) (it := .var 0) (ds := hs.map eD) (ρ := [some (dsD hs), some (.ref M.length), none, none, none, none]) (M := M ++ [.lst []]) (M1 := M ++ [.lst []]) (by simp [dsD])
  (fun j ρ M' => ∃ (b2 b3 b4 b5 : Option D) (ps : List (Nat × Nat)), ρ = [some (dsD hs), some (.ref M.length), b2, b3, b4, b5] /\ M'[M.length]? = some (.lst (ps.map pD)) /\ Ps hs j 0 ps /\ Up M.length (M ++ [.lst []]) M')
  ⟨none, none, none, none, [], rfl, by simp, ⟨fun p => by simp [Bef], by simp⟩, Up.refl _ _⟩
  (fun j x ρ M1 hj hI => by
   obtain ⟨b2, b3, b4, b5, ps, rfl, g1, g2, g3⟩ := hI
   obtain ⟨f, hf, rfl⟩ : ∃ f, hs[j]? = some f /\ eD f = x := by simpa using hj
   obtain ⟨ρ2, M2, e2, c4, c5, ps2, rfl, k1, k2, k3⟩ := acv (W := ⟨prog.call (m - 1), prog.cls⟩) (t := .names [4, 5]) (b := t_meeting_pairs_1) (it := .var 0) (ds := hs.map eD) (ρ := [some (dsD hs), some (.ref M.length), some (.int j), some (eD f), b4, b5]) (M := M1) (M1 := M1) (by simp [dsD])
    (fun k ρ M' => ∃ (b4 b5 : Option D) (ps : List (Nat × Nat)), ρ = [some (dsD hs), some (.ref M.length), some (.int j), some (eD f), b4, b5] /\ M'[M.length]? = some (.lst (ps.map pD)) /\ Ps hs j k ps /\ Up M.length M1 M')
    ⟨b4, b5, ps, rfl, g1, g2, Up.refl _ _⟩
    (fun k y ρ M2 hk hI => by
     obtain ⟨b4, b5, ps, rfl, k1, k2, k3⟩ := hI
     obtain ⟨g, hg, rfl⟩ : ∃ g, hs[k]? = some g /\ eD g = y := by simpa using hk
     obtain ⟨M3, ps3, e3, p3, t3, u3⟩ := aie (W := ⟨prog.call (m - 1), prog.cls⟩) (M := M2) (a0 := some (dsD hs)) hl k1 hf hg k2
     exact ⟨_, .next, _, M3, vm _ _ _ _ _, e3, .inl rfl, some (.int k), some (eD g), ps3, rfl, p3, t3, k3.trans u3⟩)
   rw [List.length_map] at k2
   exact ⟨_, .next, _, M2, vm _ _ _ _ _, by simp [j0, um, e2], .inl rfl, some (.int j), some (eD f), c4, c5, ps2, rfl, k1, k2.next, g3.trans k3⟩)
 rw [List.length_map] at h2
 refine ⟨M', ps, ?_, h1, h2, h3⟩
 simp [Fn.run, yd, yj, MW.new, uo, e]
noncomputable def bothW (hs : List F) (kvs : List (List Kx × D)) (x y : Int) : Option D := if x = -1 then some (.int y) else if y = -1 then some (.int x) else dq kvs [.inl x, .inl y]
theorem afg {m r : Nat} {hs : List F} {kvs : List (List Kx × D)} {x y : Int} {v : D} (hm : 1 <= m) (hr : M[r]? = some (.dT kvs)) (h : bothW hs kvs x y = some v) : prog.call m 6 [.ref r, .int x, .int y] M = .ok v M := by
 rw [call_of hm rfl]
 unfold bothW at h
 by_cases hx : x = -1
 . rw [if_pos hx] at h; cases h
   simp [Fn.run, q9, qx, hx]
 . rw [if_neg hx] at h
   by_cases hy : y = -1
   . rw [if_pos hy] at h; cases h
     simp [Fn.run, q9, qx, hx, hy]
   . rw [if_neg hy] at h
     simp [Fn.run, q9, qx, hx, hy, ad9 hr (aa2 x y), h]
end
noncomputable def afe (hs : List F) (c : F) : Int := if c ∈ hs then (pos c hs : Int) else -1
theorem aab (hs : List F) (f g : F) : ent hs f g = afe hs (f.comp g) := rfl
theorem aix {hs : List F} (nd : hs.Nodup) {i : Nat} {f : F} (h : hs[i]? = some f) : afe hs f = i := by
 have m : f ∈ hs := List.mem_of_getElem? h
 rw [afe, if_pos m, ahw nd h]
theorem abx : ∀ k : List Kx, qt (agm k) = some k := by
 intro k
 show aao (k.map ag7) = some k
 induction k with
 | nil => rfl
 | cons a l ih => cases a <;> simp [aao, ag7, za, ih]
theorem ah1 : ∀ kvs : List (List Kx × D), jc (kvs.map fun p => agm p.1) = some (kvs.map (·.1))
 | [] => rfl
 | p :: l => by simp [jc, abx, ah1 l]
theorem agj : ∀ ps : List (Nat × Nat), jc (ps.map pD) = some (ps.map fun p => ky p.1 p.2)
 | [] => rfl
 | p :: l => by simp [jc, pD, agj l, ky]
theorem anr {kvs : List (List Kx × D)} {q : List Kx} {v : D} (h : dq kvs q = some v) : ∃ p ∈ kvs, p.1 = q := by
 unfold dq at h
 cases e : kvs.find? (fun p => decide (p.1 = q)) with
 | none => rw [e] at h; cases h
 | some p => exact ⟨p, List.mem_of_find?_eq_some e, by simpa using List.find?_some e⟩
section
variable {sz : Nat -> Nat} {K : Nat} {hs : List F} {kvs : List (List Kx × D)} (P : Pat sz K hs kvs)
include P
theorem Pat.look {j k : Nat} {f g : F} (hj : hs[j]? = some f) (hk : hs[k]? = some g) (h : f.b = g.a) : dq kvs (ky j k) = some (.int (ent hs f g)) :=
 P.tb.look j k f g hj hk h (.inl (List.getElem?_eq_some_iff.mp hj).1)
theorem Pat.no {j k : Nat} (h : ¬ Meet hs j k) : dq kvs (ky j k) = none := by
 apply amm
 intro p hp e
 obtain ⟨j', k', f, g, rfl, a, b, c, _⟩ := P.tb.keys p hp
 obtain ⟨rfl, rfl⟩ := ag4 e
 exact h ⟨f, g, a, b, c⟩
theorem Pat.kl : kvs.length <= 25 := by
 have := P.tb.len
 have : hs.length * hs.length <= 5 * 5 := Nat.mul_le_mul P.len P.len
 omega
theorem Pat.plain : jh (kvs.map (·.1)) = true := by
 have := P.kl
 simp only [jh, List.length_map, Bool.and_eq_true, decide_eq_true_eq]
 refine ⟨by omega, ?_⟩
 rw [List.all_eq_true]
 intro k hk
 obtain ⟨p, hp, rfl⟩ := List.mem_map.mp hk
 obtain ⟨j, k, f, g, rfl, _⟩ := P.tb.keys p hp
 simp [ky]
theorem Pat.sm : adg kvs = true := by
 unfold adg
 rw [List.all_eq_true]
 intro p hp
 obtain ⟨j, k, f, g, rfl, a, b, _⟩ := P.tb.keys p hp
 have := (List.getElem?_eq_some_iff.mp a).1
 have := (List.getElem?_eq_some_iff.mp b).1
 have := P.len
 simp [ky]
 omega
theorem Pat.same {ps : List (Nat × Nat)} (h : Ps hs hs.length 0 ps) : m8 (kvs.map (·.1)) (ps.map fun p => ky p.1 p.2) = true := by
 unfold m8
 rw [Bool.and_eq_true, List.all_eq_true, List.all_eq_true]
 constructor
 . intro x hx
   obtain ⟨p, hp, rfl⟩ := List.mem_map.mp hx
   obtain ⟨j, k, f, g, rfl, a, b, c, d⟩ := P.tb.keys p hp
   rw [List.any_eq_true]
   exact ⟨ky j k, List.mem_map.mpr ⟨(j, k), (h.all (j, k)).mpr ⟨⟨f, g, a, b, c⟩, d⟩, rfl⟩, by simp⟩
 . intro y hy
   obtain ⟨p, hp, rfl⟩ := List.mem_map.mp hy
   obtain ⟨⟨f, g, a, b, c⟩, d⟩ := (h.all p).mp hp
   obtain ⟨q, hq, e⟩ := anr (P.look a b c)
   rw [List.any_eq_true]
   exact ⟨q.1, List.mem_map.mpr ⟨q, hq, rfl⟩, by simp [e]⟩
theorem Pat.entc_cases {c : F} (h : c ∈ hs \/ c.isId) : (afe hs c = -1 /\ c.isId) \/ ∃ i : Nat, hs[i]? = some c /\ afe hs c = i := by
 by_cases m : c ∈ hs
 . exact .inr ⟨pos c hs, ae8 c m, if_pos m⟩
 . exact .inl ⟨if_neg m, h.resolve_left m⟩
theorem Pat.threes {j k l : Nat} {f g h : F} (hj : hs[j]? = some f) (hk : hs[k]? = some g) (hl : hs[l]? = some h) (e1 : f.b = g.a) (e2 : g.b = h.a) :
 ∃ v : Int, bothW hs kvs (ent hs f g) l = some (.int v) /\ bothW hs kvs j (ent hs g h) = some (.int v) := by
 have mf := List.mem_of_getElem? hj
 have mg := List.mem_of_getElem? hk
 have mh := List.mem_of_getElem? hl
 have of := P.inv.good f mf
 have og := P.inv.good g mg
 have oh := P.inv.good h mh
 have as := akl (h := h) of og e1
 rw [aab, aab]
 have nj : ¬ ((j : Int) = -1) := by omega
 have nl : ¬ ((l : Int) = -1) := by omega
 rcases P.entc_cases (P.cl f mf g mg e1) with ⟨x1, i1⟩ | ⟨u, hu, x1⟩
 . have c1 := ael (of.comp og e1) i1
   have ha : f.a = g.b := i1.1
   have left : (f.comp g).comp h = h := by
    rw [c1]
    show (idF sz f.a).comp h = h
    rw [ha, e2]; exact atc oh
   rcases P.entc_cases (P.cl g mg h mh e2) with ⟨x2, i2⟩ | ⟨w, hw, x2⟩
   . have c2 := ael (og.comp oh e2) i2
     have right : f.comp (g.comp h) = f := by
      rw [c2]
      show f.comp (idF sz g.a) = f
      rw [<- e1]; exact ai6 of
     have fh : f = h := by rw [<- right, <- as, left]
     have jl : j = l := by rw [<- ahw P.inv.nd hj, <- ahw P.inv.nd hl, fh]
     refine ⟨l, by simp [bothW, x1], ?_⟩
     rw [x2, bothW, if_neg nj, if_pos rfl, jl]
   . have nw : ¬ ((w : Int) = -1) := by omega
     refine ⟨l, by simp [bothW, x1], ?_⟩
     rw [x2, bothW, if_neg nj, if_neg nw]
     have := P.look hj hw (show f.b = (g.comp h).a from e1)
     rw [aab, <- as, left, aix P.inv.nd hl] at this
     exact this
 . have nu : ¬ ((u : Int) = -1) := by omega
   have lu := P.look hu hl (show (f.comp g).b = h.a from e2)
   rcases P.entc_cases (P.cl g mg h mh e2) with ⟨x2, i2⟩ | ⟨w, hw, x2⟩
   . have c2 := ael (og.comp oh e2) i2
     have right : f.comp (g.comp h) = f := by
      rw [c2]
      show f.comp (idF sz g.a) = f
      rw [<- e1]; exact ai6 of
     refine ⟨j, ?_, ?_⟩
     . rw [x1, bothW, if_neg nu, if_neg nl]
       rw [aab, as, right, aix P.inv.nd hj] at lu
       exact lu
     . rw [x2, bothW, if_neg nj, if_pos rfl]
   . have nw : ¬ ((w : Int) = -1) := by omega
     refine ⟨afe hs ((f.comp g).comp h), ?_, ?_⟩
     . rw [x1, bothW, if_neg nu, if_neg nl]; exact lu
     . rw [x2, bothW, if_neg nj, if_neg nw]
       have := P.look hj hw (show f.b = (g.comp h).a from e1)
       rw [aab, <- as] at this
       exact this
end
section
variable {W : Wld} {M : Store} {sz : Nat -> Nat} {K : Nat} {hs : List F} {kvs : List (List Kx × D)}
theorem art {m : Nat} (hm : 1 <= m) (P : Pat sz K hs kvs) : prog.call m 9 [.int K, dsD hs] M = .ok .non M := by
 rw [call_of hm rfl]
 obtain ⟨ρ', M', e, ⟨b2, rfl⟩, rfl⟩ := aia (W := ⟨prog.call (m - 1), prog.cls⟩) (t := .name 2) (b := kj) (it := .var 1) (ds := hs.map eD) (ρ := [some (.int K), some (dsD hs), none]) (M := M) (M1 := M) (by simp [dsD])
  (fun j ρ M' => (∃ b2 : Option D, ρ = [some (.int K), some (dsD hs), b2]) /\ M' = M) ⟨⟨none, rfl⟩, rfl⟩
  (fun j x ρ M1 hj hI => by
   obtain ⟨⟨b2, rfl⟩, rfl⟩ := hI
   obtain ⟨f, hf, rfl⟩ : ∃ f, hs[j]? = some f /\ eD f = x := by simpa using hj
   have mf := List.mem_of_getElem? hf
   have h1 := P.enda f mf
   have h2 := P.endb f mf
   refine ⟨_, .next, _, M1, rfl, ?_, .inl rfl, ⟨some (eD f), rfl⟩, rfl⟩
   have h1' : (f.a : Int) < K := by omega
   have h2' : (f.b : Int) < K := by omega
   have z1 : (0 : Int) <= (f.a : Int) := by omega
   have z2 : (0 : Int) <= (f.b : Int) := by omega
   simp [kj, ab6, ab8, h1, h2, h1', h2', z1, z2])
 have k1 : (1 : Int) <= K := by have := P.k1; omega
 have k3 : (K : Int) <= 3 := by have := P.k3; omega
 have l5 : ¬ (5 : Int) < (hs.length : Int) := by have := P.len; omega
 simp [Fn.run, aak, zx, k1, k3, aej, l5, wg, e]
theorem atr {m : Nat} {j k : Nat} {f g : F} (hm : 1 <= m) (P : Pat sz K hs kvs) (hj : hs[j]? = some f) (hk : hs[k]? = some g) (h : f.b = g.a) : prog.call m 8 [dsD hs, .int (ent hs f g), .int f.a, .int g.b] M = .ok (.bl true) M := by
 rw [call_of hm rfl, aab]
 have mf := List.mem_of_getElem? hj
 have mg := List.mem_of_getElem? hk
 rcases P.entc_cases (P.cl f mf g mg h) with ⟨x1, i1⟩ | ⟨u, hu, x1⟩
 . have ha : f.a = g.b := i1.1
   simp [Fn.run, lg, mj, x1, ha]
 . have hul := (List.getElem?_eq_some_iff.mp hu).1
   have nu : ¬ ((u : Int) = -1) := by omega
   have z : (0 : Int) <= (u : Int) := by omega
   have hul' : (u : Int) < (hs.length : Int) := by omega
   have e : dw M (eD (f.comp g)) (.tup [.int f.a, .int g.b]) = some true := by
    show eqL (eqD M 5) [.int f.a, .int g.b] [.int f.a, .int g.b] = some true
    rw [iy (qe M 4 _ _) (iy (qe M 4 _ _) (show eqL (eqD M 5) [] [] = some true from rfl))]
    simp
   simp [Fn.run, lg, mj, x1, nu, z, hul, hul', aej, ace hu, e]
theorem arv {m r : Nat} (hm : 2 <= m) (P : Pat sz K hs kvs) (hr : M[r]? = some (.dT kvs)) : ∃ M', prog.call m 10 [dsD hs, .ref r] M = .ok .non M' /\ Keep M M' /\ M'.length = M.length + 1 := by
 rw [call_of (by omega) rfl]
 obtain ⟨M1, ps, e1, p1, t1, u1⟩ := ahe (M := M) (m := m - 1) (hs := hs) (by omega) P.len
 have k1 : Keep M M1 := fun a o h => by rw [u1.oth a (by have := fj h; omega)]; exact dj h
 have r1 := k1 r _ hr
 have hks : (keysOf M1 (.ref r)).bind jc = some (kvs.map (·.1)) := by simp only [keysOf, r1, Option.bind_some, ah1]
 have hkp : (keysOf M1 (.ref M.length)).bind jc = some (ps.map fun p => ky p.1 p.2) := by simp only [keysOf, p1, asList, Option.bind_some, agj]
 have hpl : jh (ps.map fun p => ky p.1 p.2) = true := by
  have := t1.len
  have : hs.length * hs.length <= 5 * 5 := Nat.mul_le_mul P.len P.len
  simp only [jh, List.length_map, Bool.and_eq_true, decide_eq_true_eq]
  refine ⟨by omega, ?_⟩
  rw [List.all_eq_true]
  intro k hk
  obtain ⟨p, hp, rfl⟩ := List.mem_map.mp hk
  simp [ky]
 have hset : (Ex.setne (.var 1) (.var 2)).den ⟨prog.call (m - 1), prog.cls⟩ [some (dsD hs), some (.ref r), some (.ref M.length), none, none] M1 = .ok (.bl false) M1 := by
  rw [afn]
  simp only [ai4, List.getElem?_cons_succ, List.getElem?_cons_zero, Res.iu, hks, P.plain, hkp, hpl, P.same t1, if_true, Bool.not_true]
 obtain ⟨ρ', M', e, ⟨b3, b4, rfl⟩, rfl⟩ := m9 (W := ⟨prog.call (m - 1), prog.cls⟩) (t := .names [3, 4]) (b := o8) (it := .var 2) (d := .ref M.length) (ds := ps.map pD) (ρ := [some (dsD hs), some (.ref r), some (.ref M.length), none, none]) (M := M1) (M1 := M1) (by simp) (dz p1)
  (fun j ρ M' => (∃ b3 b4 : Option D, ρ = [some (dsD hs), some (.ref r), some (.ref M.length), b3, b4]) /\ M' = M1) ⟨⟨none, none, rfl⟩, rfl⟩ (fun i ρ M h => by rw [h.2]; exact dz p1)
  (fun i x ρ M2 hx hI => by
   obtain ⟨⟨b3, b4, rfl⟩, rfl⟩ := hI
   obtain ⟨p, hp, rfl⟩ : ∃ p, ps[i]? = some p /\ pD p = x := by simpa using hx
   obtain ⟨⟨f, g, a, b, c⟩, d⟩ := (t1.all p).mp (List.mem_of_getElem? hp)
   refine ⟨_, .next, _, M2, vm _ _ _ _ _, ?_, .inl rfl, ⟨some (.int p.1), some (.int p.2), rfl⟩, rfl⟩
   have lk := ad9 r1 (aa2 p.1 p.2)
   rw [show ([.inl (p.1 : Int), .inl (p.2 : Int)] : List Kx) = ky p.1 p.2 from rfl, P.look a b c] at lk
   simp [o8, lk, ace a, ace b, ab6, ab8, atr (show 1 <= m - 1 by omega) P a b c])
 refine ⟨M', ?_, k1, by rw [u1.len]; simp⟩
 simp [Fn.run, abb, abf, e1, hset, yg, e]
theorem aq7 {m r : Nat} (hm : 2 <= m) (P : Pat sz K hs kvs) (hr : M[r]? = some (.dT kvs)) : ∃ M', prog.call m 11 [dsD hs, .ref r] M = .ok .non M' /\ Keep M M' /\ M'.length = M.length + 1 := by
 rw [call_of (by omega) rfl]
 obtain ⟨M1, ps, e1, p1, t1, u1⟩ := ahe (M := M) (m := m - 1) (hs := hs) (by omega) P.len
 have k1 : Keep M M1 := fun a o h => by rw [u1.oth a (by have := fj h; omega)]; exact dj h
 have r1 := k1 r _ hr
 have hl := P.len
 obtain ⟨ρ', M', e, ⟨b3, b4, b5, b6, b7, rfl⟩, rfl⟩ := m9 (W := ⟨prog.call (m - 1), prog.cls⟩) (t := .names [3, 4]) (b := lz) (it := .var 2) (d := .ref M.length) (ds := ps.map pD) (ρ := [some (dsD hs), some (.ref r), some (.ref M.length), none, none, none, none, none]) (M := M1) (M1 := M1) (by simp) (dz p1)
  (fun j ρ M' => (∃ b3 b4 b5 b6 b7 : Option D, ρ = [some (dsD hs), some (.ref r), some (.ref M.length), b3, b4, b5, b6, b7]) /\ M' = M1) ⟨⟨none, none, none, none, none, rfl⟩, rfl⟩ (fun i ρ M h => by rw [h.2]; exact dz p1)
  (fun i x ρ M2 hx hI => by
   obtain ⟨⟨b3, b4, b5, b6, b7, rfl⟩, rfl⟩ := hI
   obtain ⟨p, hp, rfl⟩ : ∃ p, ps[i]? = some p /\ pD p = x := by simpa using hx
   obtain ⟨⟨f, g, a, b, c⟩, d⟩ := (t1.all p).mp (List.mem_of_getElem? hp)
   obtain ⟨ρ3, M3, e3, ⟨c5, c6, c7, rfl⟩, rfl⟩ := qy (W := ⟨prog.call (m - 1), prog.cls⟩) (t := .name 5) (b := jn) (it := .blt .len (.cons (.var 0) .nil)) (n := hs.length) (ρ := [some (dsD hs), some (.ref r), some (.ref M.length), some (.int p.1), some (.int p.2), b5, b6, b7]) (M := M2) (M1 := M2) (by simp [aej]) (by omega)
    (fun j ρ M' => (∃ b5 b6 b7 : Option D, ρ = [some (dsD hs), some (.ref r), some (.ref M.length), some (.int p.1), some (.int p.2), b5, b6, b7]) /\ M' = M2) ⟨⟨b5, b6, b7, rfl⟩, rfl⟩
    (fun l ρ M4 hll hI => by
     obtain ⟨⟨b5, b6, b7, rfl⟩, rfl⟩ := hI
     have hl' : hs[l]? = some hs[l] := by simp [hll]
     have hin := ayw r1 (aa2 p.2 l)
     rw [show ([.inl (p.2 : Int), .inl (l : Int)] : List Kx) = ky p.2 l from rfl] at hin
     by_cases q : g.b = hs[l].a
     . rw [P.look b hl' q] at hin
       obtain ⟨v, v1, v2⟩ := P.threes a b hl' c q
       have lk1 := ad9 r1 (aa2 p.1 p.2)
       rw [show ([.inl (p.1 : Int), .inl (p.2 : Int)] : List Kx) = ky p.1 p.2 from rfl, P.look a b c] at lk1
       have lk2 := ad9 r1 (aa2 p.2 l)
       rw [show ([.inl (p.2 : Int), .inl (l : Int)] : List Kx) = ky p.2 l from rfl, P.look b hl' q] at lk2
       refine ⟨_, .next, _, M4, rfl, ?_, .inl rfl, ⟨some (.int l), some (.int v), some (.int v), rfl⟩, rfl⟩
       simp [jn, hin, lk1, lk2, afg (show 1 <= m - 1 by omega) r1 v1, afg (show 1 <= m - 1 by omega) r1 v2]
     . rw [P.no (fun ⟨g', h', x, y, z⟩ => by rw [b] at x; rw [hl'] at y; cases x; cases y; exact q z)] at hin
       refine ⟨_, .cont, _, M4, rfl, ?_, .inr rfl, ⟨some (.int l), b6, b7, rfl⟩, rfl⟩
       simp [jn, hin])
   refine ⟨_, .next, _, M3, vm _ _ _ _ _, ?_, .inl rfl, ⟨some (.int p.1), some (.int p.2), c5, c6, c7, rfl⟩, rfl⟩
   simp [lz, vz, e3])
 refine ⟨M', ?_, k1, by rw [u1.len]; simp⟩
 simp [Fn.run, aaj, zu, e1, v7, e]
noncomputable def Made (n r K : Nat) (hs : List F) (kvs : List (List Kx × D)) (M : Store) : Prop := M[n]? = some (.ins 2 [(2, .int K), (1, dsD hs), (0, .ref r)]) /\ M[r]? = some (.dT kvs)
theorem ai9 {m r n : Nat} (hm : 3 <= m) (P : Pat sz K hs kvs) (hr : M[r]? = some (.dT kvs)) (hn : M[n]? = some (.ins 2 [])) :
 ∃ M' r', prog.call m 0 [.ref n, .int K, dsD hs, .ref r] M = .ok .non M' /\ Made n r' K hs kvs M' /\ M.length <= r' /\ r' < M'.length /\ (∀ (a : Nat) (o : MO), a ≠ n -> M[a]? = some o -> M'[a]? = some o) := by
 rw [call_of (by omega) rfl]
 have d1 := art (M := M) (m := m - 1) (by omega) P
 obtain ⟨M1, e1, k1, l1⟩ := arv (M := M) (m := m - 1) (by omega) P hr
 obtain ⟨M2, e2, k2, l2⟩ := aq7 (M := M1) (m := m - 1) (by omega) P (k1 r _ hr)
 have k := k1.trans k2
 have n2 := k n _ hn
 have r2 := k r _ hr
 have hrn : r ≠ n := fun e => by rw [e, hn] at hr; cases hr
 have s1 : ux (.ref n) 2 (.int K) M2 = some (M2.set n (.ins 2 [(2, .int K)])) := by simp [ux, n2, yq]
 have n3 := gw (o := .ins 2 [(2, .int K)]) n2
 have s2 : ux (.ref n) 1 (dsD hs) (M2.set n (.ins 2 [(2, .int K)])) = some (M2.set n (.ins 2 [(2, .int K), (1, dsD hs)])) := by simp [ux, n3, yq]
 have n4 := gw (o := .ins 2 [(2, .int K), (1, dsD hs)]) n2
 have r4 : (M2.set n (.ins 2 [(2, .int K), (1, dsD hs)]))[r]? = some (.dT kvs) := by rw [ik (Ne.symm hrn)]; exact r2
 have dc : bx .dict [.ref r] (M2.set n (.ins 2 [(2, .int K), (1, dsD hs)])) = .ok (.ref M2.length) (M2.set n (.ins 2 [(2, .int K), (1, dsD hs)]) ++ [.dT kvs]) := by simp [bx, r4, P.sm, MW.new]
 have n5 : (M2.set n (.ins 2 [(2, .int K), (1, dsD hs)]) ++ [.dT kvs])[n]? = some (.ins 2 [(2, .int K), (1, dsD hs)]) := dj n4
 have s3 : ux (.ref n) 0 (.ref M2.length) (M2.set n (.ins 2 [(2, .int K), (1, dsD hs)]) ++ [.dT kvs]) = some ((List.set M2 n (MO.ins 2 [(2, .int K), (1, dsD hs)]) ++ [MO.dT kvs]).set n (MO.ins 2 [(2, .int K), (1, dsD hs), (0, .ref M2.length)])) := by simp [ux, n5, yq]
 have hnl := fj n2
 refine ⟨_, M2.length, ?_, ⟨gw (o := .ins 2 [(2, .int K), (1, dsD hs), (0, .ref M2.length)]) n5, ?_⟩, by omega, by simp, fun a o na h => ?_⟩
 . simp [Fn.run, wj, xg, d1, e1, e2, s1, s2, dc, s3]
 . rw [ik (by omega)]
   rw [List.getElem?_append_right (by simp)]
   simp
 . rw [ik (Ne.symm na)]
   exact dj (by rw [ik (Ne.symm na)]; exact k a o h)
end
noncomputable def jj (hs : List F) (k i : Nat) : Bool := match hs[i]? with | some f => decide (f.a = k) | none => false
noncomputable def du (hs : List F) (k : Nat) : List D := .int (-1) :: ((List.range hs.length).filter (jj hs k)).map nD
theorem aa4 {hs : List F} {k : Nat} {d : D} (h : d ∈ du hs k) : d = .int (-1) \/ ∃ (i : Nat) (f : F), d = .int i /\ hs[i]? = some f /\ f.a = k := by
 rcases List.mem_cons.mp h with q | q
 . exact .inl q
 . obtain ⟨i, hi, rfl⟩ := List.mem_map.mp q
   obtain ⟨h1, h2⟩ := List.mem_filter.mp hi
   have hil := List.mem_range.mp h1
   have e : hs[i]? = some hs[i] := by simp [hil]
   rw [jj, e] at h2
   exact .inr ⟨i, hs[i], rfl, e, by simpa using h2⟩
theorem ahg {hs : List F} {k : Nat} {d : D} (h : d ∈ du hs k) : ∃ i : Int, d = .int i := by
 rcases aa4 h with rfl | ⟨i, f, rfl, _⟩ <;> exact ⟨_, rfl⟩
theorem aov {hs : List F} {k : Nat} (hl : hs.length <= 5) : (du hs k).length <= 6 := by
 have := List.length_filter_le (jj hs k) (List.range hs.length)
 simp at this
 simp [du]
 omega
theorem ahh (M : Store) (n : Nat) : ∀ l : List D, (∀ d ∈ l, ∃ i : Int, d = .int i) -> eqL (eqD M (n + 1)) l l = some true
 | [], _ => rfl
 | d :: l, h => by
  obtain ⟨i, rfl⟩ := h d (by simp)
  rw [iy (ae0 n i i) (ahh M n l (fun x hx => h x (List.mem_cons_of_mem _ hx)))]
  simp
noncomputable def bh (K r : Nat) (hs : List F) : D := .tup [.int K, dsD hs, .ref r]
theorem agg (K r : Nat) (hs : List F) (M : Store) : dg (bh K r hs) (.int 0) M = some (.int K) := rfl
theorem ab5 (K r : Nat) (hs : List F) (M : Store) : dg (bh K r hs) (.int 1) M = some (dsD hs) := rfl
theorem ady (K r : Nat) (hs : List F) (M : Store) : dg (bh K r hs) (.int 2) M = some (.ref r) := rfl
section
variable {M : Store} {sz : Nat -> Nat} {K : Nat} {hs : List F} {kvs : List (List Kx × D)} {n r m : Nat}
theorem Made.keep {M' : Store} (h : Made n r K hs kvs M) (k : Keep M M') : Made n r K hs kvs M' := ⟨k _ _ h.1, k _ _ h.2⟩
theorem Made.f2 (h : Made n r K hs kvs M) : uv (.ref n) 2 M = some (.int K) := by simp [uv, h.1, List.lookup]
theorem Made.f1 (h : Made n r K hs kvs M) : uv (.ref n) 1 M = some (dsD hs) := by simp [uv, h.1, List.lookup]
theorem Made.f0 (h : Made n r K hs kvs M) : uv (.ref n) 0 M = some (.ref r) := by simp [uv, h.1, List.lookup]
theorem kinds_ok (hm : 1 <= m) (h : Made n r K hs kvs M) : prog.call m 1 [.ref n] M = .ok (.int K) M := by
 rw [call_of hm rfl]
 simp [Fn.run, yp, ye, h.f2]
theorem amq (hm : 1 <= m) (h : Made n r K hs kvs M) : prog.call m 2 [.ref n] M = .ok (dsD hs) M := by
 rw [call_of hm rfl]
 simp [Fn.run, wu, xu, h.f1]
theorem alo (hm : 2 <= m) (h : Made n r K hs kvs M) {x y : Int} {v : D} (hv : bothW hs kvs x y = some v) : prog.call m 3 [.ref n, .int x, .int y] M = .ok v M := by
 rw [call_of (by omega) rfl]
 simp [Fn.run, vd, xx, h.f0, afg (show 1 <= m - 1 by omega) h.2 hv]
theorem ar0 (hm : 1 <= m) (h : Made n r K hs kvs M) (hl : hs.length <= 5) {k : Nat} : prog.call m 4 [.ref n, .int k] M = .ok (.ref M.length) (M ++ [.lst (du hs k)]) := by
 rw [call_of hm rfl]
 have hc : c_Pattern_ways_1.den ⟨prog.call (m - 1), prog.cls⟩ [some (.ref n), some (.int k)] M = .ok (.vl (((List.range hs.length).filter (jj hs k)).map nD)) M := by
  unfold c_Pattern_ways_1
  rw [ae2 (ds := hs.map eD) (M1 := M) (q := jj hs k) (g := nD) (by simp [h.f1, dsD]) (by simp; omega) (fun i x hx => by
   obtain ⟨f, hf, rfl⟩ : ∃ f, hs[i]? = some f /\ eD f = x := by simpa using hx
   refine ⟨_, vm _ _ _ _ _, ?_, fun _ => ?_⟩
   . simp [-eq_int, ab6, gm, jj, hf]
   . simp [nD])]
  simp
 have := ak1 (M := M) [.int (-1)] (((List.range hs.length).filter (jj hs k)).map nD) (by
  have := List.length_filter_le (jj hs k) (List.range hs.length)
  simp at this ⊢
  omega)
 simp [Fn.run, zj, zg, hc, this, MW.new, du]
theorem auz (hm : 1 <= m) (h : Made n r K hs kvs M) {k i : Nat} {f : F} (hf : hs[i]? = some f) : prog.call m 5 [.ref n, .int k, .int i] M = .ok (.int f.b) M := by
 rw [call_of hm rfl]
 have ni : ¬ ((i : Int) = -1) := by omega
 simp [Fn.run, uf, ug, ni, h.f1, ace hf, ab8]
theorem am6 (hm : 1 <= m) (h : Made n r K hs kvs M) {k : Nat} : prog.call m 5 [.ref n, .int k, .int (-1)] M = .ok (.int k) M := by
 rw [call_of hm rfl]
 simp [Fn.run, uf, ug]
theorem adc (hm : 1 <= m) (hl : hs.length <= 5) {k r : Nat} : prog.call m 18 [bh K r hs, .int k] M = .ok (.vl (du hs k)) M := by
 rw [call_of hm rfl]
 have hc : c__law_ways_1.den ⟨prog.call (m - 1), prog.cls⟩ [some (bh K r hs), some (.int k)] M = .ok (.vl (((List.range hs.length).filter (jj hs k)).map nD)) M := by
  unfold c__law_ways_1
  rw [ae9 (n := hs.length) (M1 := M) (q := jj hs k) (g := nD) (by simp [ab5, aej]) (by omega) (fun i hi => by
   have e : hs[i]? = some hs[i] := by simp [hi]
   refine ⟨_, rfl, ?_, fun _ => ?_⟩
   . simp [-eq_int, ab5, ace e, ab6, gm, jj, hi]
   . simp [nD])]
  simp
 have := afw (M := M) [.int (-1)] (((List.range hs.length).filter (jj hs k)).map nD) (by
  have := List.length_filter_le (jj hs k) (List.range hs.length)
  simp at this ⊢
  omega)
 simp [Fn.run, acz, acu, hc, this, du]
theorem atg (hm : 1 <= m) {k i r : Nat} {f : F} (hf : hs[i]? = some f) : prog.call m 19 [bh K r hs, .int k, .int i] M = .ok (.int f.b) M := by
 rw [call_of hm rfl]
 have ni : ¬ ((i : Int) < 0) := by omega
 simp [Fn.run, aa3, aar, ni, ab5, ace hf, ab8]
theorem amh (hm : 1 <= m) {k r : Nat} : prog.call m 19 [bh K r hs, .int k, .int (-1)] M = .ok (.int k) M := by
 rw [call_of hm rfl]
 simp [Fn.run, aa3, aar]
theorem akm (hm : 1 <= m) {r' : Nat} (hr : M[r']? = some (.dT kvs)) {x y : Int} {v : D} (hx : -1 <= x) (hy : -1 <= y) (hv : bothW hs kvs x y = some v) : prog.call m 20 [bh K r' hs, .int x, .int y] M = .ok v M := by
 rw [call_of hm rfl]
 unfold bothW at hv
 by_cases ex : x = -1
 . rw [if_pos ex] at hv; cases hv
   subst ex
   have : (-1 : Int) + y + 1 = y := by omega
   simp [Fn.run, j6, j7, this]
 . rw [if_neg ex] at hv
   have nx : ¬ x < 0 := by omega
   by_cases ey : y = -1
   . rw [if_pos ey] at hv; cases hv
     subst ey
     have : x + (-1 : Int) + 1 = x := by omega
     simp [Fn.run, j6, j7, nx, this]
   . rw [if_neg ey] at hv
     have ny : ¬ y < 0 := by omega
     simp [Fn.run, j6, j7, nx, ny, ady, ad9 hr (aa2 x y), hv]
theorem Pat.bothInt (P : Pat sz K hs kvs) {x y : D} {k : Nat} (hx : x ∈ du hs k) {far : Nat} (hfar : (x = .int (-1) /\ far = k) \/ ∃ (i : Nat) (f : F), x = .int i /\ hs[i]? = some f /\ far = f.b) (hy : y ∈ du hs far) :
 ∃ a b v : Int, x = .int a /\ y = .int b /\ -1 <= a /\ -1 <= b /\ bothW hs kvs a b = some (.int v) := by
 rcases hfar with ⟨rfl, _⟩ | ⟨i, f, rfl, hf, rfl⟩
 . obtain ⟨b, rfl⟩ := ahg hy
   refine ⟨-1, b, b, rfl, rfl, by omega, ?_, by simp [bothW]⟩
   rcases aa4 hy with q | ⟨j, g, q, _⟩ <;> cases q <;> omega
 . have ni : ¬ ((i : Int) = -1) := by omega
   rcases aa4 hy with rfl | ⟨j, g, rfl, hg, e⟩
   . exact ⟨i, -1, i, rfl, rfl, by omega, by omega, by simp [bothW, ni]⟩
   . have nj : ¬ ((j : Int) = -1) := by omega
     exact ⟨i, j, ent hs f g, rfl, rfl, by omega, by omega, by rw [bothW, if_neg ni, if_neg nj]; exact P.look hf hg e.symm⟩
theorem zr {W : Wld} {ρ : Env} {o : Ex} {mm fi c : Nat} {es : Exs} {ds : List D} {fs : List (Nat × D)} (ho : o.den W ρ M = .ok (.ref n) M) (he : es.den W ρ M = .ok ds M) (hn : M[n]? = some (.ins c fs)) (hm : (W.cls[c]?).bind (fun C => C.meths.lookup mm) = some fi) :
 (Ex.meth o mm es).den W ρ M = W.call fi (.ref n :: ds) M := by
 rw [km, ho, Res.iu, he, Res.iu]
 simp only [hn, hm]
end
section
variable {M : Store} {sz : Nat -> Nat} {K : Nat} {hs : List F} {kvs : List (List Kx × D)} {n r r' m : Nat}
theorem ayr (M : Store) (hs : List F) : dw M (dsD hs) (dsD hs) = some true := by
 show eqL (eqD M 5) (hs.map eD) (hs.map eD) = some true
 induction hs with
 | nil => rfl
 | cons f l ih =>
  have e : eqD M 5 (eD f) (eD f) = some true := by
   show eqL (eqD M 4) [.int f.a, .int f.b] [.int f.a, .int f.b] = some true
   rw [iy (qe M 3 _ _) (iy (qe M 3 _ _) (show eqL (eqD M 4) [] [] = some true from rfl))]
   simp
  rw [List.map_cons, iy e ih]
  rfl
end
section
variable {M : Store} {sz : Nat -> Nat} {K : Nat} {hs : List F} {kvs : List (List Kx × D)} {n r r' m : Nat}
theorem apg (hm : 2 <= m) (P : Pat sz K hs kvs) (h : Made n r K hs kvs M) (hr : M[r']? = some (.dT kvs)) {x : D} {k far : Nat} (hx : x ∈ du hs k) (hfar : (x = .int (-1) /\ far = k) \/ ∃ (i : Nat) (f : F), x = .int i /\ hs[i]? = some f /\ far = f.b) {a3 a6 : Option D} :
 ∃ b6, s__law_told_2.den ⟨prog.call m, prog.cls⟩ [some (.ref n), some (bh K r' hs), some (.int k), a3, some x, some (.int far), a6] M = .ok (.next, [some (.ref n), some (bh K r' hs), some (.int k), a3, some x, some (.int far), b6]) M := by
 have hl := P.len
 obtain ⟨ρ', M', e, ⟨b6, rfl⟩, rfl⟩ := m9 (W := ⟨prog.call m, prog.cls⟩) (t := .name 6) (b := ue) (it := .call 18 (.cons (.var 1) (.cons (.var 5) .nil))) (d := .vl (du hs far)) (ds := du hs far)
  (ρ := [some (.ref n), some (bh K r' hs), some (.int k), a3, some x, some (.int far), a6]) (M := M) (M1 := M) (by simp [adc (show 1 <= m by omega) hl]) rfl
  (fun i ρ M' => (∃ b6 : Option D, ρ = [some (.ref n), some (bh K r' hs), some (.int k), a3, some x, some (.int far), b6]) /\ M' = M) ⟨⟨a6, rfl⟩, rfl⟩ (fun _ _ _ _ => rfl)
  (fun i y ρ M1 hy hI => by
   obtain ⟨⟨b6, rfl⟩, rfl⟩ := hI
   obtain ⟨a, b, v, rfl, rfl, ha, hb, hv⟩ := P.bothInt hx hfar (List.mem_of_getElem? hy)
   refine ⟨_, .next, _, M1, rfl, ?_, .inl rfl, ⟨some (.int b), rfl⟩, rfl⟩
   have hme := zr (M := M1) (W := ⟨prog.call m, prog.cls⟩) (n := n) (ρ := [some (.ref n), some (bh K r' hs), some (.int k), a3, some (.int a), some (.int far), some (.int b)]) (o := .var 0) (mm := 2) (es := .cons (.var 4) (.cons (.var 6) .nil)) (ds := [.int a, .int b]) (fi := 3) (by simp) (by simp) h.1 rfl
   simp [-km, ue, hme, alo hm h hv, akm (show 1 <= m by omega) hr ha hb hv])
 exact ⟨b6, e⟩
end
section
variable {M : Store} {sz : Nat -> Nat} {K : Nat} {hs : List F} {kvs : List (List Kx × D)} {n r r' m : Nat}
theorem ajz (hm : 2 <= m) (P : Pat sz K hs kvs) (h : Made n r K hs kvs M) (hr : M[r']? = some (.dT kvs)) {k : Nat} {a3 a4 a5 a6 : Option D} :
 ∃ b4 b5 b6, s__law_told_1.den ⟨prog.call m, prog.cls⟩ [some (.ref n), some (bh K r' hs), some (.int k), a3, a4, a5, a6] M = .ok (.next, [some (.ref n), some (bh K r' hs), some (.int k), a3, b4, b5, b6]) M := by
 have hl := P.len
 have hm1 : 1 <= m := by omega
 obtain ⟨ρ', M', e, ⟨b4, b5, b6, rfl⟩, rfl⟩ := m9 (W := ⟨prog.call m, prog.cls⟩) (t := .name 4) (b := uc) (it := .call 18 (.cons (.var 1) (.cons (.var 2) .nil))) (d := .vl (du hs k)) (ds := du hs k)
  (ρ := [some (.ref n), some (bh K r' hs), some (.int k), a3, a4, a5, a6]) (M := M) (M1 := M) (by simp [adc hm1 hl]) rfl
  (fun i ρ M' => (∃ b4 b5 b6 : Option D, ρ = [some (.ref n), some (bh K r' hs), some (.int k), a3, b4, b5, b6]) /\ M' = M) ⟨⟨a4, a5, a6, rfl⟩, rfl⟩ (fun _ _ _ _ => rfl)
  (fun i x ρ M1 hx hI => by
   obtain ⟨⟨b4, b5, b6, rfl⟩, rfl⟩ := hI
   have hxm := List.mem_of_getElem? hx
   obtain ⟨far, hfar, e1, e2⟩ : ∃ far : Nat, ((x = .int (-1) /\ far = k) \/ ∃ (i : Nat) (f : F), x = .int i /\ hs[i]? = some f /\ far = f.b) /\ prog.call m 19 [bh K r' hs, .int k, x] M1 = .ok (.int far) M1 /\ prog.call m 5 [.ref n, .int k, x] M1 = .ok (.int far) M1 := by
    rcases aa4 hxm with rfl | ⟨i, f, rfl, hf, ef⟩
    . exact ⟨k, .inl ⟨rfl, rfl⟩, amh hm1, am6 hm1 h⟩
    . exact ⟨f.b, .inr ⟨i, f, rfl, hf, rfl⟩, atg hm1 hf, auz hm1 h hf⟩
   obtain ⟨c6, e3⟩ := apg hm P h hr hxm hfar (a3 := a3) (a6 := b6)
   have hme := zr (M := M1) (W := ⟨prog.call m, prog.cls⟩) (n := n) (ρ := [some (.ref n), some (bh K r' hs), some (.int k), a3, some x, some (.int far), b6]) (o := .var 0) (mm := 4) (es := .cons (.var 2) (.cons (.var 4) .nil)) (ds := [.int k, x]) (fi := 5) (by simp) (by simp) h.1 rfl
   refine ⟨_, .next, _, M1, rfl, ?_, .inl rfl, ⟨some x, some (.int far), c6, rfl⟩, rfl⟩
   simp [-km, uc, hme, e1, e2, e3])
 exact ⟨b4, b5, b6, e⟩
theorem aeu (hm : 3 <= m) (P : Pat sz K hs kvs) (h : Made n r K hs kvs M) (hr : M[r']? = some (.dT kvs)) : ∃ M', prog.call m 21 [.ref n, bh K r' hs] M = .ok (.bl true) M' /\ Keep M M' := by
 have hl := P.len
 have hm1 : 1 <= m - 1 := by omega
 rw [call_of (by omega) rfl]
 obtain ⟨ρ', M', e, ⟨b2, b3, b4, b5, b6, rfl⟩, hk⟩ := qy (W := ⟨prog.call (m - 1), prog.cls⟩) (t := .name 2) (b := ul) (it := .ix (.var 1) (.cst (.int 0))) (n := K)
  (ρ := [some (.ref n), some (bh K r' hs), none, none, none, none, none]) (M := M) (M1 := M) (by simp [agg]) (by have := P.k3; omega)
  (fun i ρ M' => (∃ b2 b3 b4 b5 b6 : Option D, ρ = [some (.ref n), some (bh K r' hs), b2, b3, b4, b5, b6]) /\ Keep M M') ⟨⟨none, none, none, none, none, rfl⟩, Keep.refl M⟩
  (fun k ρ M1 hk hI => by
   obtain ⟨⟨b2, b3, b4, b5, b6, rfl⟩, kp⟩ := hI
   have h1 := h.keep kp
   have r1 := kp _ _ hr
   have hw := ar0 (m := m - 1) hm1 h1 hl (k := k)
   have hme := zr (M := M1) (W := ⟨prog.call (m - 1), prog.cls⟩) (n := n) (ρ := [some (.ref n), some (bh K r' hs), some (.int k), b3, b4, b5, b6]) (o := .var 0) (mm := 3) (es := .cons (.var 2) .nil) (ds := [.int k]) (fi := 4) (by simp) (by simp) h1.1 rfl
   have q2 : (M1 ++ [.lst (du hs k)])[M1.length]? = some (.lst (du hs k)) := by simp
   have hil : bx .isList [.ref M1.length] (M1 ++ [.lst (du hs k)]) = .ok (.bl true) (M1 ++ [.lst (du hs k)]) := by simp [bx, isL]
   have heq : dw (M1 ++ [.lst (du hs k)]) (.ref M1.length) (.vl (du hs k)) = some true := by
    have hdc : yl (M1 ++ [.lst (du hs k)]) (.ref M1.length) = false := by simp [yl]
    rw [dw, hdc, if_neg (by decide)]
    rw [Sm.pq, dz q2]
    simp only [if_true]
    exact ahh _ 4 _ (fun d hd => ahg hd)
   have ap := aad (d := .int 9) q2 (by have := aov (hs := hs) (k := k) hl; omega)
   have es : (M1 ++ [MO.lst (du hs k)]).set M1.length (MO.lst (du hs k ++ [D.int 9])) = M1 ++ [MO.lst (du hs k ++ [D.int 9])] := by simp
   have es' : List.set (M1 ++ [MO.lst (du hs k)]) M1.length (MO.lst (du hs k ++ [D.int 9])) = M1 ++ [MO.lst (du hs k ++ [D.int 9])] := es
   rw [es'] at ap
   have kp2 : Keep M1 (M1 ++ [MO.lst (du hs k ++ [D.int 9])]) := Keep.app M1 _
   obtain ⟨c4, c5, c6, e3⟩ := ajz (m := m - 1) (by omega) P (h1.keep kp2) (kp2 _ _ r1) (k := k) (a3 := some (.ref M1.length)) (a4 := b4) (a5 := b5) (a6 := b6)
   refine ⟨_, .next, _, _, rfl, ?_, .inl rfl, ⟨some (.int k), some (.ref M1.length), c4, c5, c6, rfl⟩, kp.trans kp2⟩
   simp [-km, ul, hme, hw, hil, adc hm1 hl, heq, xj q2, ap, e3])
 have hk0 := zr (M := M) (W := ⟨prog.call (m - 1), prog.cls⟩) (n := n) (ρ := [some (.ref n), some (bh K r' hs), none, none, none, none, none]) (o := .var 0) (mm := 0) (es := .nil) (ds := []) (fi := 1) (by simp) (by simp) h.1 rfl
 have hk1 := zr (M := M) (W := ⟨prog.call (m - 1), prog.cls⟩) (n := n) (ρ := [some (.ref n), some (bh K r' hs), none, none, none, none, none]) (o := .var 0) (mm := 1) (es := .nil) (ds := []) (fi := 2) (by simp) (by simp) h.1 rfl
 refine ⟨M', ?_, hk⟩
 simp [-km, Fn.run, ack, acj, hk0, hk1, kinds_ok hm1 h, amq hm1 h, agg, ab5, ayr, aa9, e]
end
section
variable {W : Wld} {ρ : Env} {M M1 M2 : Store}
theorem ahy {body : D -> Store -> Res (Option D)} {d0 d1 x0 x1 : D} (h0 : body d0 M = .ok (some x0) M1) (h1 : body d1 M1 = .ok (some x1) M2) : di (.con [d0, d1]) body M = .ok [x0, x1] M2 := by
 simp [di, Src.len, jb, Src.item, Src.fin, h0, h1]
theorem afz {k : Nat} {t : Tg} {e : Ex} {x0 x1 : D} {ρ0 ρ1 : Env} (p0 : t.put (.int 0) (ρ ++ List.replicate k none) = some ρ0) (h0 : e.den W ρ0 M = .ok x0 M1) (p1 : t.put (.int 1) (ρ ++ List.replicate k none) = some ρ1) (h1 : e.den W ρ1 M1 = .ok x1 M2) :
 (Ex.comp true k t (.rng (.cst (.int 2))) e).den W ρ M = .ok (.vl [x0, x1]) M2 := by
 rw [ym, ab9, u5]
 simp only [Res.iu]
 rw [if_pos (by decide)]
 have := ahy (d0 := .int 0) (d1 := .int 1) (x0 := x0) (x1 := x1) (M := M) (M1 := M1) (M2 := M2) (body := fun d M => (Res.ofOpt (t.put d (ρ ++ List.replicate k none)) M).bind fun ρ' M => (e.den W ρ' M).bind fun x M' => .ok (some x) M') (by rw [p0]; simp [h0]) (by rw [p1]; simp [h1])
 simp only [Res.iu]
 show (di (.con [.int 0, .int 1]) _ M).bind _ = _
 rw [this]; rfl
theorem ahv {k : Nat} {t : Tg} {it e : Ex} {d0 d1 x0 x1 : D} {ρ0 ρ1 : Env} (hi : it.den W ρ M = .ok (.vl [d0, d1]) M) (p0 : t.put d0 (ρ ++ List.replicate k none) = some ρ0) (h0 : e.den W ρ0 M = .ok x0 M1) (p1 : t.put d1 (ρ ++ List.replicate k none) = some ρ1) (h1 : e.den W ρ1 M1 = .ok x1 M2) :
 (Ex.comp true k t (.val it) e).den W ρ M = .ok (.vl [x0, x1]) M2 := by
 rw [ym, uz, hi]
 have := ahy (d0 := d0) (d1 := d1) (x0 := x0) (x1 := x1) (M := M) (M1 := M1) (M2 := M2) (body := fun d M => (Res.ofOpt (t.put d (ρ ++ List.replicate k none)) M).bind fun ρ' M => (e.den W ρ' M).bind fun x M' => .ok (some x) M') (by rw [p0]; simp [h0]) (by rw [p1]; simp [h1])
 simp only [Res.iu]
 show (di (.con [d0, d1]) _ M).bind _ = _
 rw [this]; rfl
end
theorem agh {M : Store} {n : Nat} {kb : List (List Kx × D)} : ∀ l : List (List Kx × D), (∀ p ∈ l, ∃ i : Int, p.2 = .int i /\ dq kb p.1 = some (.int i)) -> eqK (eqD M (n + 1)) kb l = some true
 | [], _ => rfl
 | (k, v) :: l, h => by
  obtain ⟨i, h1, h2⟩ := h (k, v) (by simp)
  have h1' : v = .int i := h1
  have h2' : dq kb k = some (.int i) := h2
  simp [eqK, h2', h1', ae0, agh l (fun p hp => h p (List.mem_cons_of_mem _ hp))]
section
variable {sz : Nat -> Nat} {K : Nat} {hs : List F} {kvs : List (List Kx × D)}
theorem Pat.self (P : Pat sz K hs kvs) : ∀ p ∈ kvs, ∃ i : Int, p.2 = .int i /\ dq kvs p.1 = some (.int i) := by
 intro p hp
 obtain ⟨j, k, f, g, rfl, a, b, c, _⟩ := P.tb.keys p hp
 exact ⟨_, rfl, P.look a b c⟩
theorem Pat.ints (P : Pat sz K hs kvs) : yc kvs = true := by
 unfold yc
 rw [List.all_eq_true]
 intro p hp
 obtain ⟨j, k, f, g, rfl, _⟩ := P.tb.keys p hp
 simp [ky]
theorem Pat.eqd (P : Pat sz K hs kvs) {M : Store} {i j n : Nat} (hi : M[i]? = some (.dT kvs)) (hj : M[j]? = some (.dT kvs)) (hij : i ≠ j) : eqD M (n + 2) (.ref i) (.ref j) = some true := by
 rw [Sm.jd]
 have ai : asList M (.ref i) = none := by simp [asList, hi]
 have aj : asList M (.ref j) = none := by simp [asList, hj]
 rw [ai, aj]
 simp only [aaz, hi, hj, P.ints, Bool.and_self, if_true, if_neg hij]
 exact agh kvs P.self
end
theorem auy {m : Nat} {ns : List Int} {M : Store} (hm : 5 <= m) : ∃ M', prog.call m 22 [.fz (ns.map D.int)] M = .ok (.bl true) M' := by
 rw [call_of (by omega) rfl]
 obtain ⟨n0, f0, s0, o0⟩ := agl (m := m - 1) (k := 0) (ns := ns) (M := M) (by omega)
 have hh0 : Has M.length f0 (M ++ [.lst [.int n0, .bl f0]]) := ⟨n0, by simp, o0⟩
 obtain ⟨K0, r0, sz0, hs0, kvs0, M1, e0, p0, lr0, P0, t0⟩ := adl (m := m - 1) (by omega) hh0
 obtain ⟨n1, f1, s1, o1⟩ := agl (m := m - 1) (k := 1) (ns := ns) (M := M1) (by omega)
 have hh1 : Has M1.length f1 (M1 ++ [.lst [.int n1, .bl f1]]) := ⟨n1, by simp, o1⟩
 obtain ⟨K1, r1, sz1, hs1, kvs1, M2, e1, p1, lr1, P1, t1⟩ := adl (m := m - 1) (by omega) hh1
 have p0' : M2[r0]? = some (.dT kvs0) := t1.keep r0 _ (by have := fj p0; omega) (dj p0)
 have c4 : c_law_4.den ⟨prog.call (m - 1), prog.cls⟩ [some (.fz (ns.map D.int)), none, none, none, none, none] M = .ok (.vl [bh K0 r0 hs0, bh K1 r1 hs1]) M2 :=
  afz (x0 := bh K0 r0 hs0) (x1 := bh K1 r1 hs1) (M1 := M1) rfl (by simp at s0; simp [s0, e0, bh]) rfl (by simp at s1; simp [s1, e1, bh])
 have d0 : bx .dict [.ref r0] M2 = .ok (.ref M2.length) (M2 ++ [.dT kvs0]) := by simp [bx, p0', P0.sm, MW.new]
 have p1' : (M2 ++ [.dT kvs0])[r1]? = some (.dT kvs1) := dj p1
 have d1 : bx .dict [.ref r1] (M2 ++ [.dT kvs0]) = .ok (.ref (M2.length + 1)) (M2 ++ [.dT kvs0] ++ [.dT kvs1]) := by simp [bx, p1', P1.sm, MW.new]
 obtain ⟨M3, eM3⟩ : ∃ M3 : Store, M3 = M2 ++ [.dT kvs0] ++ [.dT kvs1] := ⟨_, rfl⟩
 rw [<- eM3] at d1
 have l3 : M3.length = M2.length + 2 := by simp [eM3]
 have q0 : M3[r0]? = some (.dT kvs0) := by rw [eM3]; exact dj (dj p0')
 have q1 : M3[r1]? = some (.dT kvs1) := by rw [eM3]; exact dj p1'
 have u0 : M3[M2.length]? = some (.dT kvs0) := by rw [eM3]; exact dj (by simp)
 have u1 : M3[M2.length + 1]? = some (.dT kvs1) := by simp [eM3]
 have hr0 := fj p0'
 have hr1 := fj p1
 have c3 : c_law_3.den ⟨prog.call (m - 1), prog.cls⟩ [some (.fz (ns.map D.int)), some (.vl [bh K0 r0 hs0, bh K1 r1 hs1]), none, none, none, none] M2 = .ok (.vl [.ref M2.length, .ref (M2.length + 1)]) M3 :=
  ahv (M1 := M2 ++ [.dT kvs0]) (d0 := bh K0 r0 hs0) (d1 := bh K1 r1 hs1) (by simp) rfl (by simp [ady, d0]) rfl (by simp [ady, d1])
 have nn0 : (M3 ++ [.ins 2 []])[M3.length]? = some (.ins 2 []) := by simp
 obtain ⟨M4, a0, i0, m0, la0, lb0, k0⟩ := ai9 (M := M3 ++ [.ins 2 []]) (m := m - 1) (r := M2.length) (n := M3.length) (by omega) P0 (dj u0) nn0
 have k0' : Keep M3 M4 := fun a o h => k0 a o (by have := fj h; omega) (dj h)
 have nn1 : (M4 ++ [.ins 2 []])[M4.length]? = some (.ins 2 []) := by simp
 obtain ⟨M5, a1, i1, m1, la1, lb1, k1⟩ := ai9 (M := M4 ++ [.ins 2 []]) (m := m - 1) (r := M2.length + 1) (n := M4.length) (by omega) P1 (dj (k0' _ _ u1)) nn1
 have k1' : Keep M4 M5 := fun a o h => k1 a o (by have := fj h; omega) (dj h)
 have m0' := m0.keep k1'
 have k35 := k0'.trans k1'
 have c2 : c_law_2.den ⟨prog.call (m - 1), prog.cls⟩ [some (.fz (ns.map D.int)), some (.vl [bh K0 r0 hs0, bh K1 r1 hs1]), some (.vl [.ref M2.length, .ref (M2.length + 1)]), none, none, none] M3 = .ok (.vl [.ref M3.length, .ref M4.length]) M5 := by
  have cl : (prog.cls)[2]? = some ⟨0, [(0, 1), (1, 2), (2, 3), (3, 4), (4, 5)]⟩ := rfl
  have x0 : dg (.vl [bh K0 r0 hs0, bh K1 r1 hs1]) (.int 0) M3 = some (bh K0 r0 hs0) := rfl
  have x1 : dg (.vl [bh K0 r0 hs0, bh K1 r1 hs1]) (.int 1) M4 = some (bh K1 r1 hs1) := rfl
  have y0 : dg (.vl [.ref M2.length, .ref (M2.length + 1)]) (.int 0) M3 = some (.ref M2.length) := rfl
  have y1 : dg (.vl [.ref M2.length, .ref (M2.length + 1)]) (.int 1) M4 = some (.ref (M2.length + 1)) := rfl
  exact afz (M1 := M4) (x0 := .ref M3.length) (x1 := .ref M4.length) rfl (by simp [x0, y0, agg, ab5, cl, i0]) rfl (by simp [x1, y1, agg, ab5, cl, i1])
 have c1 : c_law_1.den ⟨prog.call (m - 1), prog.cls⟩ [some (.fz (ns.map D.int)), some (.vl [bh K0 r0 hs0, bh K1 r1 hs1]), some (.vl [.ref M2.length, .ref (M2.length + 1)]), some (.vl [.ref M3.length, .ref M4.length]), none, none] M5 = .ok (.vl [.ref r0, .ref r1]) M5 :=
  ahv (M1 := M5) (d0 := bh K0 r0 hs0) (d1 := bh K1 r1 hs1) (by simp) rfl (by simp [ady]) rfl (by simp [ady])
 have w0 := k35 _ _ u0
 have w1 := k35 _ _ u1
 have z0 := k35 _ _ q0
 have z1 := k35 _ _ q1
 have heq : dw M5 (.vl [.ref M2.length, .ref (M2.length + 1)]) (.vl [.ref r0, .ref r1]) = some true := by
  show eqL (eqD M5 5) [.ref M2.length, .ref (M2.length + 1)] [.ref r0, .ref r1] = some true
  rw [iy (P0.eqd (n := 3) w0 z0 (by omega)) (iy (P1.eqd (n := 3) w1 z1 (by omega)) (show eqL (eqD M5 5) [] [] = some true from rfl))]
  rfl
 have ky0 := aa2 0 0
 have st0 := agn (d := .int 7) (b := .tup [.int 0, .int 0]) w0 ky0 (by have := P0.kl; omega)
 obtain ⟨M6, eM6⟩ : ∃ M6 : Store, M6 = M5.set M2.length (.dT (jq kvs0 [.inl 0, .inl 0] (.int 7))) := ⟨_, rfl⟩
 rw [<- eM6] at st0
 have o6 : ∀ a, a ≠ M2.length -> M6[a]? = M5[a]? := fun a h => by rw [eM6]; exact ik (Ne.symm h)
 have w1' : M6[M2.length + 1]? = some (.dT kvs1) := by rw [o6 _ (by omega)]; exact w1
 have st1 := agn (d := .int 7) (b := .tup [.int 0, .int 0]) w1' ky0 (by have := P1.kl; omega)
 obtain ⟨M7, eM7⟩ : ∃ M7 : Store, M7 = M6.set (M2.length + 1) (.dT (jq kvs1 [.inl 0, .inl 0] (.int 7))) := ⟨_, rfl⟩
 rw [<- eM7] at st1
 have o7 : ∀ a, a ≠ M2.length -> a ≠ M2.length + 1 -> M7[a]? = M5[a]? := fun a h h' => by rw [eM7, ik (Ne.symm h')]; exact o6 a h
 have sl1 : s_law_1.den ⟨prog.call (m - 1), prog.cls⟩ [some (.fz (ns.map D.int)), some (.vl [bh K0 r0 hs0, bh K1 r1 hs1]), some (.vl [.ref M2.length, .ref (M2.length + 1)]), some (.vl [.ref M3.length, .ref M4.length]), none, none] M5 =
  .ok (.next, [some (.fz (ns.map D.int)), some (.vl [bh K0 r0 hs0, bh K1 r1 hs1]), some (.vl [.ref M2.length, .ref (M2.length + 1)]), some (.vl [.ref M3.length, .ref M4.length]), some (.ref (M2.length + 1)), none]) M7 := by
  unfold s_law_1
  rw [u9]
  simp [srcOf, Src.len, Src.fin, iw, Src.item, aiu, st0, st1]
 have l34 : M3.length + 1 <= M4.length := by
  have := la0; simp at this; omega
 have hm0 : Made M3.length a0 K0 hs0 kvs0 M7 := ⟨by rw [o7 _ (by omega) (by omega)]; exact m0'.1, by rw [o7 _ (by simp at la0; omega) (by simp at la0; omega)]; exact m0'.2⟩
 have hm1 : Made M4.length a1 K1 hs1 kvs1 M7 := ⟨by rw [o7 _ (by omega) (by omega)]; exact m1.1, by rw [o7 _ (by simp at la1; omega) (by simp at la1; omega)]; exact m1.2⟩
 have hq0 : M7[r0]? = some (.dT kvs0) := by rw [o7 _ (by omega) (by omega)]; exact z0
 have hq1 : M7[r1]? = some (.dT kvs1) := by rw [o7 _ (by omega) (by omega)]; exact z1
 obtain ⟨M8, g8, k8⟩ := aeu (m := m - 1) (by omega) P0 hm0 hq0
 obtain ⟨M9, g9, k9⟩ := aeu (m := m - 1) (by omega) P1 (hm1.keep k8) (k8 _ _ hq1)
 obtain ⟨M10, g10, k10⟩ := aeu (m := m - 1) (by omega) P0 (hm0.keep (k8.trans k9)) (k9 _ _ (k8 _ _ hq0))
 have sl0 : ∃ ρ', s_law_0.den ⟨prog.call (m - 1), prog.cls⟩ [some (.fz (ns.map D.int)), some (.vl [bh K0 r0 hs0, bh K1 r1 hs1]), some (.vl [.ref M2.length, .ref (M2.length + 1)]), some (.vl [.ref M3.length, .ref M4.length]), some (.ref (M2.length + 1)), none] M7 = .ok (.next, ρ') M10 := by
  have x0 : ∀ M, dg (.vl [bh K0 r0 hs0, bh K1 r1 hs1]) (.int 0) M = some (bh K0 r0 hs0) := fun _ => rfl
  have x1 : ∀ M, dg (.vl [bh K0 r0 hs0, bh K1 r1 hs1]) (.int 1) M = some (bh K1 r1 hs1) := fun _ => rfl
  have y0 : ∀ M, dg (.vl [.ref M3.length, .ref M4.length]) (.int 0) M = some (.ref M3.length) := fun _ => rfl
  have y1 : ∀ M, dg (.vl [.ref M3.length, .ref M4.length]) (.int 1) M = some (.ref M4.length) := fun _ => rfl
  refine ⟨[some (.fz (ns.map D.int)), some (.vl [bh K0 r0 hs0, bh K1 r1 hs1]), some (.vl [.ref M2.length, .ref (M2.length + 1)]), some (.vl [.ref M3.length, .ref M4.length]), some (.ref (M2.length + 1)), some (.int 0)], ?_⟩
  unfold s_law_0
  rw [u9]
  simp [srcOf, Src.len, Src.fin, iw, Src.item, ai3, x0, x1, y0, y1, g8, g9, g10]
 obtain ⟨ρ', sl0⟩ := sl0
 refine ⟨M10, ?_⟩
 simp [Fn.run, akj, apy, c4, c3, c2, c1, heq, sl1, sl0]
open PySem L2
open PySem.W
theorem avp {l : OpenLaw} {w : World} {K : Frag} {h : Heap} {mg : Str -> Option Value} {fa : Addr} (X : K.In h) (G : h.Ns mainGlobals mg) (hfa : mg "law" = some (.ref fa))
 {C2 : Addr} {f0 f1 f2 f3 f4 f5 f6 f7 f8 f9 f10 f11 f12 f13 f14 f15 f16 f17 f18 f19 f20 f21 f22 : Addr}
 {od0 od1 od2 od3 od4 od5 od6 od7 od8 od9 od10 od11 od12 od13 od14 od15 od16 od17 od18 od19 od20 od21 od22 an0 an1 an2 an3 an4 an5 an6 an7 an8 an9 an10 an11 an12 an13 an14 an15 an16 an17 an18 an19 an20 an21 an22 : Option Addr} {sl0 sl1 sl2 sl3 sl4 sl5 sl6 sl7 sl8 sl9 sl10 sl11 sl12 sl13 sl14 sl15 sl16 sl17 sl18 sl19 sl20 sl21 sl22 : Array (Option Value)} {oc0 oc1 oc2 oc3 oc4 oc5 oc6 oc7 oc8 oc9 oc10 oc11 oc12 oc13 oc14 oc15 oc16 oc17 oc18 oc19 oc20 oc21 oc22 kV0 kV1 kV2 kV3 kV4 kV5 kV6 kV7 kV8 kV9 kV10 kV11 kV12 kV13 kV14 kV15 kV16 kV17 kV18 kV19 kV20 kV21 kV22 dc0 dc1 dc2 dc3 dc4 dc5 dc6 dc7 dc8 dc9 dc10 dc11 dc12 dc13 dc14 dc15 dc16 dc17 dc18 dc19 dc20 dc21 dc22 pm0 pm1 pm2 pm3 pm4 pm5 pm6 pm7 pm8 pm9 pm10 pm11 pm12 pm13 pm14 pm15 pm16 pm17 pm18 pm19 pm20 pm21 pm22 cd0 cd1 cd2 cd3 cd4 cd5 cd6 cd7 cd8 cd9 cd10 cd11 cd12 cd13 cd14 cd15 cd16 cd17 cd18 cd19 cd20 cd21 cd22 ct0 ct1 ct2 ct3 ct4 ct5 ct6 ct7 ct8 ct9 ct10 ct11 ct12 ct13 ct14 ct15 ct16 ct17 ct18 ct19 ct20 ct21 ct22 : Value}
 {tk0 tk1 tk2 : Tok}
 (aC2 : nsIn K mainGlobals "Pattern" = some (some (.ref C2)))
 (a0 : findIn K (.ref C2) "__init__" = some (some (.ref f0)))
 (i0 : isFn K (.ref f0) = true)
 (l0 : K.lookup f0 = some ⟨oc0, od0, .func (fnOf "__init__" "Pattern.__init__" (bz (inClass (top 7) 0)) (bw (inClass (top 7) 0)) (bf (inClass (top 7) 0)) .none kV0 dc0 pm0 an0 cd0 ct0), sl0⟩)
 (c0 : codeIn K cd0 "Pattern.__init__" = true)
 (k0 : keepIn K (.ref f0) = true)
 (a1 : findIn K (.ref C2) "kinds" = some (some (.ref f1)))
 (i1 : isFn K (.ref f1) = true)
 (l1 : K.lookup f1 = some ⟨oc1, od1, .func (fnOf "kinds" "Pattern.kinds" (bz (inClass (top 7) 1)) (bw (inClass (top 7) 1)) (bf (inClass (top 7) 1)) .none kV1 dc1 pm1 an1 cd1 ct1), sl1⟩)
 (c1 : codeIn K cd1 "Pattern.kinds" = true)
 (k1 : keepIn K (.ref f1) = true)
 (a2 : findIn K (.ref C2) "doings" = some (some (.ref f2)))
 (i2 : isFn K (.ref f2) = true)
 (l2 : K.lookup f2 = some ⟨oc2, od2, .func (fnOf "doings" "Pattern.doings" (bz (inClass (top 7) 2)) (bw (inClass (top 7) 2)) (bf (inClass (top 7) 2)) .none kV2 dc2 pm2 an2 cd2 ct2), sl2⟩)
 (c2 : codeIn K cd2 "Pattern.doings" = true)
 (k2 : keepIn K (.ref f2) = true)
 (a3 : findIn K (.ref C2) "behind" = some (some (.ref f3)))
 (i3 : isFn K (.ref f3) = true)
 (l3 : K.lookup f3 = some ⟨oc3, od3, .func (fnOf "behind" "Pattern.behind" (bz (inClass (top 7) 3)) (bw (inClass (top 7) 3)) (bf (inClass (top 7) 3)) .none kV3 dc3 pm3 an3 cd3 ct3), sl3⟩)
 (c3 : codeIn K cd3 "Pattern.behind" = true)
 (k3 : keepIn K (.ref f3) = true)
 (a4 : findIn K (.ref C2) "ways" = some (some (.ref f4)))
 (i4 : isFn K (.ref f4) = true)
 (l4 : K.lookup f4 = some ⟨oc4, od4, .func (fnOf "ways" "Pattern.ways" (bz (inClass (top 7) 4)) (bw (inClass (top 7) 4)) (bf (inClass (top 7) 4)) .none kV4 dc4 pm4 an4 cd4 ct4), sl4⟩)
 (c4 : codeIn K cd4 "Pattern.ways" = true)
 (k4 : keepIn K (.ref f4) = true)
 (a5 : findIn K (.ref C2) "end" = some (some (.ref f5)))
 (i5 : isFn K (.ref f5) = true)
 (l5 : K.lookup f5 = some ⟨oc5, od5, .func (fnOf "end" "Pattern.end" (bz (inClass (top 7) 5)) (bw (inClass (top 7) 5)) (bf (inClass (top 7) 5)) .none kV5 dc5 pm5 an5 cd5 ct5), sl5⟩)
 (c5 : codeIn K cd5 "Pattern.end" = true)
 (k5 : keepIn K (.ref f5) = true)
 (a6 : nsIn K mainGlobals "both_ways" = some (some (.ref f6)))
 (l6 : K.lookup f6 = some ⟨oc6, od6, .func (fnOf "both_ways" "both_ways" (bz (top 8)) (bw (top 8)) (bf (top 8)) .none kV6 dc6 pm6 an6 cd6 ct6), sl6⟩)
 (c6 : codeIn K cd6 "both_ways" = true)
 (k6 : keepIn K (.ref f6) = true)
 (a7 : nsIn K mainGlobals "meeting_pairs" = some (some (.ref f7)))
 (l7 : K.lookup f7 = some ⟨oc7, od7, .func (fnOf "meeting_pairs" "meeting_pairs" (bz (top 9)) (bw (top 9)) (bf (top 9)) .none kV7 dc7 pm7 an7 cd7 ct7), sl7⟩)
 (c7 : codeIn K cd7 "meeting_pairs" = true)
 (k7 : keepIn K (.ref f7) = true)
 (a8 : nsIn K mainGlobals "is_way_between" = some (some (.ref f8)))
 (l8 : K.lookup f8 = some ⟨oc8, od8, .func (fnOf "is_way_between" "is_way_between" (bz (top 10)) (bw (top 10)) (bf (top 10)) .none kV8 dc8 pm8 an8 cd8 ct8), sl8⟩)
 (c8 : codeIn K cd8 "is_way_between" = true)
 (k8 : keepIn K (.ref f8) = true)
 (a9 : nsIn K mainGlobals "check_doings" = some (some (.ref f9)))
 (l9 : K.lookup f9 = some ⟨oc9, od9, .func (fnOf "check_doings" "check_doings" (bz (top 11)) (bw (top 11)) (bf (top 11)) .none kV9 dc9 pm9 an9 cd9 ct9), sl9⟩)
 (c9 : codeIn K cd9 "check_doings" = true)
 (k9 : keepIn K (.ref f9) = true)
 (a10 : nsIn K mainGlobals "check_table" = some (some (.ref f10)))
 (l10 : K.lookup f10 = some ⟨oc10, od10, .func (fnOf "check_table" "check_table" (bz (top 12)) (bw (top 12)) (bf (top 12)) .none kV10 dc10 pm10 an10 cd10 ct10), sl10⟩)
 (c10 : codeIn K cd10 "check_table" = true)
 (k10 : keepIn K (.ref f10) = true)
 (a11 : nsIn K mainGlobals "check_threes" = some (some (.ref f11)))
 (l11 : K.lookup f11 = some ⟨oc11, od11, .func (fnOf "check_threes" "check_threes" (bz (top 13)) (bw (top 13)) (bf (top 13)) .none kV11 dc11 pm11 an11 cd11 ct11), sl11⟩)
 (c11 : codeIn K cd11 "check_threes" = true)
 (k11 : keepIn K (.ref f11) = true)
 (a12 : nsIn K mainGlobals "_law_cell_at" = some (some (.ref f12)))
 (l12 : K.lookup f12 = some ⟨oc12, od12, .func (fnOf "_law_cell_at" "_law_cell_at" (bz (top 15)) (bw (top 15)) (bf (top 15)) .none kV12 dc12 pm12 an12 cd12 ct12), sl12⟩)
 (c12 : codeIn K cd12 "_law_cell_at" = true)
 (k12 : keepIn K (.ref f12) = true)
 (a13 : nsIn K mainGlobals "_law_state" = some (some (.ref f13)))
 (l13 : K.lookup f13 = some ⟨oc13, od13, .func (fnOf "_law_state" "_law_state" (bz (top 16)) (bw (top 16)) (bf (top 16)) .none kV13 dc13 pm13 an13 cd13 ct13), sl13⟩)
 (c13 : codeIn K cd13 "_law_state" = true)
 (k13 : keepIn K (.ref f13) = true)
 (a14 : nsIn K mainGlobals "_law_take" = some (some (.ref f14)))
 (l14 : K.lookup f14 = some ⟨oc14, od14, .func (fnOf "_law_take" "_law_take" (bz (top 17)) (bw (top 17)) (bf (top 17)) .none kV14 dc14 pm14 an14 cd14 ct14), sl14⟩)
 (c14 : codeIn K cd14 "_law_take" = true)
 (k14 : keepIn K (.ref f14) = true)
 (a15 : nsIn K mainGlobals "_law_begun" = some (some (.ref f15)))
 (l15 : K.lookup f15 = some ⟨oc15, od15, .func (fnOf "_law_begun" "_law_begun" (bz (top 18)) (bw (top 18)) (bf (top 18)) .none kV15 dc15 pm15 an15 cd15 ct15), sl15⟩)
 (c15 : codeIn K cd15 "_law_begun" = true)
 (k15 : keepIn K (.ref f15) = true)
 (a16 : nsIn K mainGlobals "_law_closed" = some (some (.ref f16)))
 (l16 : K.lookup f16 = some ⟨oc16, od16, .func (fnOf "_law_closed" "_law_closed" (bz (top 19)) (bw (top 19)) (bf (top 19)) .none kV16 dc16 pm16 an16 cd16 ct16), sl16⟩)
 (c16 : codeIn K cd16 "_law_closed" = true)
 (k16 : keepIn K (.ref f16) = true)
 (a17 : nsIn K mainGlobals "_law_pattern" = some (some (.ref f17)))
 (l17 : K.lookup f17 = some ⟨oc17, od17, .func (fnOf "_law_pattern" "_law_pattern" (bz (top 20)) (bw (top 20)) (bf (top 20)) .none kV17 dc17 pm17 an17 cd17 ct17), sl17⟩)
 (c17 : codeIn K cd17 "_law_pattern" = true)
 (k17 : keepIn K (.ref f17) = true)
 (a18 : nsIn K mainGlobals "_law_ways" = some (some (.ref f18)))
 (l18 : K.lookup f18 = some ⟨oc18, od18, .func (fnOf "_law_ways" "_law_ways" (bz (top 21)) (bw (top 21)) (bf (top 21)) .none kV18 dc18 pm18 an18 cd18 ct18), sl18⟩)
 (c18 : codeIn K cd18 "_law_ways" = true)
 (k18 : keepIn K (.ref f18) = true)
 (a19 : nsIn K mainGlobals "_law_end" = some (some (.ref f19)))
 (l19 : K.lookup f19 = some ⟨oc19, od19, .func (fnOf "_law_end" "_law_end" (bz (top 22)) (bw (top 22)) (bf (top 22)) .none kV19 dc19 pm19 an19 cd19 ct19), sl19⟩)
 (c19 : codeIn K cd19 "_law_end" = true)
 (k19 : keepIn K (.ref f19) = true)
 (a20 : nsIn K mainGlobals "_law_behind" = some (some (.ref f20)))
 (l20 : K.lookup f20 = some ⟨oc20, od20, .func (fnOf "_law_behind" "_law_behind" (bz (top 23)) (bw (top 23)) (bf (top 23)) .none kV20 dc20 pm20 an20 cd20 ct20), sl20⟩)
 (c20 : codeIn K cd20 "_law_behind" = true)
 (k20 : keepIn K (.ref f20) = true)
 (a21 : nsIn K mainGlobals "_law_told" = some (some (.ref f21)))
 (l21 : K.lookup f21 = some ⟨oc21, od21, .func (fnOf "_law_told" "_law_told" (bz (top 24)) (bw (top 24)) (bf (top 24)) .none kV21 dc21 pm21 an21 cd21 ct21), sl21⟩)
 (c21 : codeIn K cd21 "_law_told" = true)
 (k21 : keepIn K (.ref f21) = true)
 (a22 : nsIn K mainGlobals "law" = some (some (.ref f22)))
 (l22 : K.lookup f22 = some ⟨oc22, od22, .func (fnOf "law" "law" (bz (top 25)) (bw (top 25)) (bf (top 25)) .none kV22 dc22 pm22 an22 cd22 ct22), sl22⟩)
 (c22 : codeIn K cd22 "law" = true)
 (k22 : keepIn K (.ref f22) = true)
 (pg2 : plainGet K C2 Str.empty = true)
 (hd2 : hasDictIn K C2 = true)
 (po2 : plainOver K C2 = true)
 (sa2 : findIn K (.ref C2) "__setattr__" = some (some (.builtin "object.__setattr__")))
 (mk2 : makesIn K C2 = true)
 (kc2 : keepIn K (.ref C2) = true)
 (n2_0 : findIn K (.ref C2) "together" = some none)
 (n2_1 : findIn K (.ref C2) "doing_ends" = some none)
 (n2_2 : findIn K (.ref C2) "kind_count" = some none)
 (v0 : nsIn K mainGlobals "STAYING" = some (some (.int (-1) tk0)))
 (v1 : nsIn K mainGlobals "MOST_KINDS" = some (some (.int (3) tk1)))
 (v2 : nsIn K mainGlobals "MOST_DOINGS" = some (some (.int (5) tk2)))
 (z0 : nsIn K mainGlobals "len" = some none)
 (z1 : nsIn K mainGlobals "tuple" = some none)
 (z2 : nsIn K mainGlobals "list" = some none)
 (z3 : nsIn K mainGlobals "dict" = some none)
 (z4 : nsIn K mainGlobals "max" = some none)
 (z5 : nsIn K mainGlobals "min" = some none)
 (z6 : nsIn K mainGlobals "isinstance" = some none)
 (z7 : nsIn K mainGlobals "range" = some none)
 (z8 : nsIn K mainGlobals "enumerate" = some none)
 (z9 : nsIn K mainGlobals "set" = some none)
 : ∃ fd : FuncData, (∀ (s : Shared) (v : Value), BindsTo s fd ⟨[v], []⟩ [("script", v)]) /\ ∀ base : Heap, K.In base -> base.Ns mainGlobals mg -> FnOk l.prog w K mg base CX0 170 fa fd ["script"] (Ck.agf K) := by
 have e := (mg_of X G a22).symm.trans hfa
 cases e
 have F0 := fc (st := inClass (top 7) 0) l0 c0 k0
 have b0 := F0.binds (ps := ["self", "kinds", "doings", "table"]) fun _ _ _ _ _ _ us hl => match us, hl with | [_, _, _, _], _ => rfl
 have F1 := fc (st := inClass (top 7) 1) l1 c1 k1
 have b1 := F1.binds (ps := ["self"]) fun _ _ _ _ _ _ us hl => match us, hl with | [_], _ => rfl
 have F2 := fc (st := inClass (top 7) 2) l2 c2 k2
 have b2 := F2.binds (ps := ["self"]) fun _ _ _ _ _ _ us hl => match us, hl with | [_], _ => rfl
 have F3 := fc (st := inClass (top 7) 3) l3 c3 k3
 have b3 := F3.binds (ps := ["self", "one", "other"]) fun _ _ _ _ _ _ us hl => match us, hl with | [_, _, _], _ => rfl
 have F4 := fc (st := inClass (top 7) 4) l4 c4 k4
 have b4 := F4.binds (ps := ["self", "kind"]) fun _ _ _ _ _ _ us hl => match us, hl with | [_, _], _ => rfl
 have F5 := fc (st := inClass (top 7) 5) l5 c5 k5
 have b5 := F5.binds (ps := ["self", "kind", "way"]) fun _ _ _ _ _ _ us hl => match us, hl with | [_, _, _], _ => rfl
 have F6 := fc (st := top 8) l6 c6 k6
 have b6 := F6.binds (ps := ["table", "one", "other"]) fun _ _ _ _ _ _ us hl => match us, hl with | [_, _, _], _ => rfl
 have F7 := fc (st := top 9) l7 c7 k7
 have b7 := F7.binds (ps := ["doings"]) fun _ _ _ _ _ _ us hl => match us, hl with | [_], _ => rfl
 have F8 := fc (st := top 10) l8 c8 k8
 have b8 := F8.binds (ps := ["doings", "way", "start", "goal"]) fun _ _ _ _ _ _ us hl => match us, hl with | [_, _, _, _], _ => rfl
 have F9 := fc (st := top 11) l9 c9 k9
 have b9 := F9.binds (ps := ["kinds", "doings"]) fun _ _ _ _ _ _ us hl => match us, hl with | [_, _], _ => rfl
 have F10 := fc (st := top 12) l10 c10 k10
 have b10 := F10.binds (ps := ["doings", "table"]) fun _ _ _ _ _ _ us hl => match us, hl with | [_, _], _ => rfl
 have F11 := fc (st := top 13) l11 c11 k11
 have b11 := F11.binds (ps := ["doings", "table"]) fun _ _ _ _ _ _ us hl => match us, hl with | [_, _], _ => rfl
 have F12 := fc (st := top 15) l12 c12 k12
 have b12 := F12.binds (ps := ["script", "k"]) fun _ _ _ _ _ _ us hl => match us, hl with | [_, _], _ => rfl
 have F13 := fc (st := top 16) l13 c13 k13
 have b13 := F13.binds (ps := ["script", "k"]) fun _ _ _ _ _ _ us hl => match us, hl with | [_, _], _ => rfl
 have F14 := fc (st := top 17) l14 c14 k14
 have b14 := F14.binds (ps := ["state", "many"]) fun _ _ _ _ _ _ us hl => match us, hl with | [_, _], _ => rfl
 have F15 := fc (st := top 18) l15 c15 k15
 have b15 := F15.binds (ps := ["state"]) fun _ _ _ _ _ _ us hl => match us, hl with | [_], _ => rfl
 have F16 := fc (st := top 19) l16 c16 k16
 have b16 := F16.binds (ps := ["begun"]) fun _ _ _ _ _ _ us hl => match us, hl with | [_], _ => rfl
 have F17 := fc (st := top 20) l17 c17 k17
 have b17 := F17.binds (ps := ["state"]) fun _ _ _ _ _ _ us hl => match us, hl with | [_], _ => rfl
 have F18 := fc (st := top 21) l18 c18 k18
 have b18 := F18.binds (ps := ["pat", "kind"]) fun _ _ _ _ _ _ us hl => match us, hl with | [_, _], _ => rfl
 have F19 := fc (st := top 22) l19 c19 k19
 have b19 := F19.binds (ps := ["pat", "kind", "way"]) fun _ _ _ _ _ _ us hl => match us, hl with | [_, _, _], _ => rfl
 have F20 := fc (st := top 23) l20 c20 k20
 have b20 := F20.binds (ps := ["pat", "one", "other"]) fun _ _ _ _ _ _ us hl => match us, hl with | [_, _, _], _ => rfl
 have F21 := fc (st := top 24) l21 c21 k21
 have b21 := F21.binds (ps := ["pattern", "pat"]) fun _ _ _ _ _ _ us hl => match us, hl with | [_, _], _ => rfl
 have F22 := fc (st := top 25) l22 c22 k22
 have b22 := F22.binds (ps := ["script"]) fun _ _ _ _ _ _ us hl => match us, hl with | [_], _ => rfl
 have aF : Ck.AllF K Ds sts [f0, f1, f2, f3, f4, f5, f6, f7, f8, f9, f10, f11, f12, f13, f14, f15, f16, f17, f18, f19, f20, f21, fa] [_, _, _, _, _, _, _, _, _, _, _, _, _, _, _, _, _, _, _, _, _, _, _] := (Ck.fC F0 b0 (Ck.fC F1 b1 (Ck.fC F2 b2 (Ck.fC F3 b3 (Ck.fC F4 b4 (Ck.fC F5 b5 (Ck.fC F6 b6 (Ck.fC F7 b7 (Ck.fC F8 b8 (Ck.fC F9 b9 (Ck.fC F10 b10 (Ck.fC F11 b11 (Ck.fC F12 b12 (Ck.fC F13 b13 (Ck.fC F14 b14 (Ck.fC F15 b15 (Ck.fC F16 b16 (Ck.fC F17 b17 (Ck.fC F18 b18 (Ck.fC F19 b19 (Ck.fC F20 b20 (Ck.fC F21 b21 (Ck.fC F22 b22 Ck.fN)))))))))))))))))))))))
 have aG : Ck.AllG mg tab.fns [f0, f1, f2, f3, f4, f5, f6, f7, f8, f9, f10, f11, f12, f13, f14, f15, f16, f17, f18, f19, f20, f21, fa] := (Ck.gO (Ck.gO (Ck.gO (Ck.gO (Ck.gO (Ck.gO (Ck.gS (mg_of X G a6) (Ck.gS (mg_of X G a7) (Ck.gS (mg_of X G a8) (Ck.gS (mg_of X G a9) (Ck.gS (mg_of X G a10) (Ck.gS (mg_of X G a11) (Ck.gS (mg_of X G a12) (Ck.gS (mg_of X G a13) (Ck.gS (mg_of X G a14) (Ck.gS (mg_of X G a15) (Ck.gS (mg_of X G a16) (Ck.gS (mg_of X G a17) (Ck.gS (mg_of X G a18) (Ck.gS (mg_of X G a19) (Ck.gS (mg_of X G a20) (Ck.gS (mg_of X G a21) (Ck.gS (mg_of X G a22) Ck.gN)))))))))))))))))))))))
 have aC : Ck.AllC K mg tab [f0, f1, f2, f3, f4, f5, f6, f7, f8, f9, f10, f11, f12, f13, f14, f15, f16, f17, f18, f19, f20, f21, fa] tab.cls [none, none, some C2] prog.cls := (Ck.cO (Ck.cO (Ck.cS ⟨mg_of X G aC2, ⟨pg2, hd2, po2, sa2⟩, ⟨_, rfl, ⟨mk2, a0, i0, kc2⟩⟩, (Ck.mC rfl rfl ⟨a1, i1, k1⟩ (Ck.mC rfl rfl ⟨a2, i2, k2⟩ (Ck.mC rfl rfl ⟨a3, i3, k3⟩ (Ck.mC rfl rfl ⟨a4, i4, k4⟩ (Ck.mC rfl rfl ⟨a5, i5, k5⟩ Ck.mN))))), (Ck.nC n2_0 (Ck.nC n2_1 (Ck.nC n2_2 Ck.nN)))⟩ Ck.cN)))
 have aV : Ck.AllV mg tab.csts := (Ck.vC (mg_of X G v0) (Ck.vC (mg_of X G v1) (Ck.vC (mg_of X G v2) Ck.vN)))
 have aB : Ck.AllB mg Ck.wz := (Ck.bC (mg_none_of X G z0) (Ck.bC (mg_none_of X G z1) (Ck.bC (mg_none_of X G z2) (Ck.bC (mg_none_of X G z3) (Ck.bC (mg_none_of X G z4) (Ck.bC (mg_none_of X G z5) (Ck.bC (mg_none_of X G z6) (Ck.bC (mg_none_of X G z7) (Ck.bC (mg_none_of X G z8) (Ck.bC (mg_none_of X G z9) Ck.bN))))))))))
 refine ⟨fnOf "law" "law" (bz (top 25)) (bw (top 25)) (bf (top 25)) .none kV22 dc22 pm22 an22 cd22 ct22, fun s v => .of_eq rfl, fun base _ _ => ?_⟩
 obtain ⟨d, a, f, g1, g2, g3, g4, g5⟩ := Ck.avv (P := l.prog) (w := w) (base := base) (n := 10) (i := 22) (F := akj) azr chk a0e a0g a0b aF aG aC aV aB (Ck.am5 K) rfl
 cases g1; cases g2; cases g3
 exact g5.imp fun vs H Q E hh => Ck.aqx (fun ns hl => auy (by decide)) hh
end K01
open PySem PySem.W PyProof.Rows
namespace PySem.W.Fast
theorem tw6412546841758730977 : True := .intro
theorem tw13575426576366601895 : True := .intro
theorem tw10455554230645418685 : True := .intro
theorem tw3274657578413245340 : True := .intro
theorem tw3274541307148806614 : True := .intro
theorem tw16631966497639466633 : True := .intro
theorem tw10965816345486534866 : True := .intro
theorem tw14554337356895606937 : True := .intro
theorem tw16061510200368330940 : True := .intro
theorem tw8436844110089565186 : True := .intro
theorem tw15889026184945916800 : True := .intro
theorem tw9904010901617868750 : True := .intro
theorem tw14231988690906845117 : True := .intro
theorem tw15468099368376552280 : True := .intro
theorem tw2262066585330802647 : True := .intro
theorem tw5201682252084576570 : True := .intro
theorem tw4369257247865094035 : True := .intro
theorem tw10853878609204961854 : True := .intro
theorem tw11127924423795576243 : True := .intro
theorem tw11905288077902762611 : True := .intro
theorem tw17636315376164470577 : True := .intro
theorem tw1475174202862710997 : True := .intro
theorem tw12334924770072390474 : True := .intro
theorem tw14262000644977976296 : True := .intro
theorem tw7064757056456905890 : True := .intro
theorem tw9524721077704242942 : True := .intro
theorem tw15809062171609736208 : True := .intro
theorem tw10908382981986321956 : True := .intro
theorem tw15360865392928723394 : True := .intro
theorem tw6556991407767752471 : True := .intro
theorem tw12465900915980876709 : True := .intro
theorem tw3180333092349914130 : True := .intro
theorem tw8278008687126390572 : True := .intro
theorem tw7836703602692818834 : True := .intro
theorem tw8447402434475698297 : True := .intro
theorem tw425968635902445337 : True := .intro
theorem tw7956397463475980437 : True := .intro
theorem tw2743272180282829531 : True := .intro
theorem tw9336606286183896632 : True := .intro
theorem tw8905191129166074192 : True := .intro
theorem tw2149830855616181666 : True := .intro
theorem tw16702943932451146345 : True := .intro
theorem tw13492424756516357431 : True := .intro
theorem tw13402837706800602999 : True := .intro
theorem tw15201558645764788452 : True := .intro
theorem tw7001324943201756349 : True := .intro
theorem tw7425568566035455351 : True := .intro
theorem tw11420662816158614918 : True := .intro
theorem tw9896431452155651527 : True := .intro
theorem tw162073589498127025 : True := .intro
theorem tw10417045206416765574 : True := .intro
theorem tw15123752995329346825 : True := .intro
theorem tw10225007450189747238 : True := .intro
theorem tw772362335271980150 : True := .intro
theorem tw8486430712404019853 : True := .intro
theorem tw12401738753214456510 : True := .intro
theorem tw14124893253966816053 : True := .intro
theorem tw14775218464209790006 : True := .intro
theorem tw14281933014090514918 : True := .intro
theorem tw8761413936782891761 : True := .intro
theorem tw8389722364680215112 : True := .intro
theorem tw14846157049782341944 : True := .intro
theorem tw18316223945359657551 : True := .intro
theorem tw14695698811879860332 : True := .intro
theorem tw2506645401616201060 : True := .intro
theorem tw3241691445670995455 : True := .intro
theorem tw10144721698843881485 : True := .intro
theorem tw8403489415405531622 : True := .intro
theorem tw3076150401436035346 : True := .intro
theorem tw10317571503961069516 : True := .intro
end PySem.W.Fast
set_option maxRecDepth 100000 in
set_option maxHeartbeats 0 in
theorem PySem.Challenge.cw_mapwright_k01_patterns_told_holds : PySem.Challenge.rw_mapwright_k01_patterns_told.Holds := by
 w_on; o_law; k_head; (case hw => w_witness2)
 k_fill
 refine Ck.walk (l := PySem.Challenge.rw_mapwright_k01_patterns_told) rfl rfl (fun w h Y => PySem.W.kIn_of Y) ?F
 case F =>
  intro w mg fa h KX G hmg
  refine' K01.avp KX G hmg ?aC2 ?a0 ?i0 ?l0 ?c0 ?k0 ?a1 ?i1 ?l1 ?c1 ?k1 ?a2 ?i2 ?l2 ?c2 ?k2 ?a3 ?i3 ?l3 ?c3 ?k3 ?a4 ?i4 ?l4 ?c4 ?k4 ?a5 ?i5 ?l5 ?c5 ?k5 ?a6 ?l6 ?c6 ?k6 ?a7 ?l7 ?c7 ?k7 ?a8 ?l8 ?c8 ?k8 ?a9 ?l9 ?c9 ?k9 ?a10 ?l10 ?c10 ?k10 ?a11 ?l11 ?c11 ?k11 ?a12 ?l12 ?c12 ?k12 ?a13 ?l13 ?c13 ?k13 ?a14 ?l14 ?c14 ?k14 ?a15 ?l15 ?c15 ?k15 ?a16 ?l16 ?c16 ?k16 ?a17 ?l17 ?c17 ?k17 ?a18 ?l18 ?c18 ?k18 ?a19 ?l19 ?c19 ?k19 ?a20 ?l20 ?c20 ?k20 ?a21 ?l21 ?c21 ?k21 ?a22 ?l22 ?c22 ?k22 ?pg2 ?hd2 ?po2 ?sa2 ?mk2 ?kc2 ?n2_0 ?n2_1 ?n2_2 ?v0 ?v1 ?v2 ?z0 ?z1 ?z2 ?z3 ?z4 ?z5 ?z6 ?z7 ?z8 ?z9
  case aC2 => k_is
  case a0 => k_is
  case i0 => k_is
  case l0 => k_is
  case c0 => k_is
  case k0 => k_is
  case a1 => k_is
  case i1 => k_is
  case l1 => k_is
  case c1 => k_is
  case k1 => k_is
  case a2 => k_is
  case i2 => k_is
  case l2 => k_is
  case c2 => k_is
  case k2 => k_is
  case a3 => k_is
  case i3 => k_is
  case l3 => k_is
  case c3 => k_is
  case k3 => k_is
  case a4 => k_is
  case i4 => k_is
  case l4 => k_is
  case c4 => k_is
  case k4 => k_is
  case a5 => k_is
  case i5 => k_is
  case l5 => k_is
  case c5 => k_is
  case k5 => k_is
  case a6 => k_is
  case l6 => k_is
  case c6 => k_is
  case k6 => k_is
  case a7 => k_is
  case l7 => k_is
  case c7 => k_is
  case k7 => k_is
  case a8 => k_is
  case l8 => k_is
  case c8 => k_is
  case k8 => k_is
  case a9 => k_is
  case l9 => k_is
  case c9 => k_is
  case k9 => k_is
  case a10 => k_is
  case l10 => k_is
  case c10 => k_is
  case k10 => k_is
  case a11 => k_is
  case l11 => k_is
  case c11 => k_is
  case k11 => k_is
  case a12 => k_is
  case l12 => k_is
  case c12 => k_is
  case k12 => k_is
  case a13 => k_is
  case l13 => k_is
  case c13 => k_is
  case k13 => k_is
  case a14 => k_is
  case l14 => k_is
  case c14 => k_is
  case k14 => k_is
  case a15 => k_is
  case l15 => k_is
  case c15 => k_is
  case k15 => k_is
  case a16 => k_is
  case l16 => k_is
  case c16 => k_is
  case k16 => k_is
  case a17 => k_is
  case l17 => k_is
  case c17 => k_is
  case k17 => k_is
  case a18 => k_is
  case l18 => k_is
  case c18 => k_is
  case k18 => k_is
  case a19 => k_is
  case l19 => k_is
  case c19 => k_is
  case k19 => k_is
  case a20 => k_is
  case l20 => k_is
  case c20 => k_is
  case k20 => k_is
  case a21 => k_is
  case l21 => k_is
  case c21 => k_is
  case k21 => k_is
  case a22 => k_is
  case l22 => k_is
  case c22 => k_is
  case k22 => k_is
  case pg2 => k_is
  case hd2 => k_is
  case po2 => k_is
  case sa2 => k_is
  case mk2 => k_is
  case kc2 => k_is
  case n2_0 => k_is
  case n2_1 => k_is
  case n2_2 => k_is
  case v0 => k_is
  case v1 => k_is
  case v2 => k_is
  case z0 => k_is
  case z1 => k_is
  case z2 => k_is
  case z3 => k_is
  case z4 => k_is
  case z5 => k_is
  case z6 => k_is
  case z7 => k_is
  case z8 => k_is
  case z9 => k_is
