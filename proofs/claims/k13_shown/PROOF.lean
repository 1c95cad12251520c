import PyProof.Rows.All
import Wide.All
import OpenK.AllK
import Wide.FinOn
import Lean
import PyProof.EqAt
import PyProof.EqKinds
import PyProof.TupleCall

import PySem.Challenge.RW_inkmelt_k13_shown

set_option Elab.async false
set_option linter.all false
set_option maxRecDepth 100000
/-! THE HAND LAYER, for ints, bools, texts, own classes, LISTS and tuples (index, slices, in, append, pop ..), calls, loops. Paste it whole ahead of your own text; what your proof does not reach may be deleted. -/
namespace L2
open PySem PySem.Spec PyProof.Rows

/-- a key: an int or a str -/
abbrev Key := Sum Int Str
def keyIs : Key → Value → Bool
  | .inl k, v => Value.isInt k v
  | .inr x, v => Value.isStrOf x v
def keyH (w : World) : Key → Int
  | .inl k => hashInt k
  | .inr x => hashStr w x
theorem keyIs_shape : ∀ {k : Key} {v : Value}, keyIs k v = true → (∃ i t, k = Sum.inl i ∧ v = Value.int i t) ∨ (∃ x t, k = Sum.inr x ∧ v = Value.str x t)
  | .inl i, v, h => by
    obtain ⟨t, e⟩ := Value.isInt_shape (k := i) (v := v) h
    exact .inl ⟨i, t, rfl, e⟩
  | .inr x, v, h => by
    obtain ⟨t, e⟩ := Value.isStrOf_shape (x := x) (v := v) h
    exact .inr ⟨x, t, rfl, e⟩
theorem key_ll (a b : Int) : decide ((Sum.inl a : Key) = Sum.inl b) = (a == b) := by
  by_cases e : a = b
  · subst e; simp
  · have h : ¬ (Sum.inl a : Key) = Sum.inl b := fun q => e (Sum.inl.inj q)
    rw [decide_eq_false h]
    exact (beq_eq_false_iff_ne.mpr e).symm
theorem key_rr (a b : Str) : decide ((Sum.inr a : Key) = Sum.inr b) = decide (a = b) := by
  by_cases e : a = b
  · subst e; simp
  · have h : ¬ (Sum.inr a : Key) = Sum.inr b := fun q => e (Sum.inr.inj q)
    rw [decide_eq_false h, decide_eq_false e]
theorem key_lr (a : Int) (b : Str) : decide ((Sum.inl a : Key) = Sum.inr b) = false := decide_eq_false (fun q => nomatch q)
theorem key_rl (a : Str) (b : Int) : decide ((Sum.inr a : Key) = Sum.inl b) = false := decide_eq_false (fun q => nomatch q)

def mixKind (prog : Program) (w : World) : PySem.KeyKind prog w Key where
  is := keyIs
  hash := keyH w
  inj := fun v a b ha hb => by
    rcases keyIs_shape ha with ⟨i, t, rfl, rfl⟩ | ⟨x, t, rfl, rfl⟩
    · rcases keyIs_shape hb with ⟨j, u, rfl, e⟩ | ⟨y, u, rfl, e⟩
      · injection e with e1 _; rw [e1]
      · exact nomatch e
    · rcases keyIs_shape hb with ⟨j, u, rfl, e⟩ | ⟨y, u, rfl, e⟩
      · exact nomatch e
      · injection e with e1 _; rw [e1]
  byValue := fun k v h => by
    rcases keyIs_shape h with ⟨i, t, rfl, rfl⟩ | ⟨x, t, rfl, rfl⟩ <;> rfl
  pyHash := fun hv h => by
    rcases keyIs_shape hv with ⟨i, t, rfl, rfl⟩ | ⟨x, t, rfl, rfl⟩
    · exact wpAny_pyHash_int h
    · exact wpAny_pyHash_str h
  eqBool := fun hu hv h => by
    rcases keyIs_shape hu with ⟨i, t, rfl, rfl⟩ | ⟨x, t, rfl, rfl⟩
    · rcases keyIs_shape hv with ⟨j, u, rfl, rfl⟩ | ⟨y, u, rfl, rfl⟩
      · rw [key_ll] at h; exact wpAny_eqBool_int h
      · rw [key_lr] at h; exact SeqAt.EqAt.int_str i t y u _ _ _ _ h
    · rcases keyIs_shape hv with ⟨j, u, rfl, rfl⟩ | ⟨y, u, rfl, rfl⟩
      · rw [key_rl] at h; exact SeqAt.EqAt.str_int x t j u _ _ _ _ h
      · rw [key_rr] at h; exact wpAny_eqBool_str h
  «strs» := fun k x t v h => by
    rcases keyIs_shape h with ⟨i, u, rfl, e⟩ | ⟨y, u, rfl, e⟩
    · exact nomatch e
    · injection e with e1 _
      subst e1
      cases v <;> rfl

end L2

namespace L2
open PySem PySem.Spec PyProof.Rows

/-- a value, without the heap -/
inductive V where
  | non | bl (b : Bool) | int (i : Int) | str (x : Str) | byt (b : Array UInt8) | flt (b : UInt64) | ref (a : Addr) | ty (n : String)
  deriving DecidableEq

def RelV : V → Value → Prop
  | .non, u => u = Value.none
  | .bl b, u => u = Value.bool b
  | .int i, u => ∃ t, u = Value.int i t
  | .str x, u => ∃ t, u = Value.str x t
  | .byt b, u => ∃ t, u = Value.bytes b t
  | .flt b, u => ∃ t, u = Value.float b t
  | .ref a, u => u = Value.ref a
  | .ty n, u => u = Value.type n

abbrev Vals : List V → List Value → Prop := Paired RelV
theorem Vals.length {xs : List V} {us : List Value} (r : Vals xs us) : xs.length = us.length := Paired.length r
theorem Vals.get : ∀ {xs : List V} {us : List Value} {i : Nat} {x : V}, Vals xs us → xs[i]? = some x → ∃ u, us[i]? = some u ∧ RelV x u
  | _, _, _, _, .nil, e => by simp at e
  | _, _, 0, _, .cons r _, e => by simp at e; subst e; exact ⟨_, rfl, r⟩
  | _, _, i + 1, x, .cons _ t, e => by
    obtain ⟨u, h1, h2⟩ := Vals.get (i := i) (x := x) t (by simpa using e)
    exact ⟨u, by simpa using h1, h2⟩
theorem Vals.set {x : V} {u : Value} (r : RelV x u) : ∀ {xs : List V} {us : List Value} (i : Nat), Vals xs us → Vals (xs.set i x) (us.set i u)
  | _, _, _, .nil => .nil
  | _, _, 0, .cons _ t => .cons r t
  | _, _, i + 1, .cons q t => .cons q (Vals.set r i t)
theorem Vals.append : ∀ {xs ys : List V} {us ws : List Value}, Vals xs us → Vals ys ws → Vals (xs ++ ys) (us ++ ws)
  | _, _, _, _, .nil, s => s
  | _, _, _, _, .cons r t, s => .cons r (Vals.append t s)
theorem Vals.take : ∀ {xs : List V} {us : List Value} (n : Nat), Vals xs us → Vals (xs.take n) (us.take n)
  | _, _, 0, _ => .nil
  | _, _, _ + 1, .nil => .nil
  | _, _, n + 1, .cons r t => .cons r (Vals.take n t)
theorem Vals.drop : ∀ {xs : List V} {us : List Value} (n : Nat), Vals xs us → Vals (xs.drop n) (us.drop n)
  | _, _, 0, r => r
  | _, _, _ + 1, .nil => .nil
  | _, _, n + 1, .cons _ t => Vals.drop n t
def RelO : Option V → Option Value → Prop
  | some v, some u => RelV v u
  | none, none => True
  | _, _ => False
def KV {κ : Type} : List (κ × V) → List (κ × Value) → Prop := Paired fun (p : κ × V) (q : κ × Value) => p.1 = q.1 ∧ RelV p.2 q.2

/-- a key of a dict (00_mix): an int or a text -/
def kV : Key → V
  | .inl i => .int i
  | .inr x => .str x

/-- what stands at a tracked address -/
inductive HO where
  /-- a list -/
  | lst (xs : List V)
  /-- a tuple (never changes) -/
  | tup (xs : List V)
  /-- a dict whose keys are ints and texts; one whose keys are tuples of ints and texts (the empty one is both) -/
  | dK (kvs : List (Key × V)) | dT (kvs : List (List Key × V))
  /-- a set of ints: its members, its size -/
  | set (S : Int → Bool) (n : Nat)
  /-- an instance of the class at C, its dict at dx, its attributes -/
  | ins (C dx : Addr) (fs : List (Str × V))
  /-- the dict of the instance at x -/
  | own (x : Addr)
  /-- the dict of an exception -/
  | xd (fs : List (Str × V))
  /-- a bound method, f of x -/
  | met (f x : Addr)
  /-- a range object lo, lo + 1, .. below hi -/
  | rng (lo hi : Int)
  /-- a thing that is known to the object (the script; a dict while a loop walks it): read, never written while it is so -/
  | frz (o : Obj) (u : HO)
  /-- a code object's table -/
  | tbl (ps : Array Value)
  /-- any other thing, by what is true of its one object (a def of one's own: SetO a S n := HO.ext fun h => ..) -/
  | ext (φ : Heap → Prop)

abbrev Hp := Addr → Option HO
def upd (H : Hp) (a : Addr) (o : HO) : Hp := fun b => if b = a then some o else H b
theorem upd_same {H : Hp} {a : Addr} {o : HO} : upd H a o a = some o := by unfold upd; rw [if_pos rfl]
theorem upd_ne {H : Hp} {a b : Addr} {o : HO} (h : b ≠ a) : upd H a o b = H b := by unfold upd; rw [if_neg h]
theorem ne_of_none {H : Hp} {a b : Addr} {o : HO} (h : H a = some o) (h' : H b = none) : a ≠ b := by
  intro e; subst e; rw [h] at h'; cases h'

section
variable (P : Program) (w : World)
def ObjOk (H : Hp) (h : Heap) (a : Addr) : HO → Prop
  | .lst xs => xs.length ≤ sizeLine ∧ ∃ (its : List Value) (n : Nat), Vals xs its ∧ h.get? a = some { cls := .type "list", data := .seq its.toArray n }
  | .tup xs => xs.length ≤ sizeLine ∧ ∃ its : List Value, Vals xs its ∧ IsTup h a its.toArray
  | .dK kvs => kvs.length ≤ sizeLine ∧ (a == sysModules) = false ∧ ∃ vs, KV kvs vs ∧ h.DictOf (mixKind P w) a vs
  | .dT kvs => kvs.length ≤ sizeLine ∧ (a == sysModules) = false ∧ ∃ xs : List (List Key × Addr × Value),
      Paired (fun (p : List Key × V) (q : List Key × Addr × Value) => p.1 = q.1 ∧ H q.2.1 = some (.tup (p.1.map kV)) ∧ RelV p.2 q.2.2) kvs xs ∧
      ∃ o es ep, h.get? a = some o ∧ o.ExactDict ∧ o.data = .dict es ep ∧ es.toList = xs.map (entryOfKey (tupleKind (mixKind P w))) ∧ (xs.map (·.1)).Nodup
  | .set S n => h.SetOf (intKind P w) a S n
  | .ins C dx fs => H dx = some (.own a) ∧ fs.length ≤ 1000 ∧ dx ≠ a ∧ h.get? a = some (PySem.W.instObj C dx) ∧
      ∃ mA, h.Ns1 dx mA ∧ (∀ f, RelO (fs.lookup f) (mA f)) ∧ PySem.Within mA (fs.map (·.1))
  | .own _ => ∃ o, h.get? a = some o
  | .xd fs => ∃ mA, h.Ns1 a mA ∧ ∀ f, RelO (fs.lookup f) (mA f)
  | .rng lo hi => ∃ t u v, h.get? a = some { cls := .type "range", data := .fields #[.int lo t, .int hi u, .int 1 v] }
  | .frz o u => h.get? a = some o ∧ ObjOk H h a u
  | .tbl ps => h.get? a = some { cls := .none, data := .fields ps }
  | .met f x => h.get? a = some (PySem.W.methodObj (.ref f) (.ref x))
  | .ext φ => φ h ∧ (∃ o, h.get? a = some o) ∧ ∀ h1 h2 : Heap, φ h1 → (∀ o, h1.get? a = some o → h2.get? a = some o) → φ h2
/-- the abstract heap is held -/
def HOk (H : Hp) (h : Heap) : Prop := ∀ a o, H a = some o → ObjOk P w H h a o
end

section
variable {P : Program} {w : World} {H H' : Hp} {h h' : Heap} {a : Addr} {o : HO}
theorem ObjOk.lt (x : ObjOk P w H h a o) : a < h.objs.size := by
  cases o with
  | lst xs => obtain ⟨_, _, _, _, e⟩ := x; exact Heap.lt_size e
  | tup xs => obtain ⟨_, _, _, p⟩ := x; exact p.lt
  | dK kvs => obtain ⟨_, _, _, _, o, _, _, e, _⟩ := x; exact Heap.lt_size e
  | dT kvs => obtain ⟨_, _, _, _, o, _, _, e, _⟩ := x; exact Heap.lt_size e
  | set S n => obtain ⟨o, _, _, _, e, _⟩ := x; exact Heap.lt_size e
  | ins C dx fs => obtain ⟨_, _, _, e, _⟩ := x; exact Heap.lt_size e
  | own y => obtain ⟨_, e⟩ := x; exact Heap.lt_size e
  | xd fs => obtain ⟨_, ⟨_, _, _, e, _⟩, _⟩ := x; exact Heap.lt_size e
  | rng lo hi => obtain ⟨_, _, _, e⟩ := x; exact Heap.lt_size e
  | frz ob u => obtain ⟨e, _⟩ := x; exact Heap.lt_size e
  | tbl ps => exact Heap.lt_size (show h.get? a = some _ from x)
  | met f y => exact Heap.lt_size (show h.get? a = some _ from x)
  | ext φ => obtain ⟨_, ⟨_, e⟩, _⟩ := x; exact Heap.lt_size e
theorem Paired.mapP {α β : Type} {F G : α → β → Prop} : ∀ {l₁ : List α} {l₂ : List β}, Paired F l₁ l₂ → (∀ a b, F a b → G a b) → Paired G l₁ l₂
  | _, _, .nil, _ => .nil
  | _, _, .cons r t, f => .cons (f _ _ r) (Paired.mapP t f)
theorem Paired.imp' {α β : Type} {F G : α → β → Prop} (f : ∀ a b, F a b → G a b) {l₁ : List α} {l₂ : List β} (r : Paired F l₁ l₂) : Paired G l₁ l₂ := Paired.mapP r f
/-- what an object's description leans on: its own object, its own dict, the tuples -/
theorem ObjOk.stay (x : ObjOk P w H h a o) (k : ∀ b u, (b = a ∨ H b = some (.own a)) → h.get? b = some u → h'.get? b = some u)
    (ho : ∀ b, H b = some (.own a) → H' b = some (.own a)) (ht : ∀ b xs, H b = some (.tup xs) → H' b = some (.tup xs)) : ObjOk P w H' h' a o := by
  induction o with
  | lst xs => obtain ⟨z, its, n, r, e⟩ := x; exact ⟨z, its, n, r, k _ _ (.inl rfl) e⟩
  | tup xs => obtain ⟨z, its, r, ob, e, c⟩ := x; exact ⟨z, its, r, ob, k _ _ (.inl rfl) e, c⟩
  | dK kvs => obtain ⟨z, y, vs, r, ob, es, ep, e, c⟩ := x; exact ⟨z, y, vs, r, ob, es, ep, k _ _ (.inl rfl) e, c⟩
  | dT kvs =>
    obtain ⟨z, y, xs, r, ob, es, ep, e, c⟩ := x
    exact ⟨z, y, xs, Paired.mapP r fun p q z => ⟨z.1, ht _ _ z.2.1, z.2.2⟩, ob, es, ep, k _ _ (.inl rfl) e, c⟩
  | set S n => obtain ⟨ob, es, ep, t, e, c⟩ := x; exact ⟨ob, es, ep, t, k _ _ (.inl rfl) e, c⟩
  | ins C dx fs =>
    obtain ⟨d, z, ne, e, mA, ⟨od, es, ep, e2, c⟩, r⟩ := x
    exact ⟨ho _ d, z, ne, k _ _ (.inl rfl) e, mA, ⟨od, es, ep, k _ _ (.inr d) e2, c⟩, r⟩
  | own y => obtain ⟨ob, e⟩ := x; exact ⟨ob, k _ _ (.inl rfl) e⟩
  | xd fs => obtain ⟨mA, ⟨od, es, ep, e, c⟩, r⟩ := x; exact ⟨mA, ⟨od, es, ep, k _ _ (.inl rfl) e, c⟩, r⟩
  | rng lo hi => obtain ⟨t, u, v, e⟩ := x; exact ⟨t, u, v, k _ _ (.inl rfl) e⟩
  | frz ob u ih => obtain ⟨e, q⟩ := x; exact ⟨k _ _ (.inl rfl) e, ih q⟩
  | tbl ps =>
    have e : h.get? a = some { cls := .none, data := .fields ps } := x
    show h'.get? a = some { cls := .none, data := .fields ps }
    exact k a _ (.inl rfl) e
  | met f y =>
    have e : h.get? a = some (PySem.W.methodObj (.ref f) (.ref y)) := x
    show h'.get? a = some (PySem.W.methodObj (.ref f) (.ref y))
    exact k a _ (.inl rfl) e
  | ext φ => obtain ⟨p, ⟨o, e⟩, st⟩ := x; exact ⟨st _ _ p fun o q => k _ _ (.inl rfl) q, ⟨o, k _ _ (.inl rfl) e⟩, st⟩
theorem HOk.lt (x : HOk P w H h) (e : H a = some o) : a < h.objs.size := (x a o e).lt
theorem HOk.fresh (x : HOk P w H h) (e : h.objs.size ≤ a) : H a = none := by
  cases q : H a with
  | none => rfl
  | some u => exact absurd (Nat.lt_of_lt_of_le (x.lt q) e) (Nat.lt_irrefl _)
/-- every object of the heap is kept -/
theorem HOk.kept (x : HOk P w H h) (k : ∀ b u, h.get? b = some u → h'.get? b = some u) : HOk P w H h' := fun a o e =>
  (x a o e).stay (fun b u _ q => k b u q) (fun _ q => q) fun _ _ q => q
/-- a new object is laid and tracked -/
theorem HOk.laid (x : HOk P w H h) (k : ∀ b u, h.get? b = some u → h'.get? b = some u) (hp : h.objs.size ≤ a) (new : ObjOk P w (upd H a o) h' a o) : HOk P w (upd H a o) h' := fun b u e => by
  have hn := x.fresh hp
  by_cases hb : b = a
  · subst hb; rw [upd_same] at e; cases e; exact new
  · rw [upd_ne hb] at e
    exact (x b u e).stay (fun c v _ q => k c v q) (fun c q => by rw [upd_ne (ne_of_none q hn)]; exact q) fun c xs q => by rw [upd_ne (ne_of_none q hn)]; exact q
end

/-- what may be read as u: it is u, or a known u -/
def Rd (H : Hp) (a : Addr) (u : HO) : Prop := H a = some u ∨ ∃ o, H a = some (.frz o u)
theorem Rd.of {H : Hp} {a : Addr} {u : HO} (h : H a = some u) : Rd H a u := .inl h
theorem Rd.ok {P : Program} {w : World} {H : Hp} {h : Heap} {a : Addr} {u : HO} (r : Rd H a u) (x : HOk P w H h) : ObjOk P w H h a u := by
  rcases r with r | ⟨o, r⟩
  · exact x a u r
  · obtain ⟨_, q⟩ := x a _ r
    exact q
/-- what may be written -/
def Mut : Option HO → Prop
  | some (.lst _) => True
  | some (.dK _) => True
  | some (.dT _) => True
  | some (.set _ _) => True
  | some (.ins _ _ _) => True
  | some (.ext _) => True
  | _ => False
section
variable {P : Program} {w : World} {H : Hp} {h h' : Heap} {x e : Addr} {o' : HO}
/-- the object at e is changed: x itself, or the dict of the instance x -/
theorem HOk.write (ok : HOk P w H h) (mu : Mut (H x)) (he : e = x ∨ H e = some (.own x)) (k : ∀ b u, b ≠ e → h.get? b = some u → h'.get? b = some u) (heo : ∃ u, h'.get? e = some u)
    (new : ObjOk P w (upd H x o') h' x o') : HOk P w (upd H x o') h' := fun b u q => by
  have nown : ∀ c y, H c = some (.own y) → c ≠ x := fun c y r z => by subst z; rw [r] at mu; exact mu
  have ntup : ∀ c xs, H c = some (.tup xs) → c ≠ x := fun c xs r z => by subst z; rw [r] at mu; exact mu
  by_cases hb : b = x
  · subst hb; rw [upd_same] at q; cases q; exact new
  · rw [upd_ne hb] at q
    by_cases hbe : b = e
    · have q' : H b = some (.own x) := by
        rcases he with z | z
        · exact absurd (hbe.trans z) hb
        · rw [hbe]; exact z
      rw [q] at q'; cases q'
      obtain ⟨v, hv⟩ := heo
      exact ⟨v, by rw [hbe]; exact hv⟩
    · refine (ok b u q).stay (fun c v hc r => k c v ?_ r) (fun c r => by rw [upd_ne (nown c b r)]; exact r) fun c xs r => by rw [upd_ne (ntup c xs r)]; exact r
      rcases hc with rfl | hc
      · exact hbe
      · rintro rfl
        rcases he with z | z
        · exact nown c b hc z
        · rw [hc] at z; cases z; exact hb rfl
end

/-! ### kept unless tracked; of the frames at fs (the callers') the slots may change (an exception that passes writes there); of the records at ex (iterators) nothing is said -/
structure Un (fs ex : List Addr) (H H' : Hp) (h h' : Heap) : Prop where
  keep : ∀ b o, h.get? b = some o → H b = none → b ∉ fs → b ∉ ex → h'.get? b = some o
  slot : ∀ b o, h.get? b = some o → H b = none → b ∈ fs → b ∉ ex → ∃ sl, h'.get? b = some { o with slots := sl }
  free : ∀ b o, h.get? b = some o → H b = none → b ∉ ex → H' b = none
  there : ∀ b o, h.get? b = some o → b ∉ ex → ∃ o', h'.get? b = some o'
  tups : ∀ b xs, H b = some (.tup xs) → H' b = some (.tup xs)
  frzs : ∀ b o u, H b = some (.frz o u) → H' b = some (.frz o u)
  tbls : ∀ b ps, H b = some (.tbl ps) → ∃ more, H' b = some (.tbl (ps ++ more))
section
variable {fs fs' ex ex' : List Addr} {H H1 H2 : Hp} {h h1 h2 h' : Heap} {a x e : Addr} {o : HO}
theorem Un.any (u : Un fs ex H H1 h h1) {b : Addr} {ob : Obj} (q : h.get? b = some ob) (n : H b = none) (hx : b ∉ ex) : ∃ sl, h1.get? b = some { ob with slots := sl } := by
  by_cases hb : b ∈ fs
  · exact u.slot b ob q n hb hx
  · exact ⟨ob.slots, u.keep b ob q n hb hx⟩
theorem Un.trans (a : Un fs ex H H1 h h1) (b : Un fs ex H1 H2 h1 h2) : Un fs ex H H2 h h2 where
  keep := fun c ob q n hc hx => b.keep c ob (a.keep c ob q n hc hx) (a.free c ob q n hx) hc hx
  slot := fun c ob q n hc hx => by
    obtain ⟨sl, e1⟩ := a.slot c ob q n hc hx
    obtain ⟨sl', e2⟩ := b.slot c _ e1 (a.free c ob q n hx) hc hx
    exact ⟨sl', e2⟩
  free := fun c ob q n hx => by
    obtain ⟨o', e1⟩ := a.there c ob q hx
    exact b.free c o' e1 (a.free c ob q n hx) hx
  there := fun c ob q hx => by
    obtain ⟨o', e1⟩ := a.there c ob q hx
    exact b.there c o' e1 hx
  tups := fun c xs q => b.tups c xs (a.tups c xs q)
  frzs := fun c ob xs q => b.frzs c ob xs (a.frzs c ob xs q)
  tbls := fun c ps q => by
    obtain ⟨m1, e1⟩ := a.tbls c ps q
    obtain ⟨m2, e2⟩ := b.tbls c _ e1
    exact ⟨m1 ++ m2, by rw [e2, Array.append_assoc]⟩
theorem Un.kept (k : ∀ b u, h.get? b = some u → h'.get? b = some u) : Un fs ex H H h h' :=
  ⟨fun b ob q _ _ _ => k b ob q, fun b ob q _ _ _ => ⟨ob.slots, k b ob q⟩, fun _ _ _ n _ => n, fun b ob q _ => ⟨ob, k b ob q⟩, fun _ _ q => q, fun _ _ _ q => q, fun _ ps q => ⟨#[], by rw [q]; simp⟩⟩
theorem Un.refl : Un fs ex H H h h := Un.kept fun _ _ q => q
theorem Un.laid (k : ∀ b u, h.get? b = some u → h'.get? b = some u) (hp : h.objs.size ≤ a) (hn : H a = none) : Un fs ex H (upd H a o) h h' where
  keep := fun b u q _ _ _ => k b u q
  slot := fun b u q _ _ _ => ⟨u.slots, k b u q⟩
  free := fun b u q n _ => by rw [upd_ne (Nat.ne_of_lt (Nat.lt_of_lt_of_le (Heap.lt_size q) hp))]; exact n
  there := fun b u q _ => ⟨u, k b u q⟩
  tups := fun b xs q => by rw [upd_ne (ne_of_none q hn)]; exact q
  frzs := fun b u xs q => by rw [upd_ne (ne_of_none q hn)]; exact q
  tbls := fun b ps q => ⟨#[], by rw [upd_ne (ne_of_none q hn), q]; simp⟩
theorem Un.write (mu : Mut (H x)) (he : e = x ∨ H e = some (.own x)) (k : ∀ b u, b ≠ e → h.get? b = some u → h'.get? b = some u) (heo : ∃ u, h'.get? e = some u) : Un fs ex H (upd H x o) h h' := by
  have hx : ∀ b, H b = none → b ≠ x := fun b n z => by subst z; rw [n] at mu; exact mu
  have hb : ∀ b, H b = none → b ≠ e := fun b n z => by
    subst z
    rcases he with r | r
    · exact hx b n r
    · rw [n] at r; cases r
  have hm : ∀ b u, H b = some u → ¬ Mut (some u) → b ≠ x := fun b u q nm z => by subst z; rw [q] at mu; exact nm mu
  refine ⟨fun b u q n _ _ => k b u (hb b n) q, fun b u q n _ _ => ⟨u.slots, k b u (hb b n) q⟩, fun b u q n _ => by rw [upd_ne (hx b n)]; exact n, fun b u q _ => ?_,
    fun b xs q => by rw [upd_ne (hm b _ q fun z => z)]; exact q, fun b u xs q => by rw [upd_ne (hm b _ q fun z => z)]; exact q, fun b ps q => ⟨#[], by rw [upd_ne (hm b _ q fun z => z), q]; simp⟩⟩
  by_cases hbe : b = e
  · subst hbe; exact heo
  · exact ⟨u, k b u hbe q⟩
theorem Un.mono (u : Un fs ex H H1 h h1) (hs : ∀ b ∈ fs, b ∈ fs') (hx : ∀ b ∈ ex, b ∈ ex') : Un fs' ex' H H1 h h1 :=
  ⟨fun b ob q n hb he => u.keep b ob q n (fun z => hb (hs b z)) fun z => he (hx b z), fun _ _ q n _ he => u.any q n fun z => he (hx _ z), fun b ob q n he => u.free b ob q n fun z => he (hx b z), fun b ob q he => u.there b ob q fun z => he (hx b z), u.tups, u.frzs, u.tbls⟩
end

/-! ### the heap without what is tracked -/
def trk (h : Heap) (H : Hp) : List Addr := (List.range h.objs.size).filter fun a => (H a).isSome
def hidT (h : Heap) (H : Hp) : Heap := PySem.W.hideAll h (trk h H)
theorem hidT_size (h : Heap) (H : Hp) : (hidT h H).objs.size = h.objs.size := PySem.W.hideAll_size _ _
theorem hidT_get {h : Heap} {H : Hp} {b : Addr} {o : Obj} (e : h.get? b = some o) (n : H b = none) : (hidT h H).get? b = some o :=
  PySem.W.hideAll_get _ e fun hm => by
    have q : (H b).isSome = true := (List.mem_filter.mp hm).2
    rw [n] at q; simp at q
theorem of_hidT {h : Heap} {H : Hp} {b : Addr} {o : Obj} (e : (hidT h H).get? b = some o) : h.get? b = some o ∧ H b = none := by
  have e' : h.get? b = some o := PySem.W.of_hideAll (trk h H) e
  refine ⟨e', ?_⟩
  cases q : H b with
  | none => rfl
  | some x =>
    have hm : b ∈ trk h H := List.mem_filter.mpr ⟨List.mem_range.mpr (Heap.lt_size e'), by simp [q]⟩
    have z : (hidT h H).get? b = none := PySem.W.hideAll_none (trk h H) hm
    rw [z] at e; cases e

/-! ### OpenK's ledger, filled with every new object but one -/
def allNews (g h : Heap) (L : Addr) : List (Addr × Obj) := (List.range h.objs.size).filterMap fun a => if a = L ∨ (g.get? a).isSome = true then none else (h.get? a).map fun o => (a, o)
def rest (g h : Heap) (L d : Addr) : List (Addr × Obj) := (allNews g h L).filter fun p => decide (p.1 ≠ d)
end L2

namespace L2
open PySem PySem.Spec PyProof.Rows

/-- the module's facts, over the base: the heap at the law's entry without what is tracked there -/
structure Mod (K : PySem.W.Frag) (mg : Str → Option Value) (base : Heap) : Prop where
  kin : K.In base
  glob : base.Ns mainGlobals mg
  blt : ∃ mb, base.Ns builtinsNs mb ∧ ∀ x : Str, x ≠ "__name__" → mb x = bootBuiltins x
  nolimit : base.NoLimit

/-- the context: a def's body (or a comprehension's block) running. base: fixed through the whole law; s₀, H₀: the entry; outer: the frames whose slots others may change (a def's callers); stack: all frames that run;
   ex: iterators that were made ahead of the entry and are walked here (a comprehension's); fn: the names whose cells were made at the entry (a def: all; a comprehension's block: its own); calm: not within an except suite; pn: pins that every state bears; xe: what is wanted of an exception that leaves the code -/
structure Cx where
  prog : Program
  w : World
  K : PySem.W.Frag
  mg : Str → Option Value
  base : Heap
  A : Around
  N : List Str
  s₀ : Shared
  H₀ : Hp
  env : Env
  outer : List Env
  stack : List Env
  ex : List Addr
  fn : Str → Bool
  calm : Bool
  pn : List (Addr × Obj)
  xe : Value → Shared → Prop
/-- the callers' frames -/
def frs (l : List Env) : List Addr := l.filterMap (·.frame)
abbrev Cx.fs (X : Cx) : List Addr := frs X.outer

def Vis (sc : Scope) (x : Str) : Prop := sc.names.lookup x = some .local ∨ sc.names.lookup x = some .cell ∨ sc.names.lookup x = some .free
def Loc (sc : Scope) (x : Str) : Prop := sc.names.lookup x = some .local ∨ sc.names.lookup x = some .cell
def Look (env : Env) (h : Heap) (m : Str → Option Value) (x : Str) (u : Value) : Prop :=
  (env.kindOf x = some .local ∧ m x = some u) ∨ ((env.kindOf x = some .cell ∨ env.kindOf x = some .free) ∧ ∃ c, env.cells.lookup x = some c ∧ h.IsCell c (some u))

structure Cx.Ok (X : Cx) : Prop where
  mod : Mod X.K X.mg X.base
  kind : X.env.scope.kind = .function
  glob : X.env.globals = mainGlobals
  blt : X.env.builtins = builtinsNs
  above : X.s₀.heap.objs.size ≤ X.env.locals
  inj : ∀ x y c, X.env.cells.lookup x = some c → X.env.cells.lookup y = some c → x = y
  has : ∀ x, (X.env.kindOf x = some .cell ∨ X.env.kindOf x = some .free) → ∃ c, X.env.cells.lookup x = some c
  cab : ∀ x c, X.fn x = true → X.env.cells.lookup x = some c → X.s₀.heap.objs.size ≤ c
  hd : X.calm = true → X.A.handled = none
  frames : X.A.frames = some X.stack
  stk : X.stack = X.outer ∨ (X.stack = X.env :: X.outer ∧ X.env.frame = some X.env.locals)
  exf : ∀ b ∈ X.ex, b ≠ X.env.locals ∧ ∀ x c, X.env.cells.lookup x = some c → c ≠ b
  bs : ∀ b o, X.base.get? b = some o → X.s₀.heap.get? b = some o ∧ X.H₀ b = none
  bsz : X.base.objs.size ≤ X.s₀.heap.objs.size
  noex : ∀ b o, X.base.get? b = some o → b ∉ X.ex
  exfs : ∀ b ∈ X.ex, b ∉ X.fs
  funs : X.s₀.heap.FunFrames X.base X.outer
  frf : ∀ b ∈ X.fs, X.H₀ b = none

structure Inv (X : Cx) (pins : List (Addr × Obj)) (σ : List (Option V)) (H : Hp) (s : Shared) : Prop where
  ok : X.Ok
  os : s.os = X.s₀.os
  bare : AllBare s.gens
  base : Un X.fs X.ex X.H₀ H X.s₀.heap s.heap
  loc : ∃ m, s.heap.Ns X.env.locals m ∧ ∀ (i : Nat) (x : Str) (v : V), X.N[i]? = some x → σ[i]? = some (some v) → Vis X.env.scope x → ∃ u, RelV v u ∧ Look X.env s.heap m x u
  cell : ∀ x c, X.env.cells.lookup x = some c → ∃ v, s.heap.IsCell c v
  free : H X.env.locals = none
  freeC : ∀ x c, X.env.cells.lookup x = some c → H c = none
  pin : ∀ p ∈ X.pn ++ pins, s.heap.get? p.1 = some p.2 ∧ H p.1 = none ∧ p.1 ≠ X.env.locals ∧ p.1 ∉ X.fs ∧ ∀ v, p.2.data ≠ .cell v
  hok : HOk X.prog X.w H s.heap
  len : σ.length = X.N.length

section
variable {X : Cx} {pins : List (Addr × Obj)} {σ : List (Option V)} {H H' : Hp} {s : Shared} {h' : Heap}

theorem Cx.Ok.nofr (ok : X.Ok) {b : Addr} {o : Obj} (e : X.base.get? b = some o) : b ∉ X.fs := fun hb => by
  have := (ok.funs.mem hb).1
  rw [e] at this; cases this
theorem Inv.bs (I : Inv X pins σ H s) : ∀ b o, X.base.get? b = some o → s.heap.get? b = some o ∧ H b = none := fun b o e =>
  ⟨I.base.keep b o (I.ok.bs b o e).1 (I.ok.bs b o e).2 (I.ok.nofr e) (I.ok.noex b o e), I.base.free b o (I.ok.bs b o e).1 (I.ok.bs b o e).2 (I.ok.noex b o e)⟩
theorem Inv.bk (I : Inv X pins σ H s) : ∀ b o, X.base.get? b = some o → s.heap.get? b = some o := fun b o e => (I.bs b o e).1
theorem Inv.mod (I : Inv X pins σ H s) : Mod X.K X.mg X.base := I.ok.mod
theorem Inv.kIn (I : Inv X pins σ H s) : X.K.In s.heap := I.ok.mod.kin.keeps I.bk
theorem Inv.nolimit (I : Inv X pins σ H s) : s.heap.NoLimit := I.ok.mod.nolimit.keeps I.bk
theorem Inv.lt (I : Inv X pins σ H s) : X.env.locals < s.heap.objs.size := let ⟨_, hn, _⟩ := I.loc; hn.lt
theorem Inv.sz (I : Inv X pins σ H s) : X.s₀.heap.objs.size ≤ s.heap.objs.size := Nat.le_trans I.ok.above (Nat.le_of_lt I.lt)
theorem Inv.nofs (I : Inv X pins σ H s) {a : Addr} (h : s.heap.objs.size ≤ a) : a ∉ X.fs := fun hb => by
  obtain ⟨_, o, ho, _⟩ := I.ok.funs.mem hb
  exact absurd (Nat.lt_of_lt_of_le (Heap.lt_size ho) (Nat.le_trans I.sz h)) (Nat.lt_irrefl _)
theorem Inv.cne (I : Inv X pins σ H s) : ∀ x c, X.env.cells.lookup x = some c → c ≠ X.env.locals := fun x c e z => by
  obtain ⟨v, o, ho, hd⟩ := I.cell x c e
  obtain ⟨m, ⟨o', es, ep, ho', hd', _⟩, _⟩ := I.loc
  rw [z, ho'] at ho; cases ho; rw [hd'] at hd; cases hd
theorem Inv.funs (I : Inv X pins σ H s) : s.heap.FunFrames X.base X.outer := by
  have all : ∀ (l : List Env), (∀ b ∈ frs l, b ∈ X.fs) → X.s₀.heap.FunFrames X.base l → s.heap.FunFrames X.base l := by
    intro l
    induction l with
    | nil => intro _ _; trivial
    | cons env r ih =>
      intro hs hl
      obtain ⟨hk, ⟨L, o, hf, hn, ho, hd⟩, hr⟩ := hl
      have hL : L ∈ X.fs := hs L (by unfold frs; rw [List.filterMap_cons, hf]; exact List.mem_cons_self)
      obtain ⟨sl, e⟩ := I.base.slot L o ho (I.ok.frf L hL) hL fun z => I.ok.exfs L z hL
      exact ⟨hk, ⟨L, _, hf, hn, e, hd⟩, ih (fun b hb => hs b (by unfold frs; rw [List.filterMap_cons, hf]; exact List.mem_cons_of_mem _ hb)) hr⟩
  exact all X.outer (fun _ hb => hb) I.ok.funs

/-- the frames that run, for a call -/
theorem Inv.stack (I : Inv X pins σ H s) : s.heap.FunFrames X.base X.stack := by
  rcases I.ok.stk with e | ⟨e, hf⟩
  · rw [e]; exact I.funs
  · rw [e]
    obtain ⟨m, hn, _⟩ := I.loc
    refine .cons (by rw [I.ok.kind]; decide) hf hn ?_ I.funs
    exact Heap.get?_none_of_le (Nat.le_trans I.ok.bsz I.ok.above)
theorem Inv.stkSub (I : Inv X pins σ H s) : ∀ b ∈ frs X.stack, b ∈ X.env.locals :: X.fs := fun b hb => by
  rcases I.ok.stk with e | ⟨e, hf⟩
  · rw [e] at hb; exact List.mem_cons_of_mem _ hb
  · rw [e] at hb
    unfold frs at hb
    rw [List.filterMap_cons, hf] at hb
    exact hb
theorem Inv.stkFree (I : Inv X pins σ H s) : ∀ b ∈ frs X.stack, H b = none := fun b hb => by
  rcases List.mem_cons.mp (I.stkSub b hb) with e | hb
  · rw [e]; exact I.free
  · obtain ⟨_, o, ho, _⟩ := I.ok.funs.mem hb
    exact I.base.free b o ho (I.ok.frf b hb) fun z => I.ok.exfs b z hb

/-- THE STEP: the untracked objects but the frame and the records at ch are kept (the callers' frames up to slots), the frame's map is kept, the new abstract heap is held -/
theorem Inv.step {g' : Array GenState} {t' : Nat} {d' : Drawn} {ch : List Addr} (I : Inv X pins σ H s)
    (hch : ∀ b ∈ ch, (b ∈ X.ex ∨ X.s₀.heap.objs.size ≤ b) ∧ b ≠ X.env.locals ∧ (∀ x c, X.env.cells.lookup x = some c → c ≠ b) ∧ ∀ p ∈ X.pn ++ pins, p.1 ≠ b)
    (keep : ∀ b o, b ≠ X.env.locals → b ∉ X.fs → b ∉ ch → s.heap.get? b = some o → H b = none → h'.get? b = some o)
    (slot : ∀ b o, b ≠ X.env.locals → b ∈ X.fs → b ∉ ch → s.heap.get? b = some o → H b = none → ∃ sl, h'.get? b = some { o with slots := sl }) (free : ∀ b o, b ∉ ch → s.heap.get? b = some o → H b = none → H' b = none)
    (there : ∀ b o, b ∉ ch → s.heap.get? b = some o → ∃ o', h'.get? b = some o')
    (tups : ∀ b xs, H b = some (.tup xs) → H' b = some (.tup xs)) (frzs : ∀ b o u, H b = some (.frz o u) → H' b = some (.frz o u)) (tbls : ∀ b ps, H b = some (.tbl ps) → ∃ more, H' b = some (.tbl (ps ++ more)))
    (ns : ∀ m, s.heap.Ns X.env.locals m → h'.Ns X.env.locals m) (hok : HOk X.prog X.w H' h') (hg : AllBare g') :
    Inv X pins σ H' { s with heap := h', gens := g', drawn := d', toks := t' } := by
  have neL : ∀ b o, X.s₀.heap.get? b = some o → b ≠ X.env.locals := fun b o e => Nat.ne_of_lt (Nat.lt_of_lt_of_le (Heap.lt_size e) I.ok.above)
  have neC : ∀ b o, X.s₀.heap.get? b = some o → b ∉ X.ex → b ∉ ch := fun b o e hx hb => by
    rcases (hch b hb).1 with z | z
    · exact hx z
    · exact absurd (Nat.lt_of_lt_of_le (Heap.lt_size e) z) (Nat.lt_irrefl _)
  have cellK : ∀ x c, X.env.cells.lookup x = some c → ∀ v, s.heap.IsCell c v → h'.IsCell c v := fun x c e v ⟨o, ho, hd⟩ => by
    have nch : c ∉ ch := fun z => (hch c z).2.2.1 x c e rfl
    by_cases hc : c ∈ X.fs
    · obtain ⟨sl, q⟩ := slot c o (I.cne x c e) hc nch ho (I.freeC x c e)
      exact ⟨_, q, hd⟩
    · exact ⟨o, keep c o (I.cne x c e) hc nch ho (I.freeC x c e), hd⟩
  refine ⟨I.ok, I.os, hg, ⟨fun b o e n hb hx => ?_, fun b o e n hb hx => ?_, fun b o e n hx => ?_, fun b o e hx => ?_, fun b xs e => tups b xs (I.base.tups b xs e), fun b o xs e => frzs b o xs (I.base.frzs b o xs e), fun b ps e => ?_⟩, ?_, fun x c e => ?_, ?_, fun x c e => ?_, fun p hp => ?_, hok, I.len⟩
  · exact keep b o (neL b o e) hb (neC b o e hx) (I.base.keep b o e n hb hx) (I.base.free b o e n hx)
  · obtain ⟨sl, e1⟩ := I.base.slot b o e n hb hx
    obtain ⟨sl', e2⟩ := slot b _ (neL b o e) hb (neC b o e hx) e1 (I.base.free b o e n hx)
    exact ⟨sl', e2⟩
  · obtain ⟨o', e1⟩ := I.base.there b o e hx
    exact free b o' (neC b o e hx) e1 (I.base.free b o e n hx)
  · obtain ⟨o', e1⟩ := I.base.there b o e hx
    exact there b o' (neC b o e hx) e1
  · obtain ⟨m1, e1⟩ := I.base.tbls b ps e
    obtain ⟨m2, e2⟩ := tbls b _ e1
    exact ⟨m1 ++ m2, by rw [e2, Array.append_assoc]⟩
  · obtain ⟨m, hn, hl⟩ := I.loc
    refine ⟨m, ns m hn, fun i x v e1 e2 e3 => ?_⟩
    obtain ⟨u, r, l⟩ := hl i x v e1 e2 e3
    refine ⟨u, r, ?_⟩
    rcases l with l | ⟨k, c, e, z⟩
    · exact .inl l
    · exact .inr ⟨k, c, e, cellK x c e _ z⟩
  · obtain ⟨v, z⟩ := I.cell x c e
    exact ⟨v, cellK x c e v z⟩
  · obtain ⟨m, ⟨o, _, _, ho, _⟩, _⟩ := I.loc
    exact free _ o (fun z => (hch _ z).2.1 rfl) ho I.free
  · obtain ⟨v, o, ho, hd⟩ := I.cell x c e
    exact free c o (fun z => (hch c z).2.2.1 x c e rfl) ho (I.freeC x c e)
  · obtain ⟨e, n, ne, nf, d⟩ := I.pin p hp
    have nch : p.1 ∉ ch := fun z => (hch p.1 z).2.2.2 p hp rfl
    exact ⟨keep p.1 p.2 ne nf nch e n, free p.1 p.2 nch e n, ne, nf, d⟩
/-- .. where the frame's own object is kept too -/
theorem Inv.un {t' : Nat} (I : Inv X pins σ H s) (u : Un X.fs [] H H' s.heap h') (hok : HOk X.prog X.w H' h') : Inv X pins σ H' { s with heap := h', toks := t' } := by
  obtain ⟨m, ⟨o, es, ep, ho, r⟩, _⟩ := id I.loc
  obtain ⟨sl, hL⟩ := u.any ho I.free (by simp)
  exact I.step (g' := s.gens) (d' := s.drawn) (ch := []) (fun _ z => nomatch z) (fun b o _ hb _ e n => u.keep b o e n hb (by simp)) (fun b o _ hb _ e n => u.slot b o e n hb (by simp)) (fun b o _ e n => u.free b o e n (by simp)) (fun b o _ e => u.there b o e (by simp)) u.tups u.frzs u.tbls (fun m' hm => by
    obtain ⟨o', es', ep', ho', r'⟩ := hm
    rw [ho] at ho'; cases ho'
    exact ⟨_, es', ep', hL, r'⟩) hok I.bare
/-- behind a call (or a comprehension's block): the slots of this frame may have changed too, the records at ch may have turned -/
theorem Inv.call {g' : Array GenState} {t' : Nat} {d' : Drawn} {ch : List Addr} (I : Inv X pins σ H s) (u : Un (frs X.stack) ch H H' s.heap h') (hok : HOk X.prog X.w H' h') (hg : AllBare g')
    (hch : ∀ b ∈ ch, (b ∈ X.ex ∨ X.s₀.heap.objs.size ≤ b) ∧ b ≠ X.env.locals ∧ (∀ x c, X.env.cells.lookup x = some c → c ≠ b) ∧ ∀ p ∈ X.pn ++ pins, p.1 ≠ b) :
    Inv X pins σ H' { s with heap := h', gens := g', drawn := d', toks := t' } := by
  obtain ⟨m, ⟨o, es, ep, ho, r⟩, _⟩ := id I.loc
  obtain ⟨sl, hL⟩ := u.any ho I.free fun z => (hch _ z).2.1 rfl
  exact I.step (ch := ch) hch (fun b o hL hb hc e n => u.keep b o e n (fun z => (List.mem_cons.mp (I.stkSub b z)).elim hL hb) hc) (fun b o _ _ hc e n => u.any e n hc) (fun b o hc e n => u.free b o e n hc) (fun b o hc e => u.there b o e hc) u.tups u.frzs u.tbls (fun m' hm => by
    obtain ⟨o', es', ep', ho', r'⟩ := hm
    rw [ho] at ho'; cases ho'
    exact ⟨_, es', ep', hL, r'⟩) hok hg
/-- an untracked record of ours (an iterator) has turned -/
theorem Inv.turned {t' : Nat} {it : Addr} (I : Inv X pins σ H s) (k : ∀ b o, b ≠ it → s.heap.get? b = some o → h'.get? b = some o) (hn : H it = none) (hL : it ≠ X.env.locals)
    (h1 : it ∈ X.ex ∨ X.s₀.heap.objs.size ≤ it) (h2 : ∀ x c, X.env.cells.lookup x = some c → c ≠ it) (h3 : ∀ p ∈ X.pn ++ pins, p.1 ≠ it) : Inv X pins σ H { s with heap := h', toks := t' } := by
  have nit : ∀ b u, H b = some u → b ≠ it := fun b u e z => by rw [z, hn] at e; cases e
  refine I.step (g' := s.gens) (d' := s.drawn) (ch := [it]) (fun b hb => ?_) (fun b o _ _ hc e _ => k b o (fun z => hc (by simp [z])) e) (fun b o _ _ hc e _ => ⟨o.slots, k b o (fun z => hc (by simp [z])) e⟩) (fun _ _ _ _ n => n)
    (fun b o hc e => ⟨o, k b o (fun z => hc (by simp [z])) e⟩) (fun _ _ e => e) (fun _ _ _ e => e) (fun b ps e => ⟨#[], by rw [e]; simp⟩) (fun m hm => ?_) (fun b u e => ?_) I.bare
  · have e : b = it := by simpa using hb
    subst e
    exact ⟨h1, hL, h2, h3⟩
  · obtain ⟨o, es, ep, ho, r⟩ := hm
    exact ⟨o, es, ep, k _ o (Ne.symm hL) ho, r⟩
  · refine (I.hok b u e).stay (fun c v hc q => k c v ?_ q) (fun _ q => q) fun _ _ q => q
    rcases hc with z | z
    · rw [z]; exact nit b u e
    · exact nit c _ z
theorem Inv.tok (I : Inv X pins σ H s) (t : Nat) : Inv X pins σ H { s with toks := t } := I.un (h' := s.heap) (t' := t) Un.refl I.hok
/-- all objects kept -/
theorem Inv.kept {t' : Nat} (I : Inv X pins σ H s) (k : ∀ b u, s.heap.get? b = some u → h'.get? b = some u) : Inv X pins σ H { s with heap := h', toks := t' } := I.un (Un.kept k) (I.hok.kept k)
/-- a new object laid and tracked -/
theorem Inv.laid {a : Addr} {o : HO} {t' : Nat} (I : Inv X pins σ H s) (k : ∀ b u, s.heap.get? b = some u → h'.get? b = some u) (hp : s.heap.objs.size ≤ a) (new : ObjOk X.prog X.w (upd H a o) h' a o) :
    Inv X pins σ (upd H a o) { s with heap := h', toks := t' } := I.un (Un.laid k hp (I.hok.fresh hp)) (I.hok.laid k hp new)
/-- an object written -/
theorem Inv.write {x e : Addr} {o : HO} {t' : Nat} (I : Inv X pins σ H s) (mu : Mut (H x)) (he : e = x ∨ H e = some (.own x)) (k : ∀ b u, b ≠ e → s.heap.get? b = some u → h'.get? b = some u) (heo : ∃ u, h'.get? e = some u)
    (new : ObjOk X.prog X.w (upd H x o) h' x o) : Inv X pins σ (upd H x o) { s with heap := h', toks := t' } := I.un (Un.write mu he k heo) (I.hok.write mu he k heo new)
/-- forgetting slots, pins -/
theorem Inv.weak {σ' : List (Option V)} (I : Inv X pins σ H s) (hl : σ'.length = σ.length) (w : ∀ (i : Nat) v, σ'[i]? = some (some v) → σ[i]? = some (some v)) : Inv X pins σ' H s :=
  ⟨I.ok, I.os, I.bare, I.base, let ⟨m, hn, hl'⟩ := I.loc; ⟨m, hn, fun i x v e1 e2 e3 => hl' i x v e1 (w i v e2) e3⟩, I.cell, I.free, I.freeC, I.pin, I.hok, hl.trans I.len⟩
theorem Inv.pins_of {pins' : List (Addr × Obj)} (I : Inv X pins σ H s) (h : ∀ p ∈ pins', s.heap.get? p.1 = some p.2 ∧ H p.1 = none ∧ p.1 ≠ X.env.locals ∧ p.1 ∉ X.fs ∧ ∀ v, p.2.data ≠ .cell v) : Inv X pins' σ H s :=
  ⟨I.ok, I.os, I.bare, I.base, I.loc, I.cell, I.free, I.freeC, fun p hp => (List.mem_append.mp hp).elim (fun z => I.pin p (List.mem_append_left _ z)) (h p), I.hok, I.len⟩

theorem nodup_ix {N : List Str} (hN : N.Nodup) {i j : Nat} {x : Str} (a : N[i]? = some x) (b : N[j]? = some x) : i = j := by
  obtain ⟨h1, e1⟩ := List.getElem?_eq_some_iff.mp a
  obtain ⟨h2, e2⟩ := List.getElem?_eq_some_iff.mp b
  exact (List.getElem_inj hN).mp (e1.trans e2.symm)

/-- a name is stored; what changed -/
theorem store_ok2 {M : Model} {A : Around} {E : Value → Shared → Prop} {i : Nat} {x : Str} {v : V} {u : Value} {Q : Unit → Shared → Prop} (I : Inv X pins σ H s) (hN : X.N.Nodup) (hi : X.N[i]? = some x) (hx : Loc X.env.scope x) (r : RelV v u)
    (h : ∀ s', Inv X pins (σ.set i (some v)) H s' → (∃ a, Heap.SameBut a s.heap s'.heap ∧ (a = X.env.locals ∨ X.env.cells.lookup x = some a)) → Q () s') (hf : X.fn x = true ∨ X.env.scope.names.lookup x = some .local := by first | exact .inl rfl | exact .inr rfl | assumption) : wpAny M A (storeName X.env x u) Q E s := by
  obtain ⟨m, hn, hl⟩ := id I.loc
  have hcls : (X.env.scope.kind == .class || (X.env.scope.kind == .module && X.env.locals != X.env.globals)) = false := by rw [I.ok.kind]; rfl
  have hiσ : i < σ.length := by rw [I.len]; exact (List.getElem?_eq_some_iff.mp hi).1
  have cne := I.cne
  have tracked : ∀ {a : Addr} {h' : Heap}, (∃ o, s.heap.get? a = some o ∧ H a = none) → Heap.SameBut a s.heap h' → HOk X.prog X.w H h' := fun {a h'} ha hs b ob e => by
    obtain ⟨_, _, hfree⟩ := ha
    refine (I.hok b ob e).stay (fun c w' hc q => (hs.2 c ?_).trans q) (fun _ q => q) fun _ _ q => q
    rintro rfl
    rcases hc with rfl | hc
    · rw [hfree] at e; cases e
    · rw [hfree] at hc; cases hc
  rcases hx with hk | hk
  · refine wpAny_storeName_local hk hn (fun h' hn' hs => ?_) hcls
    obtain ⟨oL, _, _, hoL, _⟩ := id hn
    refine h _ ⟨I.ok, I.os, I.bare, ⟨fun b o e n hb hx => ?_, fun b o e n hb hx => ?_, I.base.free, fun b o e hx => ?_, I.base.tups, I.base.frzs, I.base.tbls⟩, ⟨_, hn', fun j y v' e1 e2 e3 => ?_⟩, fun y c e => ?_, I.free, I.freeC, fun p hp => ?_, tracked ⟨oL, hoL, I.free⟩ hs, by simpa using I.len⟩ ⟨_, hs, .inl rfl⟩
    · exact (hs.2 b (Nat.ne_of_lt (Nat.lt_of_lt_of_le (Heap.lt_size e) I.ok.above))).trans (I.base.keep b o e n hb hx)
    · obtain ⟨sl, e1⟩ := I.base.slot b o e n hb hx
      exact ⟨sl, (hs.2 b (Nat.ne_of_lt (Nat.lt_of_lt_of_le (Heap.lt_size e) I.ok.above))).trans e1⟩
    · obtain ⟨o', e1⟩ := I.base.there b o e hx
      exact ⟨o', (hs.2 b (Nat.ne_of_lt (Nat.lt_of_lt_of_le (Heap.lt_size e) I.ok.above))).trans e1⟩
    · by_cases hj : j = i
      · subst hj
        rw [hi] at e1; cases e1
        rw [List.getElem?_set_self hiσ] at e2
        cases e2
        exact ⟨u, r, .inl ⟨hk, by simp⟩⟩
      · rw [List.getElem?_set_ne (Ne.symm hj)] at e2
        obtain ⟨u', r', q⟩ := hl j y v' e1 e2 e3
        refine ⟨u', r', ?_⟩
        rcases q with ⟨k, e⟩ | ⟨k, c, e, z⟩
        · refine .inl ⟨k, ?_⟩
          have : y ≠ x := fun e => hj (nodup_ix hN e1 (e ▸ hi))
          simp [this, e]
        · exact .inr ⟨k, c, e, z.sameBut hs (cne y c e)⟩
    · obtain ⟨w', z⟩ := I.cell y c e
      exact ⟨w', z.sameBut hs (cne y c e)⟩
    · obtain ⟨e, n, ne, nf, d⟩ := I.pin p hp
      exact ⟨(hs.2 p.1 ne).trans e, n, ne, nf, d⟩
  · have hfn : X.fn x = true := by
      rcases hf with z | z
      · exact z
      · rw [z] at hk; cases hk
    obtain ⟨c, hc⟩ := I.ok.has x (.inl hk)
    obtain ⟨w', z⟩ := I.cell x c hc
    refine wpAny_storeName_cell I.ok.kind hk hc z (fun h' hc' hs => ?_)
    obtain ⟨oc, hoc, hocd⟩ := id z
    refine h { s with heap := h' } ⟨I.ok, I.os, I.bare, ⟨fun b o e n hb hx => ?_, fun b o e n hb hx => ?_, I.base.free, fun b o e hx => ?_, I.base.tups, I.base.frzs, I.base.tbls⟩, ⟨m, hn.sameBut hs (Ne.symm (cne x c hc)), fun j y v' e1 e2 e3 => ?_⟩, fun y c' e => ?_, I.free, I.freeC, fun p hp => ?_, tracked ⟨oc, hoc, I.freeC x c hc⟩ hs, by simpa using I.len⟩ ⟨c, hs, .inr hc⟩
    · exact (hs.2 b (Nat.ne_of_lt (Nat.lt_of_lt_of_le (Heap.lt_size e) (I.ok.cab x c hfn hc)))).trans (I.base.keep b o e n hb hx)
    · obtain ⟨sl, e1⟩ := I.base.slot b o e n hb hx
      exact ⟨sl, (hs.2 b (Nat.ne_of_lt (Nat.lt_of_lt_of_le (Heap.lt_size e) (I.ok.cab x c hfn hc)))).trans e1⟩
    · obtain ⟨o', e1⟩ := I.base.there b o e hx
      exact ⟨o', (hs.2 b (Nat.ne_of_lt (Nat.lt_of_lt_of_le (Heap.lt_size e) (I.ok.cab x c hfn hc)))).trans e1⟩
    · by_cases hj : j = i
      · subst hj
        rw [hi] at e1; cases e1
        rw [List.getElem?_set_self hiσ] at e2
        cases e2
        exact ⟨u, r, .inr ⟨.inl hk, c, hc, hc'⟩⟩
      · rw [List.getElem?_set_ne (Ne.symm hj)] at e2
        obtain ⟨u', r', q⟩ := hl j y v' e1 e2 e3
        refine ⟨u', r', ?_⟩
        rcases q with q | ⟨k, c', e, z'⟩
        · exact .inl q
        · refine .inr ⟨k, c', e, z'.sameBut hs ?_⟩
          rintro rfl
          exact hj (nodup_ix hN e1 (I.ok.inj _ _ _ e hc ▸ hi))
    · by_cases hcc : c' = c
      · subst hcc; exact ⟨_, hc'⟩
      · obtain ⟨w2, z2⟩ := I.cell y c' e
        exact ⟨w2, z2.sameBut hs hcc⟩
    · obtain ⟨e, n, ne, nf, d⟩ := I.pin p hp
      refine ⟨(hs.2 p.1 ?_).trans e, n, ne, nf, d⟩
      intro q
      rw [q, hoc] at e
      have q' : oc = p.2 := Option.some.inj e
      exact d w' (by rw [← q']; exact hocd)
theorem store_ok {M : Model} {A : Around} {E : Value → Shared → Prop} {i : Nat} {x : Str} {v : V} {u : Value} {Q : Unit → Shared → Prop} (I : Inv X pins σ H s) (hN : X.N.Nodup) (hi : X.N[i]? = some x) (hx : Loc X.env.scope x) (r : RelV v u)
    (h : ∀ s', Inv X pins (σ.set i (some v)) H s' → Q () s') (hf : X.fn x = true ∨ X.env.scope.names.lookup x = some .local := by first | exact .inl rfl | exact .inr rfl | assumption) : wpAny M A (storeName X.env x u) Q E s :=
  store_ok2 I hN hi hx r (fun s' I' _ => h s' I') hf
/-- behind a call or a block, the state as it is -/
theorem Inv.call' {s' : Shared} {ch : List Addr} (I : Inv X pins σ H s) (ho : s'.os = s.os) (u : Un (frs X.stack) ch H H' s.heap s'.heap) (hok : HOk X.prog X.w H' s'.heap) (hg : AllBare s'.gens)
    (hch : ∀ b ∈ ch, (b ∈ X.ex ∨ X.s₀.heap.objs.size ≤ b) ∧ b ≠ X.env.locals ∧ (∀ x c, X.env.cells.lookup x = some c → c ≠ b) ∧ ∀ p ∈ X.pn ++ pins, p.1 ≠ b) : Inv X pins σ H' s' := by
  obtain ⟨h', g', d', t', o'⟩ := s'
  have e : o' = s.os := ho
  subst e
  exact I.call (g' := g') (t' := t') (d' := d') u hok hg hch
end

/-! ### the judgements -/
/-- an exception: its class, its own dict's address (where it has one), the abstract heap behind it -/
abbrev XK := Value → Option Addr → Hp → Prop
abbrev St := List (Option V)
abbrev VK := V → Hp → Prop
/-- an expression's reading; a test's; an argument list's -/
abbrev TE := St → Hp → VK → Prop
abbrev TT := St → Hp → (Bool → Hp → Prop) → Prop
abbrev TA := St → Hp → (List V → Hp → Prop) → Prop
/-- what is wanted behind a statement -/
structure Ends where
  nx : St → Hp → Prop
  rt : VK
  bk : St → Hp → Prop := fun _ _ => False
  ct : St → Hp → Prop := fun _ _ => False
abbrev TS := Ends → St → Hp → Prop
def Ends.sq (D : Ends) (u : TS) : Ends := { D with nx := u D }
def Ends.lp (D : Ends) (N : St → Hp → Prop) : Ends := { D with nx := N, ct := N, bk := D.nx }

def EP (X : Cx) (pins : List (Addr × Obj)) (σ : St) (Q : VK) (u : Value) (s' : Shared) : Prop := ∃ v H', Inv X pins σ H' s' ∧ RelV v u ∧ Q v H'
def TP (X : Cx) (pins : List (Addr × Obj)) (σ : St) (Q : Bool → Hp → Prop) (b : Bool) (s' : Shared) : Prop := ∃ H', Inv X pins σ H' s' ∧ Q b H'
def AP (X : Cx) (pins : List (Addr × Obj)) (σ : St) (Q : List V → Hp → Prop) (us : List Value) (s' : Shared) : Prop := ∃ vs H', Inv X pins σ H' s' ∧ Vals vs us ∧ Q vs H'
def SP (X : Cx) (pins : List (Addr × Obj)) (D : Ends) (f : Flow) (s' : Shared) : Prop :=
  match f with
  | .next => ∃ σ' H', Inv X pins σ' H' s' ∧ D.nx σ' H'
  | .brk => ∃ σ' H', Inv X pins σ' H' s' ∧ D.bk σ' H'
  | .cont => ∃ σ' H', Inv X pins σ' H' s' ∧ D.ct σ' H'
  | .ret u => ∃ v σ' H', Inv X pins σ' H' s' ∧ RelV v u ∧ D.rt v H'

def PE (X : Cx) (e : Expr) (t : TE) : Prop :=
  ∀ (pins : List (Addr × Obj)) (s : Shared) (σ : St) (H : Hp) (Q : VK), Inv X pins σ H s → t σ H Q → wpAny (model X.prog X.w) X.A (eval e X.env) (EP X pins σ Q) X.xe s
def PT (X : Cx) (e : Expr) (t : TT) : Prop :=
  ∀ (pins : List (Addr × Obj)) (s : Shared) (σ : St) (H : Hp) (Q : Bool → Hp → Prop), Inv X pins σ H s → t σ H Q → wpAny (model X.prog X.w) X.A (isTrue e X.env (eval e X.env)) (TP X pins σ Q) X.xe s
/-- a test whatever its 'whole' is (and, or) -/
def PW (X : Cx) (e : Expr) (t : TT) : Prop :=
  ∀ (whole : Sem Value) (pins : List (Addr × Obj)) (s : Shared) (σ : St) (H : Hp) (Q : Bool → Hp → Prop), Inv X pins σ H s → t σ H Q → wpAny (model X.prog X.w) X.A (isTrue e X.env whole) (TP X pins σ Q) X.xe s
theorem PW.pt {X : Cx} {e : Expr} {t : TT} (h : PW X e t) : PT X e t := h _
/-- an argument list (no star), from the left -/
def PA (X : Cx) (es : List Expr) (t : TA) : Prop :=
  ∀ (pos : Pos) (pins : List (Addr × Obj)) (s : Shared) (σ : St) (H : Hp) (Q : List V → Hp → Prop), Inv X pins σ H s → t σ H Q → wpAny (model X.prog X.w) X.A (spliced (backTo pos (starEach es X.env))) (AP X pins σ Q) X.xe s
def PS (X : Cx) (st : Stmt) (t : TS) : Prop :=
  ∀ (pins : List (Addr × Obj)) (s : Shared) (σ : St) (H : Hp) (D : Ends), Inv X pins σ H s → t D σ H → wpAny (model X.prog X.w) X.A (exec st X.env) (SP X pins D) X.xe s
def PSs (X : Cx) (st : List Stmt) (t : TS) : Prop :=
  ∀ (pins : List (Addr × Obj)) (s : Shared) (σ : St) (H : Hp) (D : Ends), Inv X pins σ H s → t D σ H → wpAny (model X.prog X.w) X.A (execs st X.env) (SP X pins D) X.xe s
/-- weaken the end -/
theorem thn {α : Type} {t : Sem α} {Q Q' : α → Shared → Prop} {M : Model} {A : Around} {E : Value → Shared → Prop} {s : Shared} (h : wpAny M A t Q E s) (hQ : ∀ a s, Q a s → Q' a s) : wpAny M A t Q' E s := wpAny_mono h hQ fun _ _ x => x
end L2

namespace L2
open PySem PySem.Spec PyProof.Rows
section
variable {X : Cx}

/-! ### names and constants -/
inductive VarP (i : Nat) (σ : St) (H : Hp) (Q : VK) : Prop
  | mk (v : V) (e : σ[i]? = some (some v)) (q : Q v H) : VarP i σ H Q
def tVar (i : Nat) : TE := VarP i
def tC (v : V) : TE := fun _ H Q => Q v H
theorem pe_var {i : Nat} {x : Str} {pos : Pos} (hN : X.N[i]? = some x) (hv : Vis X.env.scope x) (hd : (x == ("__debug__" : Str)) = false := by decide) (hcd : (x == ("__classdict__" : Str)) = false := by decide) : PE X (.Name x pos) (tVar i) := by
  intro pins s σ H Q I h
  obtain ⟨v, e, h⟩ := h
  obtain ⟨m, hn, hl⟩ := I.loc
  obtain ⟨u, r, l⟩ := hl i x v hN e hv
  have fin : EP X pins σ Q u s := ⟨v, H, I, r, h⟩
  rcases l with ⟨hk, hm⟩ | ⟨hk, c, hc, hcell⟩
  · exact wpAny_Name (wpAny_loadName_local I.ok.kind hk hn hm fin) hd
  · rcases hk with hk | hk
    · exact wpAny_Name (wpAny_loadName_cell I.ok.kind hk hc hcell fin) hd
    · exact wpAny_Name (wpAny_loadName_free I.ok.kind hk hc hcell fin hcd) hd
theorem pe_int {i j pos} : PE X (.Constant (.int i) j pos) (tC (.int i)) := fun _ _ _ H _ I h => wpAny_Constant_int ⟨.int i, H, I.tok _, ⟨_, rfl⟩, h⟩
theorem pe_bl {b j pos} : PE X (.Constant (.bool b) j pos) (tC (.bl b)) := fun _ _ _ H _ I h => Constant_bool ⟨.bl b, H, I, rfl, h⟩
theorem pe_str {x j pos} : PE X (.Constant (.str x) j pos) (tC (.str x)) := fun _ _ _ H _ I h => Calls.Constant_str ⟨.str x, H, I.tok _, ⟨_, rfl⟩, h⟩

/-- a global name of the def -/
def Gl (X : Cx) (x : Str) : Prop := X.env.kindOf x = some .globalImplicit
theorem ld_glob {E : Value → Shared → Prop} {pins : List (Addr × Obj)} {s : Shared} {σ : St} {H : Hp} {x : Str} {u : Value} {pos : Pos} {Q : Value → Shared → Prop} (I : Inv X pins σ H s) (hg : Gl X x) (hm : X.mg x = some u) (h : Q u s)
    (hd : (x == ("__debug__" : Str)) = false := by decide) : wpAny (model X.prog X.w) X.A (eval (.Name x pos) X.env) Q E s :=
  Calls.Name_function_global I.ok.kind hg (Calls.loadGlobal_global (by rw [I.ok.glob]; exact I.mod.glob.keeps I.bk) hm h) hd
theorem ld_blt {E : Value → Shared → Prop} {pins : List (Addr × Obj)} {s : Shared} {σ : St} {H : Hp} {x : Str} {u : Value} {pos : Pos} {Q : Value → Shared → Prop} (I : Inv X pins σ H s) (hg : Gl X x) (hm : X.mg x = none) (hv : bootBuiltins x = some u) (h : Q u s)
    (hn : x ≠ "__name__" := by decide) (hd : (x == ("__debug__" : Str)) = false := by decide) : wpAny (model X.prog X.w) X.A (eval (.Name x pos) X.env) Q E s := by
  obtain ⟨mb, h1, h2⟩ := I.mod.blt
  exact Calls.Name_function_global I.ok.kind hg (Calls.loadGlobal_builtin (by rw [I.ok.glob]; exact I.mod.glob.keeps I.bk) hm (by rw [I.ok.blt]; exact h1.keeps I.bk) ((h2 x hn).trans hv) h) hd
/-- a module's constant, a class, a function, as a value -/
theorem pe_glob {x : Str} {v : V} {u : Value} {pos : Pos} (hg : Gl X x) (hm : X.mg x = some u) (r : RelV v u) (hd : (x == ("__debug__" : Str)) = false := by decide) : PE X (.Name x pos) (tC v) :=
  fun _ _ _ H _ I h => ld_glob I hg hm ⟨v, H, I, r, h⟩ hd
theorem pe_bltn {x : Str} {v : V} {u : Value} {pos : Pos} (hg : Gl X x) (hm : X.mg x = none) (hv : bootBuiltins x = some u) (r : RelV v u) (hn : x ≠ "__name__" := by decide) (hd : (x == ("__debug__" : Str)) = false := by decide) : PE X (.Name x pos) (tC v) :=
  fun _ _ _ H _ I h => ld_blt I hg hm hv ⟨v, H, I, r, h⟩ hn hd

/-! ### arithmetic -/
variable {a b : Expr} {ta tb : TE} {pos : Pos}
/-! ### comparisons -/
/-- a comparison as a value, as a test -/
inductive BlP (Q : Bool → Hp → Prop) (x : V) (H : Hp) : Prop
  | mk (c : Bool) (e : x = .bl c) (q : Q c H) : BlP Q x H
def tB (t : TE) : TT := fun σ H Q => t σ H (BlP Q)
/-- an expression whose value is a bool, as a test -/
theorem pt_val {e : Expr} {t : TE} (h : PE X e t) (he : ∀ whole, isTrue e X.env whole = (do let v ← whole; standAt e.pos; holding [v] (truthy v)) := by intro _; rfl) : PT X e (tB t) := by
  intro pins s σ H Q I hw
  refine isTrue_plain (thn (h pins s σ H _ I hw) fun v s1 zy => ?_) (he _)
  obtain ⟨x, H1, I1, r1, q1⟩ := zy
  obtain ⟨d, rfl, q⟩ := q1
  cases r1
  exact wpAny_truthy_bool ⟨H1, I1, q⟩

/-! ### and, or, not -/
variable {tA tB' : TT} {rest : List Expr}
def tOr (t u : TT) : TT := fun σ H Q => t σ H fun c H1 => if c = true then Q true H1 else u σ H1 Q
def tNot (t : TT) : TT := fun σ H Q => t σ H fun c H1 => Q (!c) H1
theorem pw_or1 (ha : PT X a tA) : PW X (.BoolOp .Or [a] pos) tA := by
  intro wh pins s σ H Q I h
  refine isTrue_or (thn (ha pins s σ H Q I h) fun c s1 e => ?_)
  cases c with
  | false => exact isTrue_or_nil e
  | true => exact e
theorem pw_or (ha : PT X a tA) (hb : PW X (.BoolOp .Or (b :: rest) pos) tB') : PW X (.BoolOp .Or (a :: b :: rest) pos) (tOr tA tB') := by
  intro wh pins s σ H Q I h
  refine isTrue_or (thn (ha pins s σ H _ I h) fun c s1 zy => ?_)
  obtain ⟨H1, I1, q1⟩ := zy
  cases c with
  | true => exact ⟨H1, I1, q1⟩
  | false => exact hb wh pins s1 σ H1 Q I1 q1
theorem pt_not (ha : PT X a tA) : PT X (.UnaryOp .Not a pos) (tNot tA) := by
  intro pins s σ H Q I h
  exact isTrue_not (ha pins s σ H (fun c H1 => Q (!c) H1) I h)
/-- .. as values (bools) -/
def tAndV (ta tb : TE) : TE := fun σ H Q => ta σ H fun x H1 => ∃ c, x = .bl c ∧ if c = true then tb σ H1 Q else Q (.bl false) H1
def tNotV (ta : TE) : TE := fun σ H Q => ta σ H fun x H1 => ∃ c, x = .bl c ∧ Q (.bl (!c)) H1
theorem pe_one {op} {t : TE} (h : PE X a t) : PE X (.BoolOp op [a] pos) t := fun pins s σ H Q I hw => BoolOp_one (h pins s σ H Q I hw)
theorem pe_and (ha : PE X a ta) (hb : PE X (.BoolOp .And (b :: rest) pos) tb) : PE X (.BoolOp .And (a :: b :: rest) pos) (tAndV ta tb) := by
  intro pins s σ H Q I h
  refine BoolOp_and (thn (ha pins s σ H _ I h) fun v s1 zy => ?_)
  obtain ⟨x, H1, I1, r1, q1⟩ := zy
  obtain ⟨c, rfl, q1⟩ := q1
  cases r1
  refine wpAny_truthy_bool ?_
  cases c with
  | true => exact hb pins s1 σ H1 Q I1 q1
  | false => exact ⟨.bl false, H1, I1, rfl, q1⟩
theorem pe_not (ha : PE X a ta) : PE X (.UnaryOp .Not a pos) (tNotV ta) := by
  intro pins s σ H Q I h
  refine UnaryOp_ (thn (ha pins s σ H _ I h) fun v s1 zy => ?_)
  obtain ⟨x, H1, I1, r1, q1⟩ := zy
  obtain ⟨c, rfl, q1⟩ := q1
  cases r1
  exact not_of (wpAny_truthy_bool ⟨.bl (!c), H1, I1, rfl, q1⟩)
end
end L2

namespace L2
open PySem PySem.Spec PyProof.Rows

/-! ### a list, a tuple that is read: tracked, frozen, or an object of the module -/
def SqL (K : PySem.W.Frag) (H : Hp) (a : Addr) (xs : List V) : Prop :=
  Rd H a (.lst xs) ∨
    ∃ (o : Obj) (its : Array Value) (n : Nat), K.lookup a = some o ∧ o.cls = .type "list" ∧ o.dict = none ∧ o.data = .seq its n ∧ its.size ≤ sizeLine ∧ Vals xs its.toList
def SqT (K : PySem.W.Frag) (H : Hp) (a : Addr) (xs : List V) : Prop :=
  Rd H a (.tup xs) ∨
    ∃ (o : Obj) (its : Array Value) (n : Nat), K.lookup a = some o ∧ o.cls = .type "tuple" ∧ o.data = .seq its n ∧ its.size ≤ sizeLine ∧ Vals xs its.toList
def absV : Value → Option V
  | .none => some .non
  | .bool b => some (.bl b)
  | .int i _ => some (.int i)
  | .str x _ => some (.str x)
  | .bytes b _ => some (.byt b)
  | .float b _ => some (.flt b)
  | .ref a => some (.ref a)
  | .type n => some (.ty n)
  | _ => none
theorem RelV.abs {x : V} {u : Value} (r : RelV x u) : absV u = some x := by
  cases x with
  | non => cases r; rfl
  | bl _ => cases r; rfl
  | int _ => obtain ⟨t, rfl⟩ := r; rfl
  | str _ => obtain ⟨t, rfl⟩ := r; rfl
  | byt _ => obtain ⟨t, rfl⟩ := r; rfl
  | flt _ => obtain ⟨t, rfl⟩ := r; rfl
  | ref _ => cases r; rfl
  | ty _ => cases r; rfl
theorem RelV.inj {x y : V} {u : Value} (r : RelV x u) (q : RelV y u) : x = y := Option.some.inj (r.abs.symm.trans q.abs)
theorem Vals.inj : ∀ {xs ys : List V} {us : List Value}, Vals xs us → Vals ys us → xs = ys
  | _, _, _, .nil, .nil => rfl
  | _, _, _, .cons r t, .cons r' t' => by rw [r.inj r', Vals.inj t t']
section
variable {X : Cx} {pins : List (Addr × Obj)} {σ : St} {H : Hp} {s : Shared} {a : Addr} {xs ys : List V}
theorem SqL.of {K : PySem.W.Frag} (h : H a = some (.lst xs)) : SqL K H a xs := .inl (.inl h)
theorem SqT.of {K : PySem.W.Frag} (h : H a = some (.tup xs)) : SqT K H a xs := .inl (.inl h)
theorem Inv.list (I : Inv X pins σ H s) (h : SqL X.K H a xs) : ∃ its : List Value, Vals xs its ∧ PlainL s.heap a its.toArray ∧ xs.length ≤ sizeLine := by
  rcases h with h | ⟨o, its, n, hk, hc, hd, hs, hz, r⟩
  · obtain ⟨z, its, n, r, e⟩ := h.ok I.hok
    exact ⟨its, r, ⟨_, n, e, rfl, rfl, rfl⟩, z⟩
  · refine ⟨its.toList, r, ⟨o, n, I.kIn a o hk, hc, hd, by simpa using hs⟩, ?_⟩
    have e := r.length
    simp only [Array.length_toList] at e
    omega
theorem Inv.tuple (I : Inv X pins σ H s) (h : SqT X.K H a xs) : ∃ its : List Value, Vals xs its ∧ IsTup s.heap a its.toArray ∧ xs.length ≤ sizeLine := by
  rcases h with h | ⟨o, its, n, hk, hc, hs, hz, r⟩
  · obtain ⟨z, its, r, p⟩ := h.ok I.hok
    exact ⟨its, r, p, z⟩
  · refine ⟨its.toList, r, ⟨o, I.kIn a o hk, hc, n, by simpa using hs⟩, ?_⟩
    have e := r.length
    simp only [Array.length_toList] at e
    omega
theorem Inv.list_inj (I : Inv X pins σ H s) (h : SqL X.K H a xs) (h' : SqL X.K H a ys) : xs = ys := by
  obtain ⟨its, r, ⟨o, n, e, _, _, d⟩, _⟩ := I.list h
  obtain ⟨its', r', ⟨o', n', e', _, _, d'⟩, _⟩ := I.list h'
  rw [e] at e'; cases e'
  rw [d] at d'
  injection d' with d1 _
  have : its = its' := by simpa using congrArg Array.toList d1
  subst this
  exact r.inj r'
theorem Inv.tuple_inj (I : Inv X pins σ H s) (h : SqT X.K H a xs) (h' : SqT X.K H a ys) : xs = ys := by
  obtain ⟨its, r, ⟨o, e, _, n, d⟩, _⟩ := I.tuple h
  obtain ⟨its', r', ⟨o', e', _, n', d'⟩, _⟩ := I.tuple h'
  rw [e] at e'; cases e'
  rw [d] at d'
  injection d' with d1 _
  have : its = its' := by simpa using congrArg Array.toList d1
  subst this
  exact r.inj r'
end

/-! ### another wish about exceptions -/
abbrev Cx.wish (X : Cx) (E : Value → Shared → Prop) : Cx := { X with xe := E }
/-- no exception leaves -/
abbrev Cx.nox (X : Cx) : Cx := X.wish fun _ _ => False
theorem Cx.Ok.wish {X : Cx} (ok : X.Ok) (E : Value → Shared → Prop) : (X.wish E).Ok :=
  ⟨ok.mod, ok.kind, ok.glob, ok.blt, ok.above, ok.inj, ok.has, ok.cab, ok.hd, ok.frames, ok.stk, ok.exf, ok.bs, ok.bsz, ok.noex, ok.exfs, ok.funs, ok.frf⟩
theorem Cx.Ok.unwish {X : Cx} {E : Value → Shared → Prop} (ok : (X.wish E).Ok) : X.Ok :=
  ⟨ok.mod, ok.kind, ok.glob, ok.blt, ok.above, ok.inj, ok.has, ok.cab, ok.hd, ok.frames, ok.stk, ok.exf, ok.bs, ok.bsz, ok.noex, ok.exfs, ok.funs, ok.frf⟩
section
variable {X : Cx} {pins : List (Addr × Obj)} {σ : St} {H : Hp} {s : Shared} {E : Value → Shared → Prop}
theorem Inv.wish (I : Inv X pins σ H s) (E : Value → Shared → Prop) : Inv (X.wish E) pins σ H s := ⟨I.ok.wish E, I.os, I.bare, I.base, I.loc, I.cell, I.free, I.freeC, I.pin, I.hok, I.len⟩
theorem Inv.unwish (I : Inv (X.wish E) pins σ H s) : Inv X pins σ H s := ⟨I.ok.unwish, I.os, I.bare, I.base, I.loc, I.cell, I.free, I.freeC, I.pin, I.hok, I.len⟩
theorem SP.unwish {D : Ends} {f : Flow} {s' : Shared} (h : SP (X.wish E) pins D f s') : SP X pins D f s' := by
  cases f with
  | next => obtain ⟨σ', H', I, q⟩ := h; exact ⟨σ', H', I.unwish, q⟩
  | brk => obtain ⟨σ', H', I, q⟩ := h; exact ⟨σ', H', I.unwish, q⟩
  | cont => obtain ⟨σ', H', I, q⟩ := h; exact ⟨σ', H', I.unwish, q⟩
  | ret u => obtain ⟨v, σ', H', I, r, q⟩ := h; exact ⟨v, σ', H', I.unwish, r, q⟩
theorem PE.nox {e : Expr} {t : TE} (h : PE X.nox e t) : PE X e t := fun pins s σ H Q I hw =>
  wpAny_mono (h pins s σ H Q (I.wish _) hw) (fun _ _ ⟨v, H', I', r, q⟩ => ⟨v, H', I'.unwish, r, q⟩) fun _ _ z => False.elim z
theorem PT.nox {e : Expr} {t : TT} (h : PT X.nox e t) : PT X e t := fun pins s σ H Q I hw =>
  wpAny_mono (h pins s σ H Q (I.wish _) hw) (fun _ _ ⟨H', I', q⟩ => ⟨H', I'.unwish, q⟩) fun _ _ z => False.elim z
theorem PSs.nox {st : List Stmt} {t : TS} (h : PSs X.nox st t) : PSs X st t := fun pins s σ H D I hw =>
  wpAny_mono (h pins s σ H D (I.wish _) hw) (fun _ _ q => q.unwish) fun _ _ z => False.elim z
end

/-! ### blocks and small statements -/
section
variable {X : Cx} {st : Stmt} {rest : List Stmt} {t u : TS} {e : Expr} {te : TE} {pos : Pos}
def tNext : TS := fun D σ H => D.nx σ H
def tSeq (t u : TS) : TS := fun D σ H => t (D.sq u) σ H
theorem pss_nil : PSs X [] tNext := fun _ _ σ H _ I h => wpAny_execs_nil ⟨σ, H, I, h⟩
theorem pss_cons (h1 : PS X st t) (h2 : PSs X rest u) : PSs X (st :: rest) (tSeq t u) := by
  intro pins s σ H D I h
  refine wpAny_execs_cons (thn (h1 pins s σ H { D with nx := u D } I h) fun f s1 q => ?_)
  cases f with
  | next =>
    obtain ⟨σ', H', I', q⟩ := q
    exact h2 pins s1 σ' H' D I' q
  | ret v => exact q
  | brk => exact q
  | cont => exact q
theorem pss_one (h1 : PS X st t) : PSs X [st] t := by
  intro pins s σ H D I h
  refine wpAny_execs_cons (thn (h1 pins s σ H D I h) fun f s1 q => ?_)
  cases f with
  | next => exact wpAny_execs_nil q
  | ret v => exact q
  | brk => exact q
  | cont => exact q
/-- in a def's body nothing is shown -/
theorem Inv.quiet {pins : List (Addr × Obj)} {σ : St} {H : Hp} {s : Shared} (I : Inv X pins σ H s) : interactive X.env = false := by simp [interactive, I.ok.kind]
/-- an expression whose value is dropped -/
def tDrop (te : TE) : TS := fun D σ H => te σ H fun _ H1 => D.nx σ H1
theorem ps_expr (he : PE X e te) (hs : swapsWith e none pos.line X.env = pure false := by rfl) : PS X (.Expr e pos) (tDrop te) := by
  intro pins s σ H D I h
  exact wpAny_Expr_any (thn (he pins s σ H _ I h) fun v s1 ⟨x, H1, I1, r1, q1⟩ => ⟨σ, H1, I1, q1⟩) I.quiet hs
def tRet (te : TE) : TS := fun D σ H => te σ H D.rt
theorem ps_ret (he : PE X e te) : PS X (.Return (some e) pos) (tRet te) := by
  intro pins s σ H D I h
  exact wpAny_Return_some (thn (he pins s σ H _ I h) fun v s1 ⟨x, H1, I1, r1, q1⟩ => ⟨x, σ, H1, I1, r1, q1⟩)
def tIfS (c : TT) (t u : TS) : TS := fun D σ H => c σ H fun b H1 => if b = true then t D σ H1 else u D σ H1
theorem ps_if {c : Expr} {a b : List Stmt} {tc : TT} (hc : PT X c tc) (ha : PSs X a t) (hb : PSs X b u) : PS X (.If c a b pos) (tIfS tc t u) := by
  intro pins s σ H D I h
  refine wpAny_If (thn (hc pins s σ H _ I h) fun d s1 zy => ?_)
  obtain ⟨H1, I1, q1⟩ := zy
  cases d with
  | true => exact ha pins s1 σ H1 D I1 q1
  | false => exact hb pins s1 σ H1 D I1 q1
end

/-! ### targets -/
abbrev TG := V → St → Hp → (St → Hp → Prop) → Prop
abbrev TGs := List V → St → Hp → (St → Hp → Prop) → Prop
def PG (X : Cx) (target : Expr) (t : TG) : Prop :=
  ∀ (pins : List (Addr × Obj)) (s : Shared) (σ : St) (H : Hp) (v : V) (u : Value) (Q : St → Hp → Prop), Inv X pins σ H s → RelV v u → t v σ H Q →
    wpAny (model X.prog X.w) X.A (assign target X.env u) (fun _ s' => ∃ σ' H', Inv X pins σ' H' s' ∧ Q σ' H') X.xe s
/-- several targets, one after another -/
def PGs (X : Cx) (ts : List Expr) (t : TGs) : Prop :=
  ∀ (pins : List (Addr × Obj)) (s : Shared) (σ : St) (H : Hp) (vs : List V) (us : List Value) (Q : St → Hp → Prop), Inv X pins σ H s → Vals vs us → t vs σ H Q →
    wpAny (model X.prog X.w) X.A (assignInOrder ((assignEach ts X.env).map (·.2)) us) (fun _ s' => ∃ σ' H', Inv X pins σ' H' s' ∧ Q σ' H') X.xe s
section
variable {X : Cx} {pos : Pos}
def gName (i : Nat) : TG := fun v σ H Q => Q (σ.set i (some v)) H
theorem pg_name {i : Nat} {x : Str} (hN : X.N.Nodup) (hi : X.N[i]? = some x) (hx : Loc X.env.scope x) (hf : X.fn x = true ∨ X.env.scope.names.lookup x = some .local := by first | exact .inl rfl | exact .inr rfl | assumption) : PG X (.Name x pos) (gName i) := by
  intro pins s σ H v u Q I r h
  exact wpAny_assign_Name (store_ok I hN hi hx r (fun s' I' => ⟨_, H, I', h⟩) hf)
def gNil : TGs := fun vs σ H Q => vs = [] ∧ Q σ H
def gCons (t : TG) (u : TGs) : TGs := fun vs σ H Q => ∃ v r, vs = v :: r ∧ t v σ H fun σ' H' => u r σ' H' Q
theorem pgs_nil : PGs X [] gNil := by
  intro pins s σ H vs us Q I r h
  obtain ⟨e, h⟩ := h
  subst e
  cases r
  exact assignInOrder_nil ⟨σ, H, I, h⟩
theorem pgs_cons {e : Expr} {es : List Expr} {t : TG} {u : TGs} (h1 : PG X e t) (h2 : PGs X es u)
    (hs : (assignEach (e :: es) X.env).map (·.2) = assign e X.env :: (assignEach es X.env).map (·.2) := by rfl) : PGs X (e :: es) (gCons t u) := by
  intro pins s σ H vs us Q I r h
  obtain ⟨v, vr, e1, h⟩ := h
  subst e1
  cases r with
  | cons r rr =>
    rw [hs]
    refine assignInOrder_cons (thn (h1 pins s σ H _ _ _ I r h) fun _ s1 zy => ?_)
    obtain ⟨σ1, H1, I1, q1⟩ := zy
    exact h2 pins s1 σ1 H1 _ _ Q I1 rr q1
/-- (a, b, ..) = a tuple of that length -/
def gTup (K : PySem.W.Frag) (n : Nat) (t : TGs) : TG := fun v σ H Q => ∃ a xs, v = .ref a ∧ SqT K H a xs ∧ xs.length = n ∧ t xs σ H Q
theorem pg_tup {es : List Expr} {k : Nat} {t : TGs} {n : Nat} (hc : X.calm = true) (h : PGs X es t)
    (hn : (assignEach es X.env).length = n := by rfl) (hst : (assignEach es X.env).findIdx? (·.1) = none := by rfl) : PG X (.Tuple es k pos) (gTup X.K n t) := by
  intro pins s σ H v u Q I r hw
  obtain ⟨a, xs, e1, hq, hl, hw⟩ := hw
  subst e1
  cases r
  obtain ⟨its, rv, ht, hz⟩ := I.tuple hq
  refine assign_Tuple_tuple (I.ok.hd hc) ht (by simp [hn, ← hl, rv.length]) hst fun h' hx => ?_
  have I1 : Inv X pins σ H { s with heap := h' } := I.kept (t' := s.toks) fun b o e => hx b o (Nat.ne_of_lt (Heap.lt_size e)) e
  exact h pins _ σ H xs _ Q I1 (by simpa using rv) hw
/-- target = value -/
def tAsg (te : TE) (g : TG) : TS := fun D σ H => te σ H fun x H1 => g x σ H1 D.nx
/-- name = value -/
theorem ps_set {i : Nat} {x : Str} {e : Expr} {te : TE} {pos' : Pos} (hN : X.N.Nodup) (hi : X.N[i]? = some x) (hx : Loc X.env.scope x) (he : PE X e te) (hs : swapsWith e (some (.Name x pos')) pos.line X.env = pure false := by rfl) (hf : X.fn x = true ∨ X.env.scope.names.lookup x = some .local := by first | exact .inl rfl | exact .inr rfl | assumption) :
    PS X (.Assign [.Name x pos'] e pos) (tAsg te (gName i)) := by
  intro pins s σ H D I h
  refine wpAny_Assign_Name (thn (he pins s σ H _ I h) fun v s1 zy => ?_) hs
  obtain ⟨y, H1, I1, r1, q1⟩ := zy
  exact store_ok I1 hN hi hx r1 (fun s2 I2 => ⟨_, H1, I2, q1⟩) hf
end

/-! ### while -/
section
variable {X : Cx} {pos : Pos}
end

/-! ### what a loop or a comprehension walks -/
/-- at turn i: it yields x (the heap may grow), or it stops -/
structure It where
  go : Nat → Hp → Prop
  yld : Nat → Hp → V → Hp → Prop
  stop : Nat → Hp → Prop
/-- the iterator's own objects may turn: they are not the frame's, not pinned, younger than the entry (or a comprehension's own) -/
def FpOk (X : Cx) (pins : List (Addr × Obj)) (H : Hp) (b : Addr) : Prop :=
  H b = none ∧ b ≠ X.env.locals ∧ b ∉ X.fs ∧ (b ∈ X.ex ∨ X.s₀.heap.objs.size ≤ b) ∧ (∀ x c, X.env.cells.lookup x = some c → c ≠ b) ∧ ∀ p ∈ X.pn ++ pins, p.1 ≠ b
theorem Inv.fpOk {X : Cx} {pins : List (Addr × Obj)} {σ : St} {H H' : Hp} {s : Shared} {b : Addr} (I : Inv X pins σ H s) (hb : s.heap.objs.size ≤ b) (hn : H' b = none) : FpOk X pins H' b := by
  refine ⟨hn, Nat.ne_of_gt (Nat.lt_of_lt_of_le I.lt hb), I.nofs hb, .inr (Nat.le_trans I.sz hb), fun x c e z => ?_, fun p hp z => ?_⟩
  · obtain ⟨v, q⟩ := I.cell x c e
    exact absurd (Nat.lt_of_lt_of_le q.lt (by rw [z]; exact hb)) (Nat.lt_irrefl _)
  · exact absurd (Nat.lt_of_lt_of_le (Heap.lt_size (I.pin p hp).1) (by rw [z]; exact hb)) (Nat.lt_irrefl _)
structure Turn (P : Program) (w : World) (K : PySem.W.Frag) (tg : Expr) (J : It) (fp : List Addr) (it : Addr) (tn : Nat → Heap → Prop) : Prop where
  mem : it ∈ fp
  obj : ∀ i h, tn i h → ∀ b ∈ fp, ∃ o, h.get? b = some o ∧ ∀ v, o.data ≠ .cell v
  keep : ∀ i h h', tn i h → (∀ b ∈ fp, ∀ o, h.get? b = some o → h'.get? b = some o) → tn i h'
  item : ∀ (X : Cx), X.prog = P → X.w = w → X.K = K → X.calm = true → ∀ (i : Nat) (pins : List (Addr × Obj)) (s : Shared) (σ : St) (H : Hp) (E : Value → Shared → Prop), Inv X pins σ H s → (∀ b ∈ fp, FpOk X pins H b) → tn i s.heap → J.go i H →
    wpAny (model P w) X.A (pyNext (.ref it)) (fun r s1 => ∃ u, r = some u ∧
      wpAny (model P w) X.A (letOwnedTupleGo tg (.ref it) u) (fun _ s2 => ∃ x H', Inv X pins σ H' s2 ∧ RelV x u ∧ J.yld i H x H' ∧ tn (i + 1) s2.heap ∧ ∀ b ∈ fp, H' b = none) E s1) E s
  done : ∀ (X : Cx), X.prog = P → X.w = w → X.K = K → X.calm = true → ∀ (i : Nat) (pins : List (Addr × Obj)) (s : Shared) (σ : St) (H : Hp) (E : Value → Shared → Prop), Inv X pins σ H s → (∀ b ∈ fp, FpOk X pins H b) → tn i s.heap → J.stop i H →
    wpAny (model P w) X.A (pyNext (.ref it)) (fun r s1 => r = none ∧ Inv X pins σ H s1) E s
  self : ∀ (A : Around) (i : Nat) (s : Shared) (Q : Value → Shared → Prop) (E : Value → Shared → Prop), tn i s.heap → Q (.ref it) s → wpAny (model P w) A (pyIter (.ref it)) Q E s
abbrev TI := St → Hp → (It → Hp → Prop) → Prop
/-- an iterator has come -/
def PIE (X : Cx) (pins : List (Addr × Obj)) (σ : St) (tg : Expr) (R : It → Hp → Prop) (itv : Value) (s2 : Shared) : Prop :=
  ∃ (it : Addr) (fp : List Addr) (tn : Nat → Heap → Prop) (J : It) (H' : Hp), itv = .ref it ∧ Inv X pins σ H' s2 ∧ Turn X.prog X.w X.K tg J fp it tn ∧ tn 0 s2.heap ∧ (∀ b ∈ fp, FpOk X pins H' b) ∧ R J H'
def PI (X : Cx) (tg iter : Expr) (wi : TI) : Prop :=
  ∀ (pins : List (Addr × Obj)) (s : Shared) (σ : St) (H : Hp) (R : It → Hp → Prop), Inv X pins σ H s → wi σ H R →
    wpAny (model X.prog X.w) X.A (eval iter X.env) (fun v s1 => wpAny (model X.prog X.w) X.A (pyIter v) (PIE X pins σ tg R) X.xe s1) X.xe s

/-- the step ahead of the store is nothing for an iterator that keeps no tuple -/
theorem go_of {M : Model} {A : Around} {E : Value → Shared → Prop} {s : Shared} {tg : Expr} {it : Addr} {u : Value} {o : Obj} {n : String} {vs : Array Value} {Q : Unit → Shared → Prop} (ho : s.heap.get? it = some o) (hc : o.cls = .type n) (hd : o.data = .fields vs)
    (hn : ["enumerate", "zip", "dict_itemiterator", "dict_reverseitemiterator", "odict_iterator", "itertools.zip_longest", "itertools.pairwise"].contains n = false) (hQ : Q () s) : wpAny M A (letOwnedTupleGo tg (.ref it) u) Q E s := by
  unfold letOwnedTupleGo
  cases tg <;> first
    | exact wpAny_pure hQ
    | (cases u <;> first
        | exact wpAny_pure hQ
        | (refine wpAny_bind (wpAny_load ho ?_)
           rw [hc, hd]
           show wpAny M A (if (["enumerate", "zip", "dict_itemiterator", "dict_reverseitemiterator", "odict_iterator", "itertools.zip_longest", "itertools.pairwise"].contains n && vs[0]? == some (rawInt _)) = true then _ else _) Q E s
           rw [if_neg (by intro h; rw [hn, Bool.false_and] at h; cases h)]
           exact wpAny_pure hQ))

/-- the list at a, as it stands at each turn (a loop may append to it) -/
def Itl (K : PySem.W.Frag) (a : Addr) : It :=
  ⟨fun i H => ∃ xs x, SqL K H a xs ∧ xs[i]? = some x, fun i H x H' => H' = H ∧ ∀ xs, SqL K H a xs → xs[i]? = some x, fun i H => ∃ xs, SqL K H a xs ∧ xs.length ≤ i⟩
def Itt (K : PySem.W.Frag) (a : Addr) : It :=
  ⟨fun i H => ∃ xs x, SqT K H a xs ∧ xs[i]? = some x, fun i H x H' => H' = H ∧ ∀ xs, SqT K H a xs → xs[i]? = some x, fun i H => ∃ xs, SqT K H a xs ∧ xs.length ≤ i⟩
/-- lo, lo + 1, .. (n of them) -/
def Itr (lo : Int) (n : Nat) : It := ⟨fun i _ => i < n, fun i H x H' => H' = H ∧ x = .int (lo + i), fun i _ => n ≤ i⟩
theorem turn_list {P : Program} {w : World} {K : PySem.W.Frag} {tg : Expr} (a it : Addr) : Turn P w K tg (Itl K a) [it] it (fun i h => h.IsListIter it a i) where
  mem := by simp
  obj := fun i h st b hb => by
    have e : b = it := by simpa using hb
    subst e
    obtain ⟨o, e, c, d⟩ := st
    exact ⟨o, e, fun v z => by rw [d] at z; cases z⟩
  keep := fun i h h' st k => st.at fun o e => k it (by simp) o e
  item := by
    intro X hP hw hK hc i pins s σ H E I hf st hg
    subst hP hw hK
    obtain ⟨xs, x, hq, hx⟩ := hg
    obtain ⟨its, rv, p, hz⟩ := I.list hq
    obtain ⟨u, hu, ru⟩ := rv.get hx
    obtain ⟨f0, f1, f2, f3, f4, f5⟩ := hf it (by simp)
    refine wpAny_pyNext_list_item st p.isList (x := u) (by simpa using hu) fun h' st' sb => ?_
    have I1 : Inv X pins σ H { s with heap := h' } := I.turned (t' := s.toks) (fun b o hb e => (sb.2 b hb).trans e) f0 f1 f3 f4 f5
    obtain ⟨o, e, c, d⟩ := id st'
    exact ⟨u, rfl, go_of (s := { s with heap := h' }) e c d (by decide) ⟨x, H, I1, ru, ⟨rfl, fun ys hy => by rw [I.list_inj hy hq]; exact hx⟩, st', fun b hb => (hf b hb).1⟩⟩
  done := by
    intro X hP hw hK hc i pins s σ H E I hf st hg
    subst hP hw hK
    obtain ⟨xs, hq, hx⟩ := hg
    obtain ⟨its, rv, p, hz⟩ := I.list hq
    obtain ⟨f0, f1, f2, f3, f4, f5⟩ := hf it (by simp)
    have hl := rv.length
    exact wpAny_pyNext_list_end (I.ok.hd hc) st p.isList (by simp; omega) fun h' eb => ⟨rfl, I.turned (t' := s.toks) (fun b o hb e => eb b o hb e) f0 f1 f3 f4 f5⟩
  self := fun _ _ _ _ _ st h => wpAny_pyIter_listiter st h
theorem turn_tuple {P : Program} {w : World} {K : PySem.W.Frag} {tg : Expr} (a it : Addr) : Turn P w K tg (Itt K a) [it] it (fun i h => h.IsTupleIter it a i) where
  mem := by simp
  obj := fun i h st b hb => by
    have e : b = it := by simpa using hb
    subst e
    obtain ⟨o, e, c, d⟩ := st
    exact ⟨o, e, fun v z => by rw [d] at z; cases z⟩
  keep := fun i h h' st k => st.at fun o e => k it (by simp) o e
  item := by
    intro X hP hw hK hc i pins s σ H E I hf st hg
    subst hP hw hK
    obtain ⟨xs, x, hq, hx⟩ := hg
    obtain ⟨its, rv, p, hz⟩ := I.tuple hq
    obtain ⟨u, hu, ru⟩ := rv.get hx
    obtain ⟨f0, f1, f2, f3, f4, f5⟩ := hf it (by simp)
    refine wpAny_pyNext_tuple_item st (show s.heap.IsTuple a its.toArray from p) (x := u) (by simpa using hu) fun h' st' sb => ?_
    have I1 : Inv X pins σ H { s with heap := h' } := I.turned (t' := s.toks) (fun b o hb e => (sb.2 b hb).trans e) f0 f1 f3 f4 f5
    obtain ⟨o, e, c, d⟩ := id st'
    exact ⟨u, rfl, go_of (s := { s with heap := h' }) e c d (by decide) ⟨x, H, I1, ru, ⟨rfl, fun ys hy => by rw [I.tuple_inj hy hq]; exact hx⟩, st', fun b hb => (hf b hb).1⟩⟩
  done := by
    intro X hP hw hK hc i pins s σ H E I hf st hg
    subst hP hw hK
    obtain ⟨xs, hq, hx⟩ := hg
    obtain ⟨its, rv, p, hz⟩ := I.tuple hq
    obtain ⟨f0, f1, f2, f3, f4, f5⟩ := hf it (by simp)
    have hl := rv.length
    exact wpAny_pyNext_tuple_end (I.ok.hd hc) st (show s.heap.IsTuple a its.toArray from p) (by simp; omega) fun h' eb => ⟨rfl, I.turned (t' := s.toks) (fun b o hb e => eb b o hb e) f0 f1 f3 f4 f5⟩
  self := fun _ _ _ _ _ st h => wpAny_pyIter_tupleiter st h
theorem turn_range {P : Program} {w : World} {K : PySem.W.Frag} {tg : Expr} (it : Addr) (lo : Int) (n : Nat) : Turn P w K tg (Itr lo n) [it] it (fun i h => IsRangeIter h it (lo + (i : Nat) * 1) ((n : Int) - (i : Nat)) 1) where
  mem := by simp
  obj := fun i h st b hb => by
    have e : b = it := by simpa using hb
    subst e
    exact ⟨_, st, fun v z => by
      have z' : Data.fields _ = Data.cell v := z
      cases z'⟩
  keep := fun i h h' st k => k it (by simp) _ st
  item := by
    intro X hP hw hK hc i pins s σ H E I hf st hg
    subst hP hw hK
    obtain ⟨f0, f1, f2, f3, f4, f5⟩ := hf it (by simp)
    have W := Walks.range (prog := X.prog) (w := X.w) (I.ok.hd hc) it lo 1 n
    refine W.item i s _ _ hg st fun v h' tk hv st' kk => ?_
    obtain ⟨t, rfl⟩ := hv
    have I1 : Inv X pins σ H { s with heap := h', toks := tk } := I.turned (fun b o hb e => kk b o (by simpa using hb) e) f0 f1 f3 f4 f5
    refine ⟨_, rfl, go_of (s := { s with heap := h', toks := tk }) (n := "range_iterator") st' rfl rfl (by decide) ⟨.int (lo + i), H, I1, ⟨t, ?_⟩, ⟨rfl, rfl⟩, st', fun b hb => (hf b hb).1⟩⟩
    rw [Int.mul_one]
  done := by
    intro X hP hw hK hc i pins s σ H E I hf st hg
    subst hP hw hK
    obtain ⟨f0, f1, f2, f3, f4, f5⟩ := hf it (by simp)
    exact wpAny_pyNext_range_end (I.ok.hd hc) st (by have : n ≤ i := hg; omega) fun h' eb => ⟨rfl, I.turned (t' := s.toks) (fun b o hb e => eb b o hb e) f0 f1 f3 f4 f5⟩
  self := fun _ _ _ _ _ st h => wpAny_pyIter_rangeiter st h
end L2

namespace L2
open PySem PySem.Spec PyProof.Rows
section
variable {X : Cx} {tg : Expr}
def iList (K : PySem.W.Frag) (tl : TE) : TI := fun σ H R => tl σ H fun x H1 => ∃ a, x = .ref a ∧ (∃ xs, SqL K H1 a xs) ∧ R (Itl K a) H1
def iTup (K : PySem.W.Frag) (tl : TE) : TI := fun σ H R => tl σ H fun x H1 => ∃ a, x = .ref a ∧ (∃ xs, SqT K H1 a xs) ∧ R (Itt K a) H1
/-- a range object just made, walked -/
theorem range_it {pins : List (Addr × Obj)} {σ : St} {H : Hp} {s : Shared} {R : It → Hp → Prop} {E : Value → Shared → Prop} {lo hi : Int} {t u v : Tok} {tk : Nat} (I : Inv X pins σ H s) (h1 : -(2 ^ 62) ≤ lo) (h2 : lo < 2 ^ 62) (h3 : -(2 ^ 62) ≤ hi) (h4 : hi < 2 ^ 62)
    (q : R (Itr lo (hi - lo).toNat) H) : wpAny (model X.prog X.w) X.A (pyIter (.ref s.heap.objs.size)) (PIE X pins σ tg R) E { s with heap := s.heap.push { cls := .type "range", data := .fields #[.int lo t, .int hi u, .int 1 v] }, toks := tk } := by
  refine wpAny_pyIter_range (IsRange.new ..) (small_one h1 h2 h3 h4) ?_
  have I1 : Inv X pins σ H { s with heap := s.heap.push { cls := .type "range", data := .fields #[.int lo t, .int hi u, .int 1 v] }, toks := tk } := I.kept fun b o e => Heap.get?_push_of_some _ e
  refine ⟨(s.heap.push { cls := .type "range", data := .fields #[.int lo t, .int hi u, .int 1 v] }).objs.size, [(s.heap.push { cls := .type "range", data := .fields #[.int lo t, .int hi u, .int 1 v] }).objs.size], _, _, H, rfl,
    I1.kept (t' := tk) fun b o e => Heap.get?_push_of_some _ e, turn_range _ lo (hi - lo).toNat, ?_, fun b hb => ?_, q⟩
  · have e1 : lo + ((0 : Nat) : Int) * 1 = lo := by simp
    have e2 : (((hi - lo).toNat : Nat) : Int) - ((0 : Nat) : Int) = Builtin.Range.rangeSize lo hi 1 := by rw [rangeSize_one]; split <;> omega
    show IsRangeIter _ _ (lo + ((0 : Nat) : Int) * 1) ((((hi - lo).toNat : Nat) : Int) - ((0 : Nat) : Int)) 1
    rw [e1, e2]
    exact Heap.get?_push_size _ rfl
  · have e : b = (s.heap.push { cls := .type "range", data := .fields #[.int lo t, .int hi u, .int 1 v] }).objs.size := by simpa using hb
    subst e
    exact I1.fpOk (Nat.le_refl _) (I1.hok.fresh (Nat.le_refl _))
def iRng1 (ta : TA) : TI := fun σ H R => ta σ H fun vs H1 => ∃ j : Int, vs = [.int j] ∧ -(2 ^ 62) ≤ j ∧ j < 2 ^ 62 ∧ R (Itr 0 j.toNat) H1
theorem pi_range1 {a : Expr} {ta : TA} {p pos : Pos} (hg : Gl X "range") (hm : X.mg "range" = none) (ha : PA X [a] ta) (hs : starEach [a] X.env = [(false, eval a X.env)] := by rfl) : PI X tg (.Call (.Name "range" p) [a] [] pos) (iRng1 ta) := by
  intro pins s σ H R I h
  refine Call_ (ld_blt I hg hm boot_range (PyProof.Rows.callWith_type1 (thn (ha pos pins s σ H _ I h) fun us s1 zy => ?_) hs rfl))
  obtain ⟨vs, H1, I1, r1, q1⟩ := zy
  obtain ⟨j, e, q1, q2, q⟩ := q1
  subst e
  cases r1 with
  | cons r rr =>
    cases rr
    obtain ⟨t, rfl⟩ := r
    exact call_range_1 (range_it I1 (by omega) (by omega) q1 q2 (by simpa using q))
/-! ### for -/
/-- W: the invariant by the turn and a measure; N: what the body is to reach -/
def tFor (wi : TI) (g : TG) (tb : TS) : TS := fun D σ H => wi σ H fun J H1 => ∃ W : Nat → Nat → St → Hp → Prop, (∃ m, W 0 m σ H1) ∧ ∀ i m σ H, W i m σ H →
  (J.stop i H ∧ D.nx σ H) ∨ (J.go i H ∧ ∃ N : St → Hp → Prop, (∀ σ' H', N σ' H' → ∃ m', m' < m ∧ W (i + 1) m' σ' H') ∧ ∀ x H', J.yld i H x H' → g x σ H' fun σ2 H2 => tb (D.lp (N)) σ2 H2)
/-- the records at fp as they stand -/
def pinsAt (fp : List Addr) (h : Heap) : List (Addr × Obj) := fp.filterMap fun b => (h.get? b).map fun o => (b, o)
theorem mem_pinsAt {fp : List Addr} {h : Heap} {b : Addr} {o : Obj} (hb : b ∈ fp) (e : h.get? b = some o) : (b, o) ∈ pinsAt fp h := List.mem_filterMap.mpr ⟨b, hb, by rw [e]; rfl⟩
theorem of_pinsAt {fp : List Addr} {h : Heap} {p : Addr × Obj} (hp : p ∈ pinsAt fp h) : p.1 ∈ fp ∧ h.get? p.1 = some p.2 := by
  obtain ⟨b, hb, e⟩ := List.mem_filterMap.mp hp
  cases q : h.get? b with
  | none => rw [q] at e; cases e
  | some o =>
    rw [q] at e
    have e' : (b, o) = p := Option.some.inj e
    subst e'
    exact ⟨hb, q⟩
theorem Inv.pinned {pins : List (Addr × Obj)} {σ : St} {H : Hp} {s : Shared} {fp : List Addr} (I : Inv X pins σ H s) (hf : ∀ b ∈ fp, FpOk X pins H b) (ho : ∀ b ∈ fp, ∃ o, s.heap.get? b = some o ∧ ∀ v, o.data ≠ .cell v) : Inv X (pins ++ pinsAt fp s.heap) σ H s :=
  I.pins_of fun p hp => (List.mem_append.mp hp).elim (fun z => I.pin p (List.mem_append_right _ z)) fun z => by
    obtain ⟨hb, e⟩ := of_pinsAt z
    obtain ⟨f0, f1, f2, _⟩ := hf p.1 hb
    obtain ⟨o, e', d⟩ := ho p.1 hb
    rw [e] at e'; cases e'
    exact ⟨e, f0, f1, f2, d⟩
theorem Inv.unpinned {pins pl : List (Addr × Obj)} {σ : St} {H : Hp} {s : Shared} (I : Inv X (pins ++ pl) σ H s) : Inv X pins σ H s := I.pins_of fun p hp => I.pin p (List.mem_append_right _ (List.mem_append_left _ hp))
theorem ps_for {iter : Expr} {body : List Stmt} {wi : TI} {g : TG} {tb : TS} {pos : Pos} (hp : PassesOwn (model X.prog X.w) X.A X.env X.xe) (hc : X.calm = true) (hi : PI X tg iter wi) (hg : PG X tg g) (hb : PSs X body tb)
    (hs : ∀ x, foldedSetIterable iter X.env x = pure x := by intro _; rfl) : PS X (.For tg iter body [] pos) (tFor wi g tb) := by
  intro pins s σ H D I h
  refine wpAny_For (thn (hi pins s σ H _ I h) fun v s1 h1 => thn h1 fun itv s2 h2 => ?_) hs
  obtain ⟨it, fp, tn, J, H2, e, I2, T, st2, f2, W, ⟨m0, w0⟩, turn⟩ := h2
  subst e
  -- what stays true of the iterator's objects through the loop
  have stat : ∀ {H' : Hp}, (∀ b ∈ fp, H' b = none) → ∀ b ∈ fp, FpOk X pins H' b := fun hn b hb => ⟨hn b hb, (f2 b hb).2⟩
  refine codeAny_forLoop_any (fun n s' => ∃ i σ' H', Inv X pins σ' H' s' ∧ tn i s'.heap ∧ (∀ b ∈ fp, H' b = none) ∧ W i n σ' H') ?_ m0 ⟨0, σ, H2, I2, st2, fun b hb => (f2 b hb).1, w0⟩
  rintro n s3 ⟨i, σ3, H3, I3, st3, fr3, w3⟩
  rcases turn i n σ3 H3 w3 with ⟨stop, qn⟩ | ⟨go, N, hN, step⟩
  · refine wpAny_passesOwn hp (thn (T.done X rfl rfl rfl hc i pins s3 σ3 H3 X.xe I3 (stat fr3) st3 stop) fun r s4 zy => ?_)
    obtain ⟨hr, I4⟩ := zy
    subst hr
    exact wpAny_execs_nil ⟨σ3, H3, I4, qn⟩
  · refine wpAny_passesOwn hp (thn (T.item X rfl rfl rfl hc i pins s3 σ3 H3 X.xe I3 (stat fr3) st3 go) fun r s4 zy => ?_)
    obtain ⟨u, hr, h4⟩ := zy
    subst hr
    refine wpAny_passesOwn hp (thn h4 fun _ s5 zy => ?_)
    obtain ⟨x, H5, I5, r5, y5, st5, fr5⟩ := zy
    have I5' := I5.pinned (stat fr5) (T.obj _ _ st5)
    refine wpAny_passesOwn hp (thn (hg _ s5 σ3 H5 x u _ I5' r5 (step x H5 y5)) fun _ s6 zy => ?_)
    obtain ⟨σ6, H6, I6, q6⟩ := zy
    refine wpAny_passesOwn hp (thn (hb _ s6 σ6 H6 _ I6 q6) fun f s7 q7 => ?_)
    have again : ∀ {σ7 : St} {H7 : Hp}, Inv X (pins ++ pinsAt fp s5.heap) σ7 H7 s7 → N σ7 H7 → ∃ m, m < n ∧ ∃ i σ' H', Inv X pins σ' H' s7 ∧ tn i s7.heap ∧ (∀ b ∈ fp, H' b = none) ∧ W i m σ' H' := fun {σ7 H7} I7 n7 => by
      obtain ⟨m', hm, w7⟩ := hN σ7 H7 n7
      refine ⟨m', hm, i + 1, σ7, H7, I7.unpinned, T.keep _ _ _ st5 fun b hb o e => (I7.pin (b, o) (List.mem_append_right _ (List.mem_append_right _ (mem_pinsAt hb e)))).1, fun b hb => ?_, w7⟩
      obtain ⟨o, e, d⟩ := T.obj _ _ st5 b hb
      exact (I7.pin (b, o) (List.mem_append_right _ (List.mem_append_right _ (mem_pinsAt hb e)))).2.1
    cases f with
    | next => obtain ⟨σ7, H7, I7, n7⟩ := q7; exact again I7 n7
    | cont => obtain ⟨σ7, H7, I7, n7⟩ := q7; exact again I7 n7
    | brk => obtain ⟨σ7, H7, I7, q7⟩ := q7; exact ⟨σ7, H7, I7.unpinned, q7⟩
    | ret v => obtain ⟨x7, σ7, H7, I7, r7, q7⟩ := q7; exact ⟨x7, σ7, H7, I7.unpinned, r7, q7⟩
end

/-! ### the forms one uses -/
theorem for_tup {K : PySem.W.Frag} {a : Addr} {xs : List V} {g : TG} {tb : TS} {D : Ends} {σ : St} {H : Hp} (Pv : Nat → St → Hp → Prop) (h0 : Pv 0 σ H) (hl : ∀ i σ H, i ≤ xs.length → Pv i σ H → SqT K H a xs)
    (hs : ∀ i x σ H, xs[i]? = some x → Pv i σ H → g x σ H fun σ2 H2 => tb (D.lp (Pv (i + 1))) σ2 H2) (hd : ∀ σ H, Pv xs.length σ H → D.nx σ H) :
    ∃ W : Nat → Nat → St → Hp → Prop, (∃ m, W 0 m σ H) ∧ ∀ i m σ H, W i m σ H →
      ((Itt K a).stop i H ∧ D.nx σ H) ∨ ((Itt K a).go i H ∧ ∃ N : St → Hp → Prop, (∀ σ' H', N σ' H' → ∃ m', m' < m ∧ W (i + 1) m' σ' H') ∧ ∀ x H', (Itt K a).yld i H x H' → g x σ H' fun σ2 H2 => tb (D.lp (N)) σ2 H2) := by
  refine ⟨fun i m σ H => m = xs.length - i ∧ i ≤ xs.length ∧ Pv i σ H, ⟨xs.length, by simp, Nat.zero_le _, h0⟩, ?_⟩
  rintro i m σ H ⟨rfl, hi, p⟩
  have q := hl i σ H hi p
  by_cases hlt : i < xs.length
  · refine .inr ⟨⟨xs, xs[i], q, by simp [hlt]⟩, Pv (i + 1), fun σ' H' p' => ⟨xs.length - (i + 1), by omega, rfl, hlt, p'⟩, fun x H' y => ?_⟩
    obtain ⟨e, y⟩ := y
    subst e
    exact hs i x σ _ (y xs q) p
  · have e : i = xs.length := by omega
    subst e
    exact .inl ⟨⟨xs, q, Nat.le_refl _⟩, hd σ H p⟩
theorem for_range {lo : Int} {n : Nat} {g : TG} {tb : TS} {D : Ends} {σ : St} {H : Hp} (Pv : Nat → St → Hp → Prop) (h0 : Pv 0 σ H)
    (hs : ∀ i σ H, i < n → Pv i σ H → g (.int (lo + i)) σ H fun σ2 H2 => tb (D.lp (Pv (i + 1))) σ2 H2) (hd : ∀ σ H, Pv n σ H → D.nx σ H) :
    ∃ W : Nat → Nat → St → Hp → Prop, (∃ m, W 0 m σ H) ∧ ∀ i m σ H, W i m σ H →
      ((Itr lo n).stop i H ∧ D.nx σ H) ∨ ((Itr lo n).go i H ∧ ∃ N : St → Hp → Prop, (∀ σ' H', N σ' H' → ∃ m', m' < m ∧ W (i + 1) m' σ' H') ∧ ∀ x H', (Itr lo n).yld i H x H' → g x σ H' fun σ2 H2 => tb (D.lp (N)) σ2 H2) := by
  refine ⟨fun i m σ H => m = n - i ∧ i ≤ n ∧ Pv i σ H, ⟨n, by simp, Nat.zero_le _, h0⟩, ?_⟩
  rintro i m σ H ⟨rfl, hi, p⟩
  by_cases hlt : i < n
  · refine .inr ⟨hlt, Pv (i + 1), fun σ' H' p' => ⟨n - (i + 1), by omega, rfl, hlt, p'⟩, fun x H' y => ?_⟩
    obtain ⟨e, y⟩ := y
    subst e y
    exact hs i σ _ hlt p
  · have e : i = n := by omega
    subst e
    exact .inl ⟨Nat.le_refl _, hd σ H p⟩
end L2

namespace L2
open PySem PySem.Spec PyProof.Rows

abbrev R2 := V → V → Hp → VK → Prop
/-- a two-place operation on values: f is binaryOp op, inplaceOp op or compareOp op -/
def OpR (X : Cx) (f : Value → Value → Sem Value) (r : R2) : Prop :=
  ∀ (pins : List (Addr × Obj)) (s : Shared) (σ : St) (H : Hp) (x y : V) (v u : Value) (Q : VK), Inv X pins σ H s → RelV x v → RelV y u → r x y H Q →
    wpAny (model X.prog X.w) X.A (f v u) (EP X pins σ Q) X.xe s
/-- a call of a value that is known (a builtin, a type) with values -/
def CallR (X : Cx) (f : Value) (r : List V → Hp → VK → Prop) : Prop :=
  ∀ (pins : List (Addr × Obj)) (s : Shared) (σ : St) (H : Hp) (xs : List V) (us : List Value) (Q : VK), Inv X pins σ H s → Vals xs us → r xs H Q →
    wpAny (model X.prog X.w) X.A (call f us) (EP X pins σ Q) X.xe s
def tOp (r : R2) (ta tb : TE) : TE := fun σ H Q => ta σ H fun x H1 => tb σ H1 fun y H2 => r x y H2 Q
/-- ints in, under C, and a value out -/
inductive IntP (C : Int → Int → Prop) (g : Int → Int → V) (x y : V) (H : Hp) (Q : VK) : Prop
  | mk (i j : Int) (e1 : x = .int i) (e2 : y = .int j) (c : C i j) (q : Q (g i j) H) : IntP C g x y H Q
inductive IntP0 (g : Int → Int → V) (x y : V) (H : Hp) (Q : VK) : Prop
  | mk (i j : Int) (e1 : x = .int i) (e2 : y = .int j) (q : Q (g i j) H) : IntP0 g x y H Q
def rI (C : Int → Int → Prop) (g : Int → Int → V) : R2 := IntP C g
def rI0 (g : Int → Int → V) : R2 := IntP0 g
section
variable {X : Cx} {a b c : Expr} {ta tb tc : TE} {pos : Pos}

theorem binT (ha : PE X a ta) (hb : PE X b tb) {pins : List (Addr × Obj)} {s : Shared} {σ : St} {H : Hp} {R : V → V → Hp → Prop} (I : Inv X pins σ H s)
    (h : ta σ H fun x H1 => tb σ H1 fun y H2 => R x y H2) {Q : Value → Shared → Prop} {f : Value → Value → Sem Value}
    (hf : ∀ v u s2 x y H2, Inv X pins σ H2 s2 → RelV x v → RelV y u → R x y H2 → wpAny (model X.prog X.w) X.A (f v u) Q X.xe s2) :
    wpAny (model X.prog X.w) X.A (eval a X.env) (fun v s₁ => wpAny (model X.prog X.w) X.A (eval b X.env) (fun u s₂ => wpAny (model X.prog X.w) X.A (f v u) Q X.xe s₂) X.xe s₁) X.xe s := by
  refine thn (ha pins s σ H _ I h) fun v s1 zy => ?_
  obtain ⟨x, H1, I1, r1, q1⟩ := zy
  refine thn (hb pins s1 σ H1 _ I1 q1) fun u s2 zy => ?_
  obtain ⟨y, H2, I2, r2, q2⟩ := zy
  exact hf v u s2 x y H2 I2 r1 r2 q2

theorem pe_op {op : Operator} {r : R2} (ho : OpR X (binaryOp op) r) (ha : PE X a ta) (hb : PE X b tb) : PE X (.BinOp a op b pos) (tOp r ta tb) := by
  intro pins s σ H Q I h
  exact wpAny_BinOp (binT ha hb I h fun v u s2 x y H2 I2 rx ry q => ho pins s2 σ H2 x y v u Q I2 rx ry q)
/-! ### ints -/
theorem opI {f : Value → Value → Sem Value} {C : Int → Int → Prop} {g : Int → Int → Int}
    (rule : ∀ (i j : Int) (t u : Tok) (s : Shared) (Q : Value → Shared → Prop) (E : Value → Shared → Prop), C i j → Q (.int (g i j) s.toks) { s with toks := s.toks + 1 } → wpAny (model X.prog X.w) X.A (f (.int i t) (.int j u)) Q E s) :
    OpR X f (rI C fun i j => .int (g i j)) := by
  intro pins s σ H x y v u Q I rx ry h
  obtain ⟨i, j, rfl, rfl, hc, q⟩ := h
  obtain ⟨t, rfl⟩ := rx
  obtain ⟨t', rfl⟩ := ry
  exact rule i j t t' s _ _ hc ⟨.int (g i j), H, I.tok _, ⟨_, rfl⟩, q⟩
theorem opI0 {f : Value → Value → Sem Value} {g : Int → Int → Int}
    (rule : ∀ (i j : Int) (t u : Tok) (s : Shared) (Q : Value → Shared → Prop) (E : Value → Shared → Prop), Q (.int (g i j) s.toks) { s with toks := s.toks + 1 } → wpAny (model X.prog X.w) X.A (f (.int i t) (.int j u)) Q E s) :
    OpR X f (rI0 fun i j => .int (g i j)) := by
  intro pins s σ H x y v u Q I rx ry h
  obtain ⟨i, j, rfl, rfl, q⟩ := h
  obtain ⟨t, rfl⟩ := rx
  obtain ⟨t', rfl⟩ := ry
  exact rule i j t t' s _ _ ⟨.int (g i j), H, I.tok _, ⟨_, rfl⟩, q⟩
theorem opB0 {f : Value → Value → Sem Value} {g : Int → Int → Bool}
    (rule : ∀ (i j : Int) (t u : Tok) (s : Shared) (Q : Value → Shared → Prop) (E : Value → Shared → Prop), Q (.bool (g i j)) s → wpAny (model X.prog X.w) X.A (f (.int i t) (.int j u)) Q E s) :
    OpR X f (rI0 fun i j => .bl (g i j)) := by
  intro pins s σ H x y v u Q I rx ry h
  obtain ⟨i, j, rfl, rfl, q⟩ := h
  obtain ⟨t, rfl⟩ := rx
  obtain ⟨t', rfl⟩ := ry
  exact rule i j t t' s _ _ ⟨.bl (g i j), H, I, rfl, q⟩

def CMul (i j : Int) : Prop := (-(2 ^ 64) < i ∧ i < 2 ^ 64) ∨ (-(2 ^ 64) < j ∧ j < 2 ^ 64)
theorem CMul.ok {i j : Int} (h : CMul i j) : IntMulOk i j := by
  rcases h with ⟨h1, h2⟩ | ⟨h1, h2⟩
  · exact .of_left (intBits_le_64 h1 h2)
  · exact .of_right (intBits_le_64 h1 h2)
theorem op_add : OpR X (binaryOp .Add) (rI0 fun i j => .int (i + j)) := opI0 fun _ _ _ _ _ _ _ q => add_int q
theorem op_sub : OpR X (binaryOp .Sub) (rI0 fun i j => .int (i - j)) := opI0 fun _ _ _ _ _ _ _ q => sub_int q
theorem op_mul : OpR X (binaryOp .Mult) (rI CMul fun i j => .int (i * j)) := opI fun _ _ _ _ _ _ _ hc q => mul_int q hc.ok
/-- % by a positive divisor of any size -/
theorem op_mod : OpR X (binaryOp .Mod) (rI (fun _ j => 0 < j) fun i j => .int (i % j)) := opI fun i j _ _ _ _ _ hc q => by
  have h1 : (0 : Int) < j := hc
  exact mod_int' (by omega) (by rw [Int.fmod_eq_emod_of_nonneg i (by omega)]; exact q)
/-! ### bools among ints: n += (a < b) -/
end

/-! ### comparisons -/
/-- the scalars that == tells apart as data does -/
def scal : V → V → Bool
  | .non, .non => true | .non, .int _ => true | .int _, .non => true | .non, .bl _ => true | .bl _, .non => true | .non, .str _ => true | .str _, .non => true
  | .int _, .int _ => true | .bl _, .bl _ => true | .str _, .str _ => true | .byt _, .byt _ => true
  | .int _, .str _ => true | .str _, .int _ => true | .bl _, .str _ => true | .str _, .bl _ => true
  | _, _ => false
inductive EqP (x y : V) (H : Hp) (Q : VK) : Prop
  | mk (e : scal x y = true) (q : Q (.bl (decide (x = y))) H) : EqP x y H Q
inductive NeP (x y : V) (H : Hp) (Q : VK) : Prop
  | mk (e : scal x y = true) (q : Q (.bl (!decide (x = y))) H) : NeP x y H Q
def rEq : R2 := EqP
def rNe : R2 := NeP

theorem dec_int {i j : Int} : decide (V.int i = V.int j) = (i == j) := by
  rw [Bool.eq_iff_iff]
  simp
theorem dec_bl {i j : Bool} : decide (V.bl i = V.bl j) = (i == j) := by
  rw [Bool.eq_iff_iff]
  simp
theorem dec_str {i j : Str} : decide (V.str i = V.str j) = (i == j) := by
  rw [Bool.eq_iff_iff]
  simp
theorem dec_byt {i j : Array UInt8} : decide (V.byt i = V.byt j) = (i.toList == j.toList) := by
  rw [Bool.eq_iff_iff]
  cases i
  cases j
  simp

section
variable {X : Cx} {a b c : Expr} {ta tb tc : TE} {pos : Pos}
theorem fin_bl {pins : List (Addr × Obj)} {σ : St} {H : Hp} {s : Shared} {Q : VK} {k k' : Bool} (I : Inv X pins σ H s) (q : Q (.bl k) H) (e : k = k') : EP X pins σ Q (.bool k') s := by
  subst e
  exact ⟨.bl k, H, I, rfl, q⟩
theorem op_eq : OpR X (compareOp .Eq) rEq := by
  intro pins s σ H x y v u Q I rx ry h
  obtain ⟨hs, q⟩ := h
  cases x with
  | non =>
    cases rx
    cases y with
    | non => cases ry; exact PySem.EqNone.eq_none_none (fin_bl I q (by simp))
    | bl j => cases ry; exact PySem.EqNone.eq_none_bool (fin_bl I q (by simp))
    | int j => obtain ⟨t', rfl⟩ := ry; exact PySem.EqNone.eq_none_int (fin_bl I q (by simp))
    | str j => obtain ⟨t', rfl⟩ := ry; exact PySem.EqNone.eq_none_str (fin_bl I q (by simp))
    | _ => exact absurd (show false = true from hs) Bool.false_ne_true
  | bl i =>
    cases rx
    cases y with
    | non => cases ry; exact PySem.EqNone.eq_bool_none (fin_bl I q (by simp))
    | bl j => cases ry; exact eq_bool (fin_bl I q dec_bl)
    | str j => obtain ⟨t', rfl⟩ := ry; exact PySem.EqMixed.eq_bool_str (fin_bl I q (by simp))
    | _ => exact absurd (show false = true from hs) Bool.false_ne_true
  | int i =>
    obtain ⟨t, rfl⟩ := rx
    cases y with
    | non => cases ry; exact PySem.EqNone.eq_int_none (fin_bl I q (by simp))
    | int j => obtain ⟨t', rfl⟩ := ry; exact eq_int (fin_bl I q dec_int)
    | str j => obtain ⟨t', rfl⟩ := ry; exact PySem.EqMixed.eq_int_str (fin_bl I q (by simp))
    | _ => exact absurd (show false = true from hs) Bool.false_ne_true
  | str i =>
    obtain ⟨t, rfl⟩ := rx
    cases y with
    | non => cases ry; exact PySem.EqNone.eq_str_none (fin_bl I q (by simp))
    | bl j => cases ry; exact PySem.EqMixed.eq_str_bool (fin_bl I q (by simp))
    | int j => obtain ⟨t', rfl⟩ := ry; exact PySem.EqMixed.eq_str_int (fin_bl I q (by simp))
    | str j => obtain ⟨t', rfl⟩ := ry; exact eq_str (fin_bl I q dec_str)
    | _ => exact absurd (show false = true from hs) Bool.false_ne_true
  | byt i =>
    obtain ⟨t, rfl⟩ := rx
    cases y with
    | byt j => obtain ⟨t', rfl⟩ := ry; exact PySem.W.eq_bytes (fin_bl I q dec_byt)
    | _ => exact absurd (show false = true from hs) Bool.false_ne_true
  | _ => cases y <;> exact absurd (show false = true from hs) Bool.false_ne_true
theorem op_ne : OpR X (compareOp .NotEq) rNe := by
  intro pins s σ H x y v u Q I rx ry h
  obtain ⟨hs, q⟩ := h
  cases x with
  | non =>
    cases rx
    cases y with
    | non => cases ry; exact PySem.EqNone.ne_none_none (fin_bl I q (by simp))
    | bl j => cases ry; exact PySem.EqNone.ne_none_bool (fin_bl I q (by simp))
    | int j => obtain ⟨t', rfl⟩ := ry; exact PySem.EqNone.ne_none_int (fin_bl I q (by simp))
    | str j => obtain ⟨t', rfl⟩ := ry; exact PySem.EqNone.ne_none_str (fin_bl I q (by simp))
    | _ => exact absurd (show false = true from hs) Bool.false_ne_true
  | bl i =>
    cases rx
    cases y with
    | non => cases ry; exact PySem.EqNone.ne_bool_none (fin_bl I q (by simp))
    | bl j => cases ry; exact ne_bool (fin_bl I q (congrArg not dec_bl))
    | str j => obtain ⟨t', rfl⟩ := ry; exact PySem.EqMixed.ne_bool_str (fin_bl I q (by simp))
    | _ => exact absurd (show false = true from hs) Bool.false_ne_true
  | int i =>
    obtain ⟨t, rfl⟩ := rx
    cases y with
    | non => cases ry; exact PySem.EqNone.ne_int_none (fin_bl I q (by simp))
    | int j => obtain ⟨t', rfl⟩ := ry; exact ne_int (fin_bl I q (congrArg not dec_int))
    | str j => obtain ⟨t', rfl⟩ := ry; exact PySem.EqMixed.ne_int_str (fin_bl I q (by simp))
    | _ => exact absurd (show false = true from hs) Bool.false_ne_true
  | str i =>
    obtain ⟨t, rfl⟩ := rx
    cases y with
    | non => cases ry; exact PySem.EqNone.ne_str_none (fin_bl I q (by simp))
    | bl j => cases ry; exact PySem.EqMixed.ne_str_bool (fin_bl I q (by simp))
    | int j => obtain ⟨t', rfl⟩ := ry; exact PySem.EqMixed.ne_str_int (fin_bl I q (by simp))
    | str j => obtain ⟨t', rfl⟩ := ry; exact ne_str (fin_bl I q (congrArg not dec_str))
    | _ => exact absurd (show false = true from hs) Bool.false_ne_true
  | byt i =>
    obtain ⟨t, rfl⟩ := rx
    cases y with
    | byt j => obtain ⟨t', rfl⟩ := ry; exact PySem.W.ne_bytes (fin_bl I q (congrArg not dec_byt))
    | _ => exact absurd (show false = true from hs) Bool.false_ne_true
  | _ => cases y <;> exact absurd (show false = true from hs) Bool.false_ne_true

theorem op_lt : OpR X (compareOp .Lt) (rI0 fun i j => .bl (decide (i < j))) := opB0 fun _ _ _ _ _ _ _ q => lt_int q
theorem op_le : OpR X (compareOp .LtE) (rI0 fun i j => .bl (decide (i ≤ j))) := opB0 fun _ _ _ _ _ _ _ q => le_int q
theorem op_gt : OpR X (compareOp .Gt) (rI0 fun i j => .bl (decide (j < i))) := opB0 fun _ _ _ _ _ _ _ q => gt_int q
/-- the one string within the other -/
theorem op_in_str : OpR X (compareOp .In) (fun x y H Q => ∃ i j, x = .str i ∧ y = .str j ∧ Q (.bl (!(Builtin.Str.occurrences j i 0 j.length 1).isEmpty)) H) := by
  intro pins s σ H x y v u Q I rx ry h
  obtain ⟨i, j, rfl, rfl, q⟩ := h
  obtain ⟨t, rfl⟩ := rx
  obtain ⟨t', rfl⟩ := ry
  exact in_str (fin_bl I q rfl)

/-- two rules for one operation: by cases -/
theorem OpR.or {f : Value → Value → Sem Value} {r r' : R2} (h : OpR X f r) (h' : OpR X f r') : OpR X f (fun x y H Q => r x y H Q ∨ r' x y H Q) := by
  intro pins s σ H x y v u Q I rx ry q
  rcases q with q | q
  · exact h pins s σ H x y v u Q I rx ry q
  · exact h' pins s σ H x y v u Q I rx ry q

theorem nomark (b : Expr) {op : CmpOp} (h : op ≠ .In := by decide) (h2 : op ≠ .NotIn := by decide) : behindInMarks op b = false := by
  have e1 : (op == CmpOp.In) = false := by cases op <;> first | rfl | exact absurd rfl h
  have e2 : (op == CmpOp.NotIn) = false := by cases op <;> first | rfl | exact absurd rfl h2
  cases b <;> simp [behindInMarks, e1, e2]
/-- a comparison as a value; hm: nomark b, or (for in, not in) by with_unfolding_all rfl -/
theorem pe_cmpR {op : CmpOp} {r : R2} (ho : OpR X (compareOp op) r) (ha : PE X a ta) (hb : PE X b tb) (hm : behindInMarks op b = false) : PE X (.Compare a [op] [b] pos) (tOp r ta tb) := by
  intro pins s σ H Q I h
  exact wpAny_Compare1 (binT ha hb I h fun v u s2 x y H2 I2 rx ry q => ho pins s2 σ H2 x y v u Q I2 rx ry q) hm
/-- a reading of a value as a test -/
def tTest (t : TE) : TT := fun σ H Q => t σ H (BlP Q)
theorem pt_cmpR {op : CmpOp} {r : R2} (ho : OpR X (compareOp op) r) (ha : PE X a ta) (hb : PE X b tb) (hm : behindInMarks op b = false) : PT X (.Compare a [op] [b] pos) (tTest (tOp r ta tb)) := by
  intro pins s σ H Q I h
  refine wpAny_isTrue_Compare1 (thn (ha pins s σ H _ I h) fun v s1 ⟨x, H1, I1, r1, q1⟩ => thn (hb pins s1 σ H1 _ I1 q1) fun u s2 ⟨y, H2, I2, r2, q2⟩ =>
    thn (ho pins s2 σ H2 x y v u _ I2 r1 r2 q2) fun c s3 ⟨z, H3, I3, r3, k, e, q3⟩ => ?_) hm
  subst e
  cases r3
  exact wpAny_truthy_bool ⟨H3, I3, q3⟩
/-- a op1 b op2 c -/
def tChain (r r' : R2) (ta tb tc : TE) : TE := fun σ H Q => ta σ H fun x H1 => tb σ H1 fun y H2 => r x y H2 fun z H3 => ∃ k, z = .bl k ∧
  (if k = true then tc σ H3 fun w' H4 => r' y w' H4 Q else Q (.bl false) H3)
theorem pe_chain {op op' : CmpOp} {r r' : R2} (ho : OpR X (compareOp op) r) (ho' : OpR X (compareOp op') r') (ha : PE X a ta) (hb : PE X b tb) (hc : PE X c tc)
    (hm : lastMarks [op, op'] [b, c] = false := by with_unfolding_all rfl) : PE X (.Compare a [op, op'] [b, c] pos) (tChain r r' ta tb tc) := by
  intro pins s σ H Q I h
  refine Compare_chain (thn (ha pins s σ H _ I h) fun v s1 ⟨x, H1, I1, r1, q1⟩ => chain_link (thn (hb pins s1 σ H1 _ I1 q1) fun u s2 ⟨y, H2, I2, r2, q2⟩ =>
    thn (ho pins s2 σ H2 x y v u _ I2 r1 r2 q2) fun d s3 ⟨z, H3, I3, r3, k, e, q3⟩ => ?_)) hm
  subst e
  cases r3
  refine wpAny_truthy_bool ?_
  cases k with
  | false => exact ite_ff ⟨.bl false, H3, I3, rfl, q3⟩
  | true => exact ite_tt (chain_last (thn (hc pins s3 σ H3 _ I3 q3) fun w' s4 ⟨z', H4, I4, r4, q4⟩ => ho' pins s4 σ H4 y z' u w' Q I4 r2 r4 q4))
/-! ### truth -/
theorem line63 : (sizeLine : Nat) < 2 ^ 63 := by rw [sizeLine_eq]; decide
/-! ### strs and bytes -/
theorem op_add_str : OpR X (binaryOp .Add) (fun x y H Q => ∃ i j, x = .str i ∧ y = .str j ∧ i.length + j.length ≤ sizeLine ∧ Q (.str (i ++ j)) H) := by
  intro pins s σ H x y v u Q I rx ry h
  obtain ⟨i, j, rfl, rfl, hz, q⟩ := h
  obtain ⟨t, rfl⟩ := rx
  obtain ⟨t', rfl⟩ := ry
  exact add_str (fun t' tk => ⟨.str (i ++ j), H, I.tok _, ⟨_, rfl⟩, q⟩) hz
/-! ### scalar builtins, by CallR -/
theorem vals1 {x : V} {us : List Value} (r : Vals [x] us) : ∃ u, us = [u] ∧ RelV x u := by
  cases r with
  | cons r1 r2 => cases r2; exact ⟨_, rfl, r1⟩
theorem call_str_int : CallR X (.type "str") (fun xs H Q => ∃ i, xs = [.int i] ∧ i.natAbs.log2 < 1920 ∧ Q (.str (toString i)) H) := by
  intro pins s σ H xs us Q I r h
  obtain ⟨i, rfl, hz, q⟩ := h
  obtain ⟨u, rfl, t, rfl⟩ := vals1 r
  exact PySem.P.str_of_int hz ⟨.str _, H, I.tok _, ⟨_, rfl⟩, q⟩
end
end L2

namespace L2
open PySem PySem.Spec PyProof.Rows

/-! ### an instance, its attributes a map -/
structure ObjM (h : Heap) (x dx C : Addr) (mA : Str → Option Value) : Prop where
  obj : h.get? x = some (PySem.W.instObj C dx)
  ns : h.Ns1 dx mA
  ne : dx ≠ x

theorem lookIn_ns {h : Heap} {dx : Addr} {mA : Str → Option Value} (n : h.Ns1 dx mA) : ∃ od, h.get? dx = some od ∧ ∀ name, PySem.W.lookIn name od = some (mA name) := by
  obtain ⟨o, es, ep, ho, hd, hk, _, hm⟩ := n
  refine ⟨o, ho, fun name => ?_⟩
  have e := hm name
  unfold nsFind findBy at e
  rw [← Array.find?_toList] at e
  unfold PySem.W.lookIn
  rw [hd]
  dsimp only
  split
  · rename_i y q
    rw [q] at e
    exact congrArg some e
  · rename_i q
    rw [q] at e
    have a : es.toList.any (·.refKey) = false := by
      rw [List.any_eq_false]
      intro y hy
      obtain ⟨z, t, hkey⟩ := hk y (Array.mem_toList_iff.mp hy)
      simp [DictEntry.refKey, hkey]
    have a' : ¬ es.toList.any (·.refKey) = true := by rw [a]; exact Bool.false_ne_true
    rw [if_neg a']
    exact congrArg some e

theorem ObjM.look {h : Heap} {x dx C : Addr} {mA : Str → Option Value} (I : ObjM h x dx C mA) : ∃ od, PySem.W.InstAt h x (PySem.W.instObj C dx) C (some od) ∧ ∀ name, PySem.W.lookIn name od = some (mA name) :=
  let ⟨od, ho, hl⟩ := lookIn_ns I.ns
  ⟨od, ⟨I.obj, rfl, rfl, ho⟩, hl⟩

section
variable {prog : Program} {w : World} {A : Around} {E : Value → Shared → Prop} {s : Shared} {K : PySem.W.Frag} {x dx C f : Addr} {mA : Str → Option Value} {name : Str} {v : Value}

end

/-! ### the attributes as a list of pairs -/
section
variable {P : Program} {w : World} {H H' : Hp} {h h' : Heap} {a C dx : Addr} {fs fs' : List (Str × V)}
theorem ins_get (hok : HOk P w H h) (e : H a = some (.ins C dx fs)) : ∃ mA, ObjM h a dx C mA ∧ (∀ f, RelO (fs.lookup f) (mA f)) ∧ PySem.Within mA (fs.map (·.1)) ∧ fs.length ≤ 1000 ∧ H dx = some (.own a) := by
  obtain ⟨d, z, ne, ob, mA, n, r, q⟩ := (show ObjOk P w H h a (.ins C dx fs) from hok a _ e)
  exact ⟨mA, ⟨ob, n, ne⟩, r, q, z, d⟩
end

/-! ### what of the text a class must have -/
structure Cls (K : PySem.W.Frag) (C : Addr) : Prop where
  pg : PySem.W.plainGet K C Str.empty = true
  hd : PySem.W.hasDictIn K C = true
  po : PySem.W.plainOver K C = true
  sa : PySem.W.findIn K (.ref C) "__setattr__" = some (some (.builtin "object.__setattr__"))
theorem Cls.get {K : PySem.W.Frag} {C : Addr} (c : Cls K C) (f : Str) : PySem.W.plainGet K C f = true := c.pg
/-- a constant of the class -/
structure Con (K : PySem.W.Frag) (C : Addr) (f : Str) (v : V) (u : Value) : Prop where
  at_ : PySem.W.findIn K (.ref C) f = some (some u)
  rel : RelV v u
  get : PySem.W.specialIn K u "__get__" = some none
  cp : PySem.W.copiedNames.contains f = false
/-- a method: a plain def of the class or of one above it -/
structure Meth (K : PySem.W.Frag) (C : Addr) (m : Str) (f : Addr) : Prop where
  at_ : PySem.W.findIn K (.ref C) m = some (some (.ref f))
  fn : PySem.W.isFn K (.ref f) = true
  kp : PySem.W.keepIn K (.ref f) = true

section
variable {X : Cx} {pins : List (Addr × Obj)} {σ : St} {H : Hp} {s : Shared} {a C dx : Addr} {fs : List (Str × V)} {f : Str} {v : V} {A : Around} {E : Value → Shared → Prop}

end

/-! ### readings and rules -/
section
variable {X : Cx} {o e value : Expr} {f : Str} {pos pos' tpos : Pos} {ta tv : TE}
end

/-! ### isinstance -/
section
variable {X : Cx} {pins : List (Addr × Obj)} {σ : St} {H : Hp} {s : Shared} {A : Around} {E : Value → Shared → Prop} {Q : Value → Shared → Prop} {c : Value} {b : Bool}
/-- the type of a value, as the fragment's deciders take it; for an instance its class -/
inductive TyOf (K : PySem.W.Frag) (H : Hp) : V → Value → Prop where
  | non : TyOf K H .non (.type "NoneType")
  | bl (x : Bool) : TyOf K H (.bl x) (.type "bool")
  | int (i : Int) : TyOf K H (.int i) (.type "int")
  | str (x : Str) : TyOf K H (.str x) (.type "str")
  | flt (x : UInt64) : TyOf K H (.flt x) (.type "float")
  | lst {a : Addr} {xs : List V} (e : H a = some (.lst xs)) : TyOf K H (.ref a) (.type "list")
  | frz {a : Addr} {o : Obj} {xs : List V} (e : H a = some (.frz o (.lst xs))) : TyOf K H (.ref a) (.type "list")
  | tup {a : Addr} {xs : List V} (e : H a = some (.tup xs)) : TyOf K H (.ref a) (.type "tuple")
  | dK {a : Addr} {kvs : List (Key × V)} (e : H a = some (.dK kvs)) : TyOf K H (.ref a) (.type "dict")
  | dT {a : Addr} {kvs : List (List Key × V)} (e : H a = some (.dT kvs)) : TyOf K H (.ref a) (.type "dict")
  | ins {a C dx : Addr} {fs : List (Str × V)} (e : H a = some (.ins C dx fs)) (cl : Cls K C) (ha : PySem.W.findIn K (.ref C) "__class__" = some (some (.builtin "object.__class__")))
      (hn : PySem.W.specialIn K (.builtin "object.__class__") "__get__" = some (some (.builtin "getset_descriptor.__get__"))) (htk : PySem.W.takesIn K (.builtin "object.__class__") = some true)
      (hm : PySem.W.mroIn K C (.type "object") = some true) : TyOf K H (.ref a) (.ref C)
/-- isinstance(x, c) for one class c, a built-in or an own one: kitOne's answer -/
theorem isinst_ok {x : V} {u t : Value} (I : Inv X pins σ H s) (rx : RelV x u) (ty : TyOf X.K H x t) (e : PySem.W.kitOne X.K t c = some b) (h : ∀ tk, Q (.bool b) { s with toks := tk }) :
    wpAny (model X.prog X.w) A (call (.builtin "isinstance") [u, c]) Q E s := by
  cases ty with
  | non => cases (show u = Value.none from rx); exact PySem.W.kia_one PySem.W.kitx_none I.kIn True.intro e (fun z => nomatch z) h
  | bl y => cases (show u = Value.bool y from rx); exact PySem.W.kia_one PySem.W.kitx_bool I.kIn True.intro e (fun z => nomatch z) h
  | int i => obtain ⟨t, q⟩ := (show ∃ t, u = Value.int i t from rx); cases q; exact PySem.W.kia_one PySem.W.kitx_int I.kIn True.intro e (fun z => nomatch z) h
  | str y => obtain ⟨t, q⟩ := (show ∃ t, u = Value.str y t from rx); cases q; exact PySem.W.kia_one PySem.W.kitx_str I.kIn True.intro e (fun z => nomatch z) h
  | flt y => obtain ⟨t, q⟩ := (show ∃ t, u = Value.float y t from rx); cases q; exact PySem.W.kia_one PySem.W.kitx_float I.kIn True.intro e (fun z => nomatch z) h
  | @lst a xs ea =>
    cases (show u = Value.ref a from rx)
    obtain ⟨_, _, n, _, h1⟩ := (show ObjOk X.prog X.w H s.heap a (.lst xs) from I.hok a _ ea)
    exact PySem.W.kia_one PySem.W.kitx_list I.kIn ⟨_, h1, rfl⟩ e (fun z => nomatch z) h
  | @frz a ob xs ea =>
    cases (show u = Value.ref a from rx)
    obtain ⟨_, _, _, n, _, h1⟩ := (show ObjOk X.prog X.w H s.heap a (.frz ob (.lst xs)) from I.hok a _ ea)
    exact PySem.W.kia_one PySem.W.kitx_list I.kIn ⟨_, h1, rfl⟩ e (fun z => nomatch z) h
  | @tup a xs ea =>
    cases (show u = Value.ref a from rx)
    obtain ⟨_, _, _, p⟩ := (show ObjOk X.prog X.w H s.heap a (.tup xs) from I.hok a _ ea)
    obtain ⟨o, h1, h2, _⟩ := p
    exact PySem.W.kia_one PySem.W.kitx_tuple I.kIn ⟨o, h1, h2⟩ e (fun z => nomatch z) h
  | @dK a kvs ea =>
    cases (show u = Value.ref a from rx)
    obtain ⟨_, _, vs, _, p⟩ := (show ObjOk X.prog X.w H s.heap a (.dK kvs) from I.hok a _ ea)
    obtain ⟨o, es, ep, h1, h2, _⟩ := p
    exact PySem.W.kia_one PySem.W.kitx_dict I.kIn ⟨o, h1, h2.1⟩ e (fun z => nomatch z) h
  | @dT a kvs ea =>
    cases (show u = Value.ref a from rx)
    obtain ⟨_, _, xs, _, o, es, ep, h1, h2, _⟩ := (show ObjOk X.prog X.w H s.heap a (.dT kvs) from I.hok a _ ea)
    exact PySem.W.kia_one PySem.W.kitx_dict I.kIn ⟨o, h1, h2.1⟩ e (fun z => nomatch z) h
  | @ins a C dx fs ea cl ha hn htk hm =>
    cases (show u = Value.ref a from rx)
    obtain ⟨mA, O, _⟩ := ins_get I.hok ea
    obtain ⟨od, J, _⟩ := O.look
    exact PySem.W.kia_one (PySem.W.kitx_own (cl.get _) cl.hd ha hn htk hm) I.kIn J e (fun z => nomatch z) h
end
end L2

namespace L2
open PySem PySem.Spec PyProof.Rows

/-! ### room -/
structure Room (k : Nat) (A : Around) : Prop where
  hd : A.handled = none
  dp : A.depth + 3 * k + 5 < recursionLimit
  un : A.units + 16 * k + 200 < cLine
theorem Room.mono {j k : Nat} {A : Around} (r : Room k A) (h : j ≤ k) : Room j A := ⟨r.hd, by have := r.dp; omega, by have := r.un; omega⟩
theorem Room.deeper {k : Nat} {A : Around} (r : Room (k + 1) A) (env : Env) : Room k (A.deeper env) :=
  ⟨r.hd, by have := r.dp; show A.depth + 1 + 3 * k + 5 < _; omega, by have := r.un; show A.units + 3 + 16 * k + 200 < _; omega⟩
theorem Room.in1 {k : Nat} {A : Around} (r : Room (k + 1) A) : Room k A.in1 :=
  ⟨r.hd, by have := r.dp; show A.depth + 3 * k + 5 < _; omega, by have := r.un; show A.units + 1 + 16 * k + 200 < _; omega⟩
theorem Room.depth {k : Nat} {A : Around} (r : Room k A) : A.depth < recursionLimit := by have := r.dp; omega
theorem Room.units {k : Nat} {A : Around} (r : Room k A) : A.units + 64 < cLine := by have := r.un; omega
/-! ### argument lists and displays -/
def tNil : TA := fun _ H Q => Q [] H
def tCons (ta : TE) (tr : TA) : TA := fun σ H Q => ta σ H fun x H1 => tr σ H1 fun xs H2 => Q (x :: xs) H2
section
variable {X : Cx} {e : Expr} {es : List Expr} {te : TE} {t : TA} {pos : Pos}
theorem pa_nil : PA X [] tNil := fun _ _ _ _ H Q I h => Calls.spliced_nil ⟨[], H, I, .nil, h⟩
theorem pa_cons (ha : PE X e te) (hr : PA X es t) (hs : starEach (e :: es) X.env = (false, eval e X.env) :: starEach es X.env := by rfl) : PA X (e :: es) (tCons te t) := by
  intro pos pins s σ H Q I h
  rw [hs]
  show wpAny _ _ (spliced ((false, eval e X.env) :: backTo pos (starEach es X.env))) _ _ s
  refine Calls.spliced_cons (thn (ha pins s σ H _ I h) fun u s1 zy => ?_)
  obtain ⟨x, H1, I1, r1, q1⟩ := zy
  exact thn (hr pos pins s1 σ H1 _ I1 q1) fun us s2 ⟨xs, H2, I2, r2, q2⟩ => ⟨x :: xs, H2, I2, .cons r1 r2, q2⟩

def tLst (t : TA) : TE := fun σ H Q => t σ H fun xs H1 => xs.length ≤ sizeLine ∧ ∀ p, H1 p = none → Q (.ref p) (upd H1 p (.lst xs))
theorem pe_lst (h : PA X es t) : PE X (.List es pos) (tLst t) := by
  intro pins s σ H Q I hq
  refine wpAny_List_spliced (thn (h pos pins s σ H _ I hq) fun us s1 ⟨xs, H1, I1, r, z, q⟩ => ⟨by rw [← r.length]; exact z, ?_⟩)
  have hf : H1 s1.heap.objs.size = none := I1.hok.fresh (Nat.le_refl _)
  refine ⟨.ref s1.heap.objs.size, upd H1 s1.heap.objs.size (.lst xs), I1.laid (t' := s1.toks) (fun b u e => Heap.get?_push_of_some _ e) (Nat.le_refl _) ?_, rfl, q _ hf⟩
  exact ⟨z, us, 0, r, Heap.get?_push_size _ rfl⟩
end

/-! ### what a def promises -/
/-- a def's promise: the bound arguments in the parameters' order, the heap, the wanted end, the wanted exception -/
abbrev Sp := List V → Hp → VK → XK → Prop
/-- how an exception lies behind a call (file 08 gives it): the callers' frames, abstract heap and state ahead of the call, the wish, the exception, the state -/
abbrev CXT := List Env → Hp → Shared → XK → Value → Shared → Prop

/-- the state at a call -/
structure Env0 (P : Program) (w : World) (K : PySem.W.Frag) (mg : Str → Option Value) (base : Heap) (A : Around) (outer : List Env) (s : Shared) (H : Hp) : Prop where
  frames : A.frames = some outer
  mod : Mod K mg base
  bs : ∀ b o, base.get? b = some o → s.heap.get? b = some o ∧ H b = none
  bsz : base.objs.size ≤ s.heap.objs.size
  funs : s.heap.FunFrames base outer
  frf : ∀ b ∈ frs outer, H b = none
  hok : HOk P w H s.heap
  bare : AllBare s.gens
/-- a call's end -/
def CE (outer : List Env) (P : Program) (w : World) (H : Hp) (s : Shared) (Q : VK) (u : Value) (s' : Shared) : Prop :=
  ∃ v H', s'.os = s.os ∧ AllBare s'.gens ∧ Un (frs outer) [] H H' s.heap s'.heap ∧ HOk P w H' s'.heap ∧ RelV v u ∧ Q v H'
def CR (CX : CXT) (outer : List Env) (P : Program) (w : World) (H : Hp) (s : Shared) (Q : VK) (E : XK) (r : Result) (s' : Shared) : Prop :=
  match r with
  | .ok (.ret u) => CE outer P w H s Q u s'
  | .ok _ => False
  | .error e => CX outer H s E e s'
structure FnOk (P : Program) (w : World) (K : PySem.W.Frag) (mg : Str → Option Value) (base : Heap) (CX : CXT) (k : Nat) (f : Addr) (fd : FuncData) (ps : List Str) (sp : Sp) : Prop where
  len : ∀ vs H Q E, sp vs H Q E → vs.length = ps.length
  run : ∀ (A : Around) (outer : List Env) (s : Shared) (H : Hp) (args : Args) (us : List Value) (vs : List V) (Q : VK) (E : XK), Room k A → Env0 P w K mg base A outer s H → BindsTo s fd args (ps.zip us) → Vals vs us → sp vs H Q E →
    codeAny (model P w) A (.call (.ref f) args) (CR CX outer P w H s Q E) s
theorem FnOk.mono {P : Program} {w : World} {K : PySem.W.Frag} {mg : Str → Option Value} {base : Heap} {CX : CXT} {j k : Nat} {f : Addr} {fd : FuncData} {ps : List Str} {sp : Sp} (F : FnOk P w K mg base CX j f fd ps sp) (h : j ≤ k) :
    FnOk P w K mg base CX k f fd ps sp := ⟨F.len, fun A outer s H args us vs Q E hr => F.run A outer s H args us vs Q E (hr.mono h)⟩
/-- a weaker promise -/
theorem FnOk.imp {P : Program} {w : World} {K : PySem.W.Frag} {mg : Str → Option Value} {base : Heap} {CX : CXT} {k : Nat} {f : Addr} {fd : FuncData} {ps : List Str} {sp sp' : Sp} (F : FnOk P w K mg base CX k f fd ps sp)
    (h : ∀ vs H Q E, sp' vs H Q E → sp vs H Q E) : FnOk P w K mg base CX k f fd ps sp' :=
  ⟨fun vs H Q E q => F.len vs H Q E (h _ _ _ _ q), fun A outer s H args us vs Q E hr he hb hv hs => F.run A outer s H args us vs Q E hr he hb hv (h _ _ _ _ hs)⟩

theorem Env0.in1 {P : Program} {w : World} {K : PySem.W.Frag} {mg : Str → Option Value} {base : Heap} {A : Around} {outer : List Env} {s : Shared} {H : Hp} (e : Env0 P w K mg base A outer s H) :
    Env0 P w K mg base A.in1 outer s H := ⟨e.frames, e.mod, e.bs, e.bsz, e.funs, e.frf, e.hok, e.bare⟩

section
variable {X : Cx} {pins : List (Addr × Obj)} {σ : St} {H : Hp} {s s' : Shared}
/-- from a body: what a callee wants -/
theorem Inv.env0 (I : Inv X pins σ H s) : Env0 X.prog X.w X.K X.mg X.base X.A X.stack s H :=
  ⟨I.ok.frames, I.ok.mod, I.bs, Nat.le_trans I.ok.bsz I.sz, I.stack, I.stkFree, I.hok, I.bare⟩
/-- behind a call -/
theorem Inv.after {Q : VK} {u : Value} (I : Inv X pins σ H s) (h : CE X.stack X.prog X.w H s Q u s') : EP X pins σ Q u s' := by
  obtain ⟨v, H', os, bare, un, hok, r, q⟩ := h
  obtain ⟨hh, g, d, t, os'⟩ := s'
  obtain rfl : os' = s.os := os
  exact ⟨v, H', I.call (h' := hh) (g' := g) (d' := d) (t' := t) (ch := []) un hok bare (fun b z => absurd z (by simp)), r, q⟩
end

/-! ### calls -/
/-- f(..): the written arguments, then the defaults dvs; E: what is wanted of an exception -/
def tCall (sp : Sp) (dvs : List V) (E : XK) (t : TA) : TE := fun σ H Q => t σ H fun vs H1 => sp (vs ++ dvs) H1 Q E
/-- how the parameters are bound: us the positional arguments, kw the keywords' values by name, ds the defaults that fill up -/
def Binds (K : PySem.W.Frag) (fd : FuncData) (ps : List Str) (ds : List Value) : Prop :=
  ∀ (s : Shared) (us : List Value), K.In s.heap → (us ++ ds).length = ps.length → BindsTo s fd ⟨us, []⟩ (ps.zip (us ++ ds))
/-- every parameter is given -/
theorem Binds.all {K : PySem.W.Frag} {fd : FuncData} {ps : List Str} (h : ∀ us : List Value, us.length = ps.length → bindArgs fd ⟨us, []⟩ = pure (ps.zip us)) : Binds K fd ps [] := fun s us _ hl => by
  rw [List.append_nil] at hl ⊢
  exact .of_eq (h us hl)

/-- an exception of a callee reaches what this body wants of exceptions -/
def Passes (CX : CXT) (X : Cx) (E : XK) : Prop := ∀ (pins : List (Addr × Obj)) (σ : St) (H : Hp) (s : Shared) (e : Value) (s' : Shared), Inv X pins σ H s → CX X.stack H s E e s' → X.xe e s'

section
variable {X : Cx} {CX : CXT} {k : Nat} {f C : Addr} {fd : FuncData} {ps : List Str} {sp : Sp} {dvs : List V} {ds : List Value} {E : XK} {x m : Str} {p pos apos : Pos} {e o : Expr} {es : List Expr} {ta : TE} {t : TA}

/-- the callee runs -/
theorem run_fn {pins : List (Addr × Obj)} {σ : St} {H : Hp} {s : Shared} {Q : VK} {us : List Value} {vs : List V} (F : FnOk X.prog X.w X.K X.mg X.base CX k f fd ps sp) (hr : Room k X.A) (hb : Binds X.K fd ps ds) (hd : Vals dvs ds) (hx : Passes CX X E)
    (I : Inv X pins σ H s) (r : Vals vs us) (h : sp (vs ++ dvs) H Q E) : wpAny (model X.prog X.w) X.A (call (.ref f) us) (EP X pins σ Q) X.xe s := by
  have r2 : Vals (vs ++ dvs) (us ++ ds) := r.append hd
  have hl : (us ++ ds).length = ps.length := by rw [← r2.length]; exact F.len _ _ _ _ h
  refine wpAny_call (codeAny_mono (F.run X.A X.stack s H ⟨us, []⟩ (us ++ ds) (vs ++ dvs) Q E hr I.env0 (hb s us I.kIn hl) r2 h) fun r s' hq => ?_)
  cases r with
  | error e => exact hx pins σ H s e s' I hq
  | ok fl =>
    cases fl with
    | ret u => exact I.after hq
    | next => exact False.elim hq
    | brk => exact False.elim hq
    | cont => exact False.elim hq

theorem pe_call (F : FnOk X.prog X.w X.K X.mg X.base CX k f fd ps sp) (hr : Room k X.A) (hg : Gl X x) (hm : X.mg x = some (.ref f)) (hk : PySem.W.keepIn X.K (.ref f) = true) (hb : Binds X.K fd ps ds) (hd : Vals dvs ds) (hx : Passes CX X E)
    (ha : PA X (e :: es) t) (hdb : (x == ("__debug__" : Str)) = false := by decide) (he : starEach (e :: es) X.env = (false, eval e X.env) :: starEach es X.env := by rfl) (hpl : (backTo pos (starEach es X.env)).any (·.1) = false := by rfl) :
    PE X (.Call (.Name x p) (e :: es) [] pos) (tCall sp dvs E t) := by
  intro pins s σ H Q I h
  refine wpAny_Call_Name_kw (ld_glob I hg hm ?_ hdb)
  refine PySem.W.callWith_K (h₀ := X.base) I.ok.mod.kin hk (thn (ha pos pins s σ H _ I h) fun us s1 ⟨vs, H1, I1, r, q⟩ => ⟨I1.kIn, ?_⟩) he hpl
  exact run_fn F hr hb hd hx I1 r q
/-- what a class must have to be made -/
structure Mk (K : PySem.W.Frag) (C f : Addr) : Prop where
  makes : PySem.W.makesIn K C = true
  init : PySem.W.findIn K (.ref C) "__init__" = some (some (.ref f))
  fn : PySem.W.isFn K (.ref f) = true
  kp : PySem.W.keepIn K (.ref C) = true

end

/-! ### keywords -/
section
variable {X : Cx} {CX : CXT} {k : Nat} {f C : Addr} {fd : FuncData} {ps ks : List Str} {sp : Sp} {E : XK} {x m : Str} {p pos apos kpos : Pos} {e o : Expr} {es : List Expr} {kws : List Keyword} {te ta : TE} {t tk : TA} {nm : Option Str}
/-- how a call with keywords binds: g puts the positional values us and the keywords' values ws (names ks) in the parameters' order, defaults among them -/
structure KBinds (K : PySem.W.Frag) (fd : FuncData) (ps ks : List Str) (g : List Value → List Value → List Value) (gV : List V → List V → List V) : Prop where
  to : ∀ (s : Shared) (us ws : List Value), K.In s.heap → (g us ws).length = ps.length → BindsTo s fd ⟨us, ks.zip ws⟩ (ps.zip (g us ws))
  rel : ∀ {vs : List V} {us : List Value} {zs : List V} {ws : List Value}, Vals vs us → Vals zs ws → Vals (gV vs zs) (g us ws)
variable {g : List Value → List Value → List Value} {gV : List V → List V → List V}
end

/-! ### a def's body keeps its promise -/
/-- names: the parameters first -/
structure FnScope (N P : List Str) (sc : Scope) : Prop where
  kind : sc.kind = .function
  co : sc.isCoroutine = false
  gen : sc.isGenerator = false
  nd : N.Nodup
  pre : N.take P.length = P
  par : ∀ x ∈ P, sc.names.lookup x = some .local ∨ sc.names.lookup x = some .cell
  nofree : ∀ y ∈ sc.names, y.2 ≠ .free

theorem bindL_out {kindOf : Str → Option NameKind} {x : Str} : ∀ {binds : List (Str × Value)} {m : Str → Option Value}, (∀ v, (x, v) ∉ binds) → bindL kindOf binds m x = m x
  | [], _, _ => rfl
  | (n, v) :: r, m, h => by
    unfold bindL
    rw [bindL_out fun w hw => h w (List.mem_cons_of_mem _ hw)]
    split
    · have : x ≠ n := by rintro rfl; exact h v List.mem_cons_self
      simp [this]
    · rfl
theorem bindC_out {kindOf : Str → Option NameKind} {x : Str} : ∀ {binds : List (Str × Value)} {m : Str → Option Value}, (∀ v, (x, v) ∉ binds) → bindC kindOf binds m x = m x
  | [], _, _ => rfl
  | (n, v) :: r, m, h => by
    unfold bindC
    rw [bindC_out fun w hw => h w (List.mem_cons_of_mem _ hw)]
    split
    · rfl
    · have : x ≠ n := by rintro rfl; exact h v List.mem_cons_self
      simp [this]
theorem bindL_get {kindOf : Str → Option NameKind} {x : Str} {v : Value} : ∀ {P : List Str} {vs : List Value} {i : Nat} {m : Str → Option Value}, P.Nodup → P[i]? = some x → vs[i]? = some v → kindOf x = some .local →
    bindL kindOf (P.zip vs) m x = some v
  | [], _, _, _, _, h, _, _ => by simp at h
  | _ :: _, [], _, _, _, _, h, _ => by simp at h
  | p :: P, w :: vs, 0, m, nd, h1, h2, hk => by
    simp at h1 h2; subst h1; subst h2
    show bindL kindOf ((p, w) :: P.zip vs) m p = _
    unfold bindL
    rw [bindL_out fun v hv => (List.nodup_cons.mp nd).1 (List.of_mem_zip hv).1, if_pos hk]
    simp
  | p :: P, w :: vs, i + 1, m, nd, h1, h2, hk => by
    show bindL kindOf ((p, w) :: P.zip vs) m x = _
    unfold bindL
    exact bindL_get (i := i) (List.nodup_cons.mp nd).2 (by simpa using h1) (by simpa using h2) hk
theorem bindC_get {kindOf : Str → Option NameKind} {x : Str} {v : Value} : ∀ {P : List Str} {vs : List Value} {i : Nat} {m : Str → Option Value}, P.Nodup → P[i]? = some x → vs[i]? = some v → kindOf x ≠ some .local →
    bindC kindOf (P.zip vs) m x = some v
  | [], _, _, _, _, h, _, _ => by simp at h
  | _ :: _, [], _, _, _, _, h, _ => by simp at h
  | p :: P, w :: vs, 0, m, nd, h1, h2, hk => by
    simp at h1 h2; subst h1; subst h2
    show bindC kindOf ((p, w) :: P.zip vs) m p = _
    unfold bindC
    rw [bindC_out fun v hv => (List.nodup_cons.mp nd).1 (List.of_mem_zip hv).1, if_neg hk]
    simp
  | p :: P, w :: vs, i + 1, m, nd, h1, h2, hk => by
    show bindC kindOf ((p, w) :: P.zip vs) m x = _
    unfold bindC
    exact bindC_get (i := i) (List.nodup_cons.mp nd).2 (by simpa using h1) (by simpa using h2) hk

/-- the names' values at the entry -/
def start (N : List Str) (vs : List V) : St := vs.map some ++ List.replicate (N.length - vs.length) none

/-- the context of a def's body, at its entry; an exception leaves the frame, then lies as CX says -/
def cxOf (CX : CXT) (P : Program) (w : World) (K : PySem.W.Frag) (mg : Str → Option Value) (base : Heap) (N : List Str) (qual : Str) (scope : Scope) (f : Addr) (cd : Value) (A : Around) (outer : List Env) (s : Shared) (H : Hp) (E : XK) : Cx where
  prog := P
  w := w
  K := K
  mg := mg
  base := base
  A := A.deeper (envOfC qual scope s.heap.objs.size f cd)
  N := N
  s₀ := s
  H₀ := H
  env := envOfC qual scope s.heap.objs.size f cd
  outer := outer
  stack := envOfC qual scope s.heap.objs.size f cd :: outer
  ex := []
  calm := true
  fn := fun _ => true
  pn := []
  xe := fun e s' => wpAny (model P w) (A.deeper (envOfC qual scope s.heap.objs.size f cd)) (leaving (envOfC qual scope s.heap.objs.size f cd) e) (fun _ s'' => CX outer H s E e s'') (fun e' s'' => CX outer H s E e' s'') s'

theorem cell_has {sc : Scope} {n : Nat} {x : Str} (h : sc.names.lookup x = some .cell) : ∃ c, (cellsFrom n sc.names []).lookup x = some c := by
  have q := PySem.W.cellsFrom_some sc.names n [] (.inl h)
  exact Option.isSome_iff_exists.mp q

theorem inv_start {CX : CXT} {P : Program} {w : World} {K : PySem.W.Frag} {mg : Str → Option Value} {base : Heap} {N ps : List Str} {qual : Str} {scope : Scope} {f : Addr} {cd : Value} {A : Around} {outer : List Env} {s s1 : Shared} {H : Hp} {E : XK} {us : List Value} {vs : List V}
    (S : FnScope N ps scope) (hd : A.handled = none) (e0 : Env0 P w K mg base A outer s H) (hl : vs.length = ps.length) (r : Vals vs us)
    (x : InCallC s s.heap.objs.size (bindL (envOfC qual scope s.heap.objs.size f cd).kindOf (ps.zip us) fun _ => none) (cellsFrom (s.heap.objs.size + 1) scope.names []) (bindC (envOfC qual scope s.heap.objs.size f cd).kindOf (ps.zip us) fun _ => none) s1) :
    Inv (cxOf CX P w K mg base N qual scope f cd A outer s H E) [] (start N vs) H s1 := by
  have hpl : ps.length ≤ N.length := by have := congrArg List.length S.pre; rw [List.length_take] at this; omega
  obtain ⟨h1, tk, rfl, hk⟩ := x.done
  have noA : ∀ b : Addr, b ∉ (cxOf CX P w K mg base N qual scope f cd A outer s H E).ex := fun b z => absurd (show b ∈ ([] : List Addr) from z) (by simp)
  refine ⟨⟨e0.mod, S.kind, rfl, rfl, Nat.le_refl _, fun y z c h1 h2 => ?_, fun y hy => ?_, fun y c _ h => ?_, fun _ => hd, Around.frames_deeper e0.frames, .inr ⟨rfl, rfl⟩, fun b z => absurd z (noA b), e0.bs, e0.bsz, fun b _ _ => noA b, fun b z => absurd z (noA b), e0.funs, e0.frf⟩,
    rfl, e0.bare, Un.kept hk, ⟨_, x.toInCall.ns, fun i y v h1 h2 h3 => ?_⟩, fun y c h => ⟨_, x.cell y c h⟩, e0.hok.fresh (Nat.le_refl _), fun y c h => ?_, fun p hp => absurd (show p ∈ ([] : List (Addr × Obj)) from hp) (by simp), e0.hok.kept hk, ?_⟩
  · exact name_of_addr x.apart (PySem.mem_of_lookup h1) (PySem.mem_of_lookup h2)
  · have hy : scope.names.lookup y = some .cell ∨ scope.names.lookup y = some .free := hy
    rcases hy with hy | hy
    · exact cell_has hy
    · exact absurd rfl (S.nofree _ (PySem.mem_of_lookup hy))
  · exact Nat.le_of_lt (x.above y c (PySem.mem_of_lookup h))
  · have hi : i < vs.length := by
      unfold start at h2
      by_cases hi : i < vs.length
      · exact hi
      · rw [List.getElem?_append_right (by simpa using hi)] at h2
        rw [List.getElem?_replicate] at h2
        split at h2 <;> cases h2
    have ha : vs[i]? = some v := by
      unfold start at h2
      rw [List.getElem?_append_left (by simpa using hi), List.getElem?_map] at h2
      cases e : vs[i]? with
      | none => rw [e] at h2; cases h2
      | some a => rw [e] at h2; cases h2; rfl
    obtain ⟨u, hu, rv⟩ := r.get ha
    have hp : ps[i]? = some y := by
      rw [← S.pre, List.getElem?_take_of_lt (by omega)]; exact h1
    have ndP : ps.Nodup := by rw [← S.pre]; exact S.nd.sublist (List.take_sublist _ _)
    refine ⟨u, rv, ?_⟩
    rcases S.par y (List.mem_of_getElem? hp) with k | k
    · exact .inl ⟨k, bindL_get ndP hp hu k⟩
    · obtain ⟨c, e⟩ := cell_has (n := s.heap.objs.size + 1) k
      refine .inr ⟨.inl k, c, e, ?_⟩
      have q := x.cell y c e
      rw [bindC_get ndP hp hu (by show scope.names.lookup y ≠ _; rw [k]; decide)] at q
      exact q
  · exact e0.hok.fresh (Nat.le_of_lt (x.above y c (PySem.mem_of_lookup h)))
  · unfold start
    show _ = N.length
    rw [List.length_append, List.length_map, List.length_replicate]
    omega

/-- THE RULE: a def (or a method) of the text, by its body. The body's reading t is chosen for each entry; it is run at the parameters' values -/
theorem fn_of {CX : CXT} {P : Program} {w : World} {K : PySem.W.Frag} {mg : Str → Option Value} {base : Heap} {k : Nat} {f : Addr} {name qual : Str} {params : Arguments} {body : List Stmt} {scope : Scope} {dV kV doc pm cdv ct oc : Value} {an od : Option Addr}
    {osl : Array (Option Value)} {N ps : List Str} {sp : Sp} (lk : K.lookup f = some ⟨oc, od, .func (PySem.W.fnOf name qual params body scope dV kV doc pm an cdv ct), osl⟩) (hcd : PySem.W.codeIn K cdv qual = true) (S : FnScope N ps scope)
    (len : ∀ vs H Q E, sp vs H Q E → vs.length = ps.length)
    (hbody : ∀ (A : Around) (outer : List Env) (s : Shared) (H : Hp) (vs : List V) (Q : VK) (E : XK), Room k (A.deeper (envOfC qual scope s.heap.objs.size f cdv)) → sp vs H Q E →
      ∃ t, PSs (cxOf CX P w K mg base N qual scope f cdv A outer s H E) body t ∧ t { nx := fun _ H' => Q .non H', rt := Q } (start N vs) H) :
    FnOk P w K mg base CX (k + 1) f (PySem.W.fnOf name qual params body scope dV kV doc pm an cdv ct) ps sp := by
  refine ⟨len, fun A outer s H args us vs Q E hr e0 hb r hsp => ?_⟩
  have hl := len _ _ _ _ hsp
  have KX : K.In s.heap := e0.mod.kin.keeps fun b o e => (e0.bs b o e).1
  have lim : s.heap.NoLimit := e0.mod.nolimit.keeps fun b o e => (e0.bs b o e).1
  have hkind : ∀ y ∈ ps.zip us, scope.names.lookup y.1 = some .local ∨ (scope.names.lookup y.1 = some .cell ∧ ((cellsFrom (s.heap.objs.size + 1) scope.names []).lookup y.1).isSome = true) := fun ⟨n, v⟩ hy => by
    rcases S.par n (List.of_mem_zip hy).1 with q | q
    · exact .inl q
    · exact .inr ⟨q, PySem.W.cellsFrom_some _ _ _ (.inl q)⟩
  refine codeAny_call_function hr.depth (KX _ _ lk) rfl S.co S.gen rfl (PySem.W.codeRec_of KX hcd) (hb _ _ _ _ ?_)
  refine wpAny_newFunctionEnv_cells S.kind hkind fun env he s1 x => ?_
  subst he
  refine ⟨lim.keeps x.toInCall.keep, codeAny_func ?_⟩
  obtain ⟨t, ht, hq⟩ := hbody A outer s H vs Q E (hr.deeper _) hsp
  have I : Inv (cxOf CX P w K mg base N qual scope f cdv A outer s H E) [] (start N vs) H s1 := inv_start S hr.hd e0 hl r x
  refine wpAny_mono (ht [] s1 (start N vs) H _ I hq) (fun fl s' hs => ?_) fun e s' hs => hs
  have fin : ∀ {σ' : St} {H' : Hp} {v : V} {u : Value}, Inv (cxOf CX P w K mg base N qual scope f cdv A outer s H E) [] σ' H' s' → RelV v u → Q v H' → CE outer P w H s Q u s' :=
    fun {σ' H' v u} J rv q => ⟨v, H', J.os, J.bare, J.base, J.hok, rv, q⟩
  cases fl with
  | ret u =>
    obtain ⟨v, σ', H', J, rv, q⟩ := hs
    exact fin J rv q
  | next =>
    obtain ⟨σ', H', J, q⟩ := hs
    exact fin (v := V.non) (u := Value.none) J rfl q
  | brk =>
    obtain ⟨_, _, _, q⟩ := hs
    exact False.elim q
  | cont =>
    obtain ⟨_, _, _, q⟩ := hs
    exact False.elim q
end L2

namespace L2
open PySem PySem.Spec PyProof.Rows
section
variable {X : Cx} {x : Str} {p pos : Pos} {e : Expr} {es : List Expr} {t : TA} {id T : String} {r : List V → Hp → VK → Prop}

def tCB (r : List V → Hp → VK → Prop) (t : TA) : TE := fun σ H Q => t σ H fun vs H1 => r vs H1 Q
/-- f(e, ..), f a built-in function -/
theorem pe_callB (hc : CallR X (.builtin id) r) (hg : Gl X x) (hm : X.mg x = none) (hv : bootBuiltins x = some (.builtin id)) (ha : PA X (e :: es) t) (hn : x ≠ "__name__" := by decide) (hdb : (x == ("__debug__" : Str)) = false := by decide)
    (he : starEach (e :: es) X.env = (false, eval e X.env) :: starEach es X.env := by rfl) (hpl : (backTo pos (starEach es X.env)).any (·.1) = false := by rfl) : PE X (.Call (.Name x p) (e :: es) [] pos) (tCB r t) := by
  intro pins s σ H Q I h
  refine wpAny_Call_Name_kw (ld_blt I hg hm hv ?_ hn hdb)
  exact PyProof.Rows.callWith_builtin1 (thn (ha pos pins s σ H _ I h) fun us s1 ⟨vs, H1, I1, r1, q1⟩ => hc pins s1 σ H1 vs us Q I1 r1 q1) he hpl
/-- T(e, ..), T a built-in type -/
theorem pe_callTy (hc : CallR X (.type T) r) (hg : Gl X x) (hm : X.mg x = none) (hv : bootBuiltins x = some (.type T)) (ha : PA X (e :: es) t) (hn : x ≠ "__name__" := by decide) (hdb : (x == ("__debug__" : Str)) = false := by decide)
    (he : starEach (e :: es) X.env = (false, eval e X.env) :: starEach es X.env := by rfl) (hpl : (backTo pos (starEach es X.env)).any (·.1) = false := by rfl) : PE X (.Call (.Name x p) (e :: es) [] pos) (tCB r t) := by
  intro pins s σ H Q I h
  refine wpAny_Call_Name_kw (ld_blt I hg hm hv ?_ hn hdb)
  exact PyProof.Rows.callWith_type1 (thn (ha pos pins s σ H _ I h) fun us s1 ⟨vs, H1, I1, r1, q1⟩ => hc pins s1 σ H1 vs us Q I1 r1 q1) he hpl
end
end L2

namespace HT
open PySem PyProof.Rows

section
open PySem.SeqAt
open PySem.AutoSeq1 (wpAny_loadPart')
open PySem.MeetsSeq PySem.MeetsSeq2 PySem.MeetsSeq3

end

section
variable {prog : Program} {w : World} {A : Around} {E : Value → Shared → Prop} {s : Shared}

/-! ### t[a:b], not the whole -/
end
end HT

namespace L2
open PySem PySem.Spec PyProof.Rows

/-! ### the parts of a slice -/
abbrev TO := St → Hp → (Option Int → Hp → Prop) → Prop
section
variable {X : Cx} {e : Expr} {te : TE} {lo hi : Option Expr} {tl th : TO} {pos p2 : Pos}

/-- what a slice of a value is, by values: the slice object stands at sl -/
def SlR (X : Cx) (r : V → Option Int → Option Int → Hp → VK → Prop) : Prop :=
  ∀ (pins : List (Addr × Obj)) (s : Shared) (σ : St) (H : Hp) (x : V) (v vl vu : Value) (lo hi : Option Int) (sl : Addr) (Q : VK), Inv X pins σ H s → RelV x v → s.heap.IsSliceOf sl vl vu .none → IsPart vl lo → IsPart vu hi → r x lo hi H Q →
    ∃ T id, typeLookup (.type T) "__getitem__" = pure (some (.builtin id)) ∧ s.TypeIs v T ∧ wpAny (model X.prog X.w) X.A (getItem v (.ref sl)) (EP X pins σ Q) X.xe s
theorem SlR.or {r r' : V → Option Int → Option Int → Hp → VK → Prop} (h : SlR X r) (h' : SlR X r') : SlR X (fun x lo hi H Q => r x lo hi H Q ∨ r' x lo hi H Q) := by
  intro pins s σ H x v vl vu lo hi sl Q I rx hs pl pu q
  rcases q with q | q
  · exact h pins s σ H x v vl vu lo hi sl Q I rx hs pl pu q
  · exact h' pins s σ H x v vl vu lo hi sl Q I rx hs pl pu q
/-! ### t < u, t + u -/
end
end L2

namespace L2
open PySem PySem.Spec PyProof.Rows

/-! ### places -/
/-- the place that an index of any sign means -/
def ixN (n : Nat) (i : Int) : Option Nat := if 0 ≤ i then (if i < n then some i.toNat else none) else if -(n : Int) ≤ i then some (i + n).toNat else none
def atI {α : Type} (xs : List α) (i : Int) : Option α := (ixN xs.length i).bind fun j => xs[j]?
theorem ixN_seq {n : Nat} {i : Int} {j : Nat} (h : ixN n i = some j) : seqIndex? i n = some j ∧ j < n ∧ -(n : Int) ≤ i ∧ i < n := by
  unfold ixN at h
  by_cases h0 : 0 ≤ i
  · rw [if_pos h0] at h
    by_cases h1 : i < n
    · rw [if_pos h1] at h
      have e : i.toNat = j := Option.some.inj h
      exact ⟨by rw [seqIndex_of h0 h1, e], by omega, by omega, h1⟩
    · rw [if_neg h1] at h; cases h
  · rw [if_neg h0] at h
    by_cases h1 : -(n : Int) ≤ i
    · rw [if_pos h1] at h
      have e : (i + n).toNat = j := Option.some.inj h
      exact ⟨by rw [seqIndex_neg (by omega) h1, e], by omega, h1, by omega⟩
    · rw [if_neg h1] at h; cases h
theorem atI_get {α : Type} {xs : List α} {i : Int} {v : α} (h : atI xs i = some v) : ∃ j, seqIndex? i xs.length = some j ∧ xs[j]? = some v ∧ j < xs.length ∧ -(xs.length : Int) ≤ i ∧ i < xs.length := by
  unfold atI at h
  cases e : ixN xs.length i with
  | none => rw [e] at h; cases h
  | some j =>
    rw [e] at h
    obtain ⟨h1, h2, h3, h4⟩ := ixN_seq e
    exact ⟨j, h1, h, h2, h3, h4⟩
theorem atI_nat {α : Type} {xs : List α} {j : Nat} {v : α} (h : xs[j]? = some v) : atI xs (j : Int) = some v := by
  have hj : j < xs.length := (List.getElem?_eq_some_iff.mp h).1
  have e : ixN xs.length (j : Int) = some j := by
    unfold ixN
    rw [if_pos (by omega), if_pos (by omega)]; simp
  unfold atI; rw [e]; exact h
/-! ### what may be subscripted -/
/-- what stands as an index of a plain subscript -/
def PlainIx (b : Expr) : Prop := ∀ o i, subscripted b false o i = operate [o, i] (getItem o i)
/-- a subscript by values -/
def IxR (X : Cx) (r : R2) : Prop :=
  ∀ (value slice : Expr) (pins : List (Addr × Obj)) (s : Shared) (σ : St) (H : Hp) (x y : V) (v u : Value) (Q : VK), Inv X pins σ H s → RelV x v → RelV y u → r x y H Q →
    subscripted slice false v u = operate [v, u] (getItem v u) → wpAny (model X.prog X.w) X.A (subscriptTail value slice v u) (EP X pins σ Q) X.xe s
/-- a call of a builtin's method by values: the receiver, the arguments -/
def MtR (X : Cx) (id : String) (r : V → List V → Hp → VK → Prop) : Prop :=
  ∀ (pins : List (Addr × Obj)) (s : Shared) (σ : St) (H : Hp) (x : V) (xs : List V) (v : Value) (us : List Value) (Q : VK), Inv X pins σ H s → RelV x v → Vals xs us → r x xs H Q →
    wpAny (model X.prog X.w) X.A (call (.builtin id) (v :: us)) (EP X pins σ Q) X.xe s
section
variable {X : Cx} {a b : Expr} {ta tb : TE} {pos : Pos}
theorem IxR.or {r r' : R2} (h : IxR X r) (h' : IxR X r') : IxR X (fun x y H Q => r x y H Q ∨ r' x y H Q) := by
  intro value slice pins s σ H x y v u Q I rx ry q hs
  rcases q with q | q
  · exact h value slice pins s σ H x y v u Q I rx ry q hs
  · exact h' value slice pins s σ H x y v u Q I rx ry q hs
theorem MtR.or {id : String} {r r' : V → List V → Hp → VK → Prop} (h : MtR X id r) (h' : MtR X id r') : MtR X id (fun x xs H Q => r x xs H Q ∨ r' x xs H Q) := by
  intro pins s σ H x xs v us Q I rx rs q
  rcases q with q | q
  · exact h pins s σ H x xs v us Q I rx rs q
  · exact h' pins s σ H x xs v us Q I rx rs q
/-- a[b] -/
theorem pe_ix {r : R2} (hr : IxR X r) (ha : PE X a ta) (hb : PE X b tb) (hs : PlainIx b) : PE X (.Subscript a b pos) (tOp r ta tb) := by
  intro pins s σ H Q I h
  exact Subscript_ (binT ha hb I h fun v u s2 x y H2 I2 rx ry q => hr a b pins s2 σ H2 x y v u Q I2 rx ry q (hs _ _))

inductive IxLP (K : PySem.W.Frag) (x y : V) (H : Hp) (Q : VK) : Prop
  | mk (p : Addr) (xs : List V) (i : Int) (v : V) (e1 : x = .ref p) (e2 : y = .int i) (h : SqL K H p xs) (h' : atI xs i = some v) (q : Q v H) : IxLP K x y H Q
inductive IxTP (K : PySem.W.Frag) (x y : V) (H : Hp) (Q : VK) : Prop
  | mk (p : Addr) (xs : List V) (i : Int) (v : V) (e1 : x = .ref p) (e2 : y = .int i) (h : SqT K H p xs) (h' : atI xs i = some v) (q : Q v H) : IxTP K x y H Q
def rIxL (K : PySem.W.Frag) : R2 := IxLP K
def rIxT (K : PySem.W.Frag) : R2 := IxTP K
theorem ix_list : IxR X (rIxL X.K) := by
  intro value slice pins s σ H x y v u Q I rx ry h hs
  obtain ⟨p, xs, i, z, rfl, rfl, hq, he, q⟩ := h
  cases rx
  obtain ⟨t, rfl⟩ := ry
  obtain ⟨its, r, pl, hz⟩ := I.list hq
  obtain ⟨j, h1, h2, h3, h4, h5⟩ := atI_get he
  obtain ⟨w, ew, rw'⟩ := r.get h2
  have hl := r.length
  have hn := line63
  have fin : EP X pins σ Q w s := ⟨z, H, I, rw', q⟩
  by_cases h0 : 0 ≤ i
  · have hj : i.toNat = j := by
      rw [seqIndex_of h0 h5] at h1
      exact Option.some.inj h1
    exact item_listR pl.isList h0 (by omega) (by rw [hj]; simpa using ew) fin hs
  · have hj : (i + (its.toArray.size : Int)).toNat = j := by
      rw [seqIndex_neg (by omega) h4] at h1
      rw [List.size_toArray, ← hl]
      exact Option.some.inj h1
    exact subscriptTail_builtinR (x := w) pl.isList.typeIs slot_list_getitem.lookup
      (wpAny_getItem_list_neg (Q := fun r s' => r = w ∧ EP X pins σ Q r s') pl.isList (by omega) (by rw [List.size_toArray] <;> omega) (by omega) (by rw [hj]; simpa using ew) ⟨rfl, fin⟩) hs
theorem ix_tup : IxR X (rIxT X.K) := by
  intro value slice pins s σ H x y v u Q I rx ry h hs
  obtain ⟨p, xs, i, z, rfl, rfl, hq, he, q⟩ := h
  cases rx
  obtain ⟨t, rfl⟩ := ry
  obtain ⟨its, r, pl, hz⟩ := I.tuple hq
  obtain ⟨j, h1, h2, h3, h4, h5⟩ := atI_get he
  obtain ⟨w, ew, rw'⟩ := r.get h2
  have hl := r.length
  have hn := line63
  have fin : EP X pins σ Q w s := ⟨z, H, I, rw', q⟩
  exact subscriptTail_builtinR (x := w) pl.typeIs slot_tuple_getitem.lookup
    (getItem_tuple (j := j) (Q := fun r s' => r = w ∧ EP X pins σ Q r s') pl (by omega) (by omega) (by rw [List.size_toArray, ← hl]; exact h1) (by simpa using ew) ⟨rfl, fin⟩) hs
/-! ### xs[i] = v, any sign -/
theorem Inv.lst {pins : List (Addr × Obj)} {σ : St} {H : Hp} {s : Shared} {p : Addr} {xs : List V} (I : Inv X pins σ H s) (h : H p = some (.lst xs)) :
    ∃ (its : List Value) (n : Nat), Vals xs its ∧ s.heap.get? p = some { cls := .type "list", data := .seq its.toArray n } ∧ xs.length ≤ sizeLine := by
  obtain ⟨z, its, n, r, e⟩ := I.hok p _ h
  exact ⟨its, n, r, e, z⟩
/-! ### slices -/
/-! ### in, not in: flat items -/
/-! ### len, list(x), tuple(x) of any list or tuple that is read -/
theorem call_len_seq : CallR X (.builtin "len") (fun xs H Q => ∃ p ys, xs = [.ref p] ∧ (SqL X.K H p ys ∨ SqT X.K H p ys) ∧ Q (.int ys.length) H) := by
  intro pins s σ H xs us Q I r h
  obtain ⟨p, ys, rfl, hq, q⟩ := h
  obtain ⟨u, rfl, rx⟩ := vals1 r
  cases rx
  have hn := line63
  rcases hq with hq | hq
  · obtain ⟨its, r', pl, hz⟩ := I.list hq
    have hlen := r'.length
    exact Calls.call_len_list pl.isList (by simp only [List.size_toArray] <;> omega) ⟨.int ys.length, H, I.tok _, ⟨s.toks + 1, by rw [List.size_toArray, hlen]⟩, q⟩
  · obtain ⟨its, r', pl, hz⟩ := I.tuple hq
    have hlen := r'.length
    exact len_tuple pl (by simp only [List.size_toArray] <;> omega) ⟨.int ys.length, H, I.tok _, ⟨s.toks + 1, by rw [List.size_toArray, hlen]⟩, q⟩
theorem call_len_str : CallR X (.builtin "len") (fun xs H Q => ∃ z, xs = [.str z] ∧ z.length ≤ sizeLine ∧ Q (.int z.length) H) := by
  intro pins s σ H xs us Q I r h
  obtain ⟨z, rfl, hz, q⟩ := h
  obtain ⟨u, rfl, t, rfl⟩ := vals1 r
  have hn := line63
  exact len_str (by omega) ⟨.int z.length, H, I.tok _, ⟨_, rfl⟩, q⟩
theorem CallR.or {f : Value} {r r' : List V → Hp → VK → Prop} (h : CallR X f r) (h' : CallR X f r') : CallR X f (fun xs H Q => r xs H Q ∨ r' xs H Q) := by
  intro pins s σ H xs us Q I rs q
  rcases q with q | q
  · exact h pins s σ H xs us Q I rs q
  · exact h' pins s σ H xs us Q I rs q
theorem call_tuple_of : CallR X (.type "tuple") (fun xs H Q => ∃ p ys, xs = [.ref p] ∧ ((SqL X.K H p ys ∧ ∀ l, H l = none → Q (.ref l) (upd H l (.tup ys))) ∨ (SqT X.K H p ys ∧ Q (.ref p) H))) := by
  intro pins s σ H xs us Q I r h
  obtain ⟨p, ys, rfl, h⟩ := h
  obtain ⟨u, rfl, rx⟩ := vals1 r
  cases rx
  rcases h with ⟨hq, q⟩ | ⟨hq, q⟩
  · obtain ⟨its, r', pl, hz⟩ := I.list hq
    have hlen := r'.length
    refine call_tuple_list pl.isList (fun h' kp => ?_) (by simp only [List.size_toArray] <;> omega)
    have I1 : Inv X pins σ H { s with heap := h' } := I.kept (t' := s.toks) kp
    have I2 : Inv X pins σ (upd H h'.objs.size (.tup ys)) { s with heap := h'.push { cls := .type "tuple", data := .seq its.toArray } } :=
      I1.laid (t' := s.toks) (fun b o e => Heap.get?_push_of_some _ e) (Nat.le_refl _) (show ObjOk X.prog X.w _ _ _ (.tup ys) from ⟨hz, its, r', IsTup.new _ _⟩)
    exact ⟨.ref h'.objs.size, _, I2, rfl, q _ (I1.hok.fresh (Nat.le_refl _))⟩
  · obtain ⟨its, r', pl, hz⟩ := I.tuple hq
    exact call_tuple_same pl ⟨.ref p, H, I, rfl, q⟩

/-! ### the call of a builtin's method: o.m(..) -/
/-- the value is of that builtin type -/
def tyV (K : PySem.W.Frag) (T : String) (x : V) (H : Hp) : Prop := match x with
  | .str _ => T = "str"
  | .int _ => T = "int"
  | .ref p => (T = "list" ∧ ∃ xs, SqL K H p xs) ∨ (T = "tuple" ∧ ∃ o, K.lookup p = some o ∧ o.cls = .type "tuple" ∧ o.dict = none) ∨
      (T = "dict" ∧ ((∃ kvs, H p = some (.dK kvs)) ∨ ∃ kvs, H p = some (.dT kvs))) ∨ (T = "set" ∧ ∃ S n, H p = some (.set S n))
  | _ => False
theorem tyV_is {pins : List (Addr × Obj)} {σ : St} {H : Hp} {s : Shared} {T : String} {x : V} {v : Value} (I : Inv X pins σ H s) (r : RelV x v) (ty : tyV X.K T x H) :
    s.TypeIs v T ∧ ∀ a, v = .ref a → ∃ ob, s.heap.get? a = some ob ∧ ob.dict = none := by
  cases x with
  | str z =>
    obtain ⟨t, rfl⟩ := r
    cases (show T = "str" from ty)
    exact ⟨typeIs_str s z t, fun _ e => nomatch e⟩
  | int i =>
    obtain ⟨t, rfl⟩ := r
    cases (show T = "int" from ty)
    exact ⟨typeIs_int s i t, fun _ e => nomatch e⟩
  | ref p =>
    cases r
    rcases ty with ⟨rfl, xs, hq⟩ | ⟨rfl, o, hk, hc, hd⟩ | ⟨rfl, hk⟩ | ⟨rfl, S, n, hk⟩
    · obtain ⟨its, _, pl, _⟩ := I.list hq
      refine ⟨pl.isList.typeIs, fun a e => ?_⟩
      cases e
      obtain ⟨o, n, e, c, hd, _⟩ := pl
      exact ⟨o, e, hd⟩
    · refine ⟨⟨o, I.kIn p o hk, hc⟩, fun a e => ?_⟩
      cases e
      exact ⟨o, I.kIn _ o hk, hd⟩
    · have z : ∃ o, s.heap.get? p = some o ∧ o.ExactDict := by
        rcases hk with ⟨kvs, hk⟩ | ⟨kvs, hk⟩
        · obtain ⟨_, _, _, _, o, _, _, e, ex, _⟩ := I.hok p _ hk
          exact ⟨o, e, ex⟩
        · obtain ⟨_, _, _, _, o, _, _, e, ex, _⟩ := I.hok p _ hk
          exact ⟨o, e, ex⟩
      obtain ⟨o, e, ex⟩ := z
      refine ⟨⟨o, e, ex.1⟩, fun a e2 => ?_⟩
      cases e2
      exact ⟨o, e, ex.2.1⟩
    · obtain ⟨o, _, _, _, e, ex, _⟩ := I.hok p _ hk
      refine ⟨⟨o, e, ex.1⟩, fun a e2 => ?_⟩
      cases e2
      exact ⟨o, e, ex.2.1⟩
  | _ => exact False.elim ty
def tBM0 (K : PySem.W.Frag) (T : String) (r : V → List V → Hp → VK → Prop) (to : TE) : TE := fun σ H Q => to σ H fun x H1 => tyV K T x H1 ∧ r x [] H1 Q
def tBM (K : PySem.W.Frag) (T : String) (r : V → List V → Hp → VK → Prop) (to : TE) (t : TA) : TE := fun σ H Q => to σ H fun x H1 => tyV K T x H1 ∧ t σ H1 fun xs H2 => r x xs H2 Q
variable {o e : Expr} {es : List Expr} {to : TE} {t : TA} {name : Str} {apos cpos : Pos} {T id : String} {r : V → List V → Hp → VK → Prop}
theorem pe_bm0 (pa : PlainAttrs T) (slot : Slot T name id) (hty : typeOf (.builtin id) = pure (.type "method_descriptor")) (hm : MtR X id r) (ho : PE X o to)
    (hbase : attributeBase o name X.env (eval o X.env) = eval o X.env := by rfl) (hline : (apos.endLine == cpos.line) = true := by rfl) : PE X (.Call (.Attribute o name apos) [] [] cpos) (tBM0 X.K T r to) := by
  intro pins s σ H Q I h
  refine wpAny_Call_method0_late hbase hline (thn (ho pins s σ H _ I h) fun v s1 zy => ?_)
  obtain ⟨x, H1, I1, r1, ty, q1⟩ := zy
  obtain ⟨h1, h2⟩ := tyV_is I1 r1 ty
  exact ⟨T, id, pa, slot, hty, h1, h2, Calls.callWith_builtin rfl (PySem.evalArgs_none (hm pins s1 σ H1 x [] v [] Q I1 r1 .nil q1))⟩
theorem pe_bm (pa : PlainAttrs T) (slot : Slot T name id) (hty : typeOf (.builtin id) = pure (.type "method_descriptor")) (hm : MtR X id r) (ho : PE X o to) (ha : PA X (e :: es) t)
    (hbase : attributeBase o name X.env (eval o X.env) = eval o X.env := by rfl)
    (hfew : ((backTo cpos (starEach (e :: es) X.env)).all (fun x => !x.1) && (backToKw cpos (keywordEach [] X.env)).all (fun x => x.1.isSome)
      && decide ((e :: es).length + ([] : List Keyword).length + (if ([] : List Keyword).isEmpty then 0 else 1) < 30)) = true := by rfl)
    (hline : (apos.endLine == cpos.line) = true := by rfl) (hs : starEach (e :: es) X.env = (false, eval e X.env) :: starEach es X.env := by rfl) (hplain : (backTo cpos (starEach es X.env)).any (·.1) = false := by rfl) :
    PE X (.Call (.Attribute o name apos) (e :: es) [] cpos) (tBM X.K T r to t) := by
  intro pins s σ H Q I h
  refine wpAny_Call_method_late hbase hfew hline rfl (thn (ho pins s σ H _ I h) fun v s1 zy => ?_)
  obtain ⟨x, H1, I1, r1, ty, q1⟩ := zy
  obtain ⟨h1, h2⟩ := tyV_is I1 r1 ty
  refine ⟨T, id, pa, slot, hty, h1, h2, ?_⟩
  have hA := ha cpos pins s1 σ H1 _ I1 q1
  rw [hs] at hA ⊢
  refine Calls.callWith_builtin (by show (false || (backTo cpos (starEach es X.env)).any (·.1)) = false; rw [hplain] <;> rfl) (Calls.evalArgs_plain ?_)
  exact thn hA fun us s2 ⟨vs, H2, I2, r2, q2⟩ => hm pins s2 σ H2 x vs v us Q I2 r1 r2 q2
/- xs.append(e), list.index on a module's tuple .. are MtR facts of 06m -/
end
end L2

namespace L2
open PySem PySem.Spec PyProof.Rows

def MtM (X : Cx) (id : String) (r : V → List V → Hp → VK → Prop) : Prop :=
  ∀ (pins : List (Addr × Obj)) (s : Shared) (σ : St) (H : Hp) (x : V) (xs : List V) (v : Value) (us : List Value) (Q : VK), Inv X pins σ H s → RelV x v → Vals xs us → r x xs H Q →
    wpAny (model X.prog X.w) X.A (call (.builtin id) (v :: us)) (EP X pins σ Q) X.xe s

/-! ### lists of values -/
theorem Vals.one : ∀ {x : V} {us : List Value}, Vals [x] us → ∃ u, us = [u] ∧ RelV x u
  | _, _, .cons r .nil => ⟨_, rfl, r⟩
theorem Vals.two {x y : V} {us : List Value} (h : Vals [x, y] us) : ∃ u v, us = [u, v] ∧ RelV x u ∧ RelV y v := by
  cases h with
  | cons r h =>
    cases h with
    | cons q h =>
      cases h
      exact ⟨_, _, rfl, r, q⟩
theorem Vals.zero : ∀ {us : List Value}, Vals [] us → us = []
  | _, .nil => rfl
theorem Vals.reverse {xs : List V} {us : List Value} (h : Vals xs us) : Vals xs.reverse us.reverse := by
  induction h with
  | nil => exact .nil
  | cons r t ih => rw [List.reverse_cons, List.reverse_cons]; exact Vals.append ih (.cons r .nil)
section
variable {X : Cx} {pins : List (Addr × Obj)} {σ : St} {H : Hp} {s : Shared} {l b : Addr} {xs ys zs : List V}

/-! ### the two steps: a tracked list is rewritten, a new list is laid -/
theorem Inv.lset {its its' : List Value} {n : Nat} {f : Array Value → Array Value} {t' : Nat} (I : Inv X pins σ H s) (hH : H l = some (.lst xs))
    (e : s.heap.get? l = some { cls := .type "list", data := .seq its.toArray n }) (hf : f its.toArray = its'.toArray) (hv : Vals ys its') (hz : ys.length ≤ sizeLine) :
    Inv X pins σ (upd H l (.lst ys)) { s with heap := s.heap.update l (Obj.mapSeq f), toks := t' } := by
  have q := PySem.IsL.update e f
  rw [hf] at q
  refine I.write (x := l) (e := l) (by rw [hH]; exact trivial) (.inl rfl) (fun b' u hb hu => (Heap.get?_update_other s.heap (Obj.mapSeq f) (Ne.symm hb)).trans hu) ⟨_, q⟩ ?_
  exact ⟨hz, its', _, hv, q⟩
theorem Inv.lnew {its : List Value} {t' : Nat} (I : Inv X pins σ H s) (hv : Vals ys its) (hz : ys.length ≤ sizeLine) :
    Inv X pins σ (upd H s.heap.objs.size (.lst ys)) { s with heap := s.heap.push { cls := .type "list", data := .seq its.toArray }, toks := t' } :=
  I.laid (fun _ _ q => Heap.get?_push_of_some _ q) (Nat.le_refl _) ⟨hz, its, 0, hv, Heap.get?_push_size _ rfl⟩
theorem Inv.fresh (I : Inv X pins σ H s) : H s.heap.objs.size = none := I.hok.fresh (Nat.le_refl _)
theorem Inv.lstM (I : Inv X pins σ H s) (hH : H l = some (.lst xs)) : xs.length ≤ sizeLine ∧ ∃ (its : List Value) (n : Nat), Vals xs its ∧ xs.length = its.length ∧ s.heap.get? l = some { cls := .type "list", data := .seq its.toArray n } := by
  obtain ⟨z, its, n, r, e⟩ := I.hok l _ hH
  exact ⟨z, its, n, r, r.length, e⟩

end

section
variable {X : Cx}

/-! ### methods -/
inductive AppP (x : V) (vs : List V) (H : Hp) (Q : VK) : Prop
  | mk (l : Addr) (xs : List V) (y : V) (e1 : x = .ref l) (e2 : vs = [y]) (h : H l = some (.lst xs)) (z : xs.length < sizeLine) (q : Q .non (upd H l (.lst (xs ++ [y])))) : AppP x vs H Q
def rAppend : V → List V → Hp → VK → Prop := AppP
theorem mt_append : MtM X "list.append" rAppend := by
  intro pins s σ H x vs v us Q I rx rv h
  obtain ⟨l, xs, y, rfl, rfl, hH, hz, q⟩ := h
  cases rx
  obtain ⟨u, rfl, ru⟩ := rv.one
  obtain ⟨z, its, n, r, hl, e⟩ := I.lstM hH
  refine call_meets F.slot_list_append ⟨_, e, rfl⟩ F.entry_list_append (F.args_list_append_2 _ _) (PySem.list_append l its.toArray n u (by rw [List.size_toArray]; omega)) ⟨e, ?_⟩
  refine ⟨.non, _, I.lset (its' := its ++ [u]) hH e (by simp) (r.append (.cons ru .nil)) ?_, rfl, q⟩
  rw [List.length_append, List.length_singleton]
  omega

/-! ### list + list, list += list, list * int -/
/-! ### del xs[i] -/
end

/-! ### xs[a:b] = ys -/
section
variable {prog : Program} {w : World} {A : Around} {E : Value → Shared → Prop} {s : Shared}
end

section
variable {X : Cx}
end
end L2

namespace Att
open PySem PySem.W PySem.Calls PyProof.Rows

/-! ### the script -/
theorem ints_of_wellAll {P : Params} {h : Heap} : ∀ (ns : List Int) (vs : List Value), WellAll P h vs (ns.map WData.int) → IntsAre vs ns := by
  intro ns
  induction ns with
  | nil =>
    intro vs w
    rw [List.map_nil] at w
    cases w
    exact .nil
  | cons n ns ih =>
    intro vs w
    rw [List.map_cons] at w
    cases w with
    | cons a b =>
      cases a
      exact .cons _ _ (ih _ b)

theorem script_of {l : OpenLaw} {n : Nat} (hn : l.most = some n) {P : Params} {h : Heap} {args : List WData} {vals : List Value}
    (hpre : l.row.toRowW.claim.pre args = true) (hwl : WellAll P h vals args) :
    ∃ a vs ns, vals = [Value.ref a] ∧ args = [WData.list (ns.map WData.int)] ∧ h.get? a = some { cls := .type "list", data := .seq vs.toArray } ∧ IntsAre vs ns ∧ ns.length ≤ n := by
  have hsh : WShape.hasAll [] args [.list .int] = true := (pre_splitW hpre).1
  have hc : l.pre.holds [] { args := args } = true := (pre_splitW hpre).2
  obtain ⟨d, r, rfl, h1, h2⟩ := hasAllW_cons hsh
  obtain rfl := hasAllW_nil h2
  obtain ⟨xs, rfl, h3⟩ := hasW_list h1
  obtain ⟨ns, rfl⟩ := items_int h3
  have hlen : ns.length ≤ n := by
    unfold OpenLaw.pre at hc
    have h4 : (WTm.not (.lt (.lit (.int (n : Int))) (.len (.arg 0)))).holds [] { args := [.list (ns.map .int)] } = true := by
      have h4 := (holds_andW hc).1
      rw [hn] at h4
      exact h4
    have h5 := condW_of h4 (w_not (w_lt w_lit (w_len_list (w_arg rfl))))
    rw [List.length_map] at h5
    refine Nat.le_of_not_lt fun q => ?_
    have q' : (n : Int) < ((ns.length : Nat) : Int) := by omega
    first
      | (rw [decide_eq_true q'] at h5; exact absurd h5 (by decide))
      | (simp at h5; omega)
  cases hwl with
  | cons w1 w2 =>
    cases w2
    cases w1 with
    | list ho hall => exact ⟨_, _, ns, rfl, rfl, ho, ints_of_wellAll ns _ hall, hlen⟩

theorem post_true (l : OpenLaw) (args : List WData) : l.row.toRowW.claim.post args (.bool true) args = true :=
  postW_of (r := l.row.toRowW) (X := (true == true))
    (show WShape.has [] (.bool true) .bool = true by first | rfl | decide | simp [WShape.has, WShape.arms, WShape.armsAll])
    (show (WTm.eq .res (.lit (.bool true))).value [] { args := args, res := some (.bool true), after := args } = some (.bool (true == true)) from w_eq_bool (w_res rfl) w_lit) rfl

/-! ### the attachment: holds_open's last premise (the goal 'hc' behind k_head) from a wpAny of the law's body -/
/-- the same from a codeAny of the CALL (for a layer whose function contracts speak of calls) -/
theorem attach_call {l : OpenLaw} {n : Nat} {q : Program} {loose : List Str} {XP : (Str → Option Value) → Heap → Prop} {YP : World → Heap → Prop} {d : DefRec}
    (hn : l.most = some n) (hdf : d.params.defaults = [])
    (call : ∀ (w : World) (s₀ s₁ : Shared) (mg mb : Str → Option Value) (fa : Addr) (o : Obj) (pm cd doc : Value) (a : Addr) (vs : List Value) (ns : List Int),
      Ground q loose [] XP w s₀ mg mb s₁.heap → YP w s₁.heap →
      s₁.heap.get? fa = some o → o.data = .func (docDef d.name d.params d.body d.scope pm cd doc) → s₁.heap.CodeRec cd d.name → mg d.name = some (.ref fa) →
      s₁.heap.get? a = some { cls := .type "list", data := .seq vs.toArray } → IntsAre vs ns → ns.length ≤ n → s₁.gens = #[] →
      codeAny (model l.prog w) callerA (.call (.ref fa) ⟨[.ref a], []⟩) (fun r s' => r = .ok (.ret (.bool true)) ∧ OldK s₁.heap s'.heap ∧ s'.os = s₁.os ∧ AllBare s'.gens) s₁) :
    WalkO q loose XP YP l.row.toRowW d [] (fun f vs => PySem.call f vs) := by
  intro w s₀ s₁ mg mb G Y fa o pm cd doc dV kV ho hd hcd hD hmg hg args vals as hpre hlay hrd hwl hlo
  obtain rfl : dV = .none := Dflts.none hD hdf
  obtain rfl : kV = .none := Dflts.noKw hD
  obtain ⟨a, vs, ns, rfl, rfl, hobj, hints, hlen⟩ := script_of hn hpre hwl
  refine enter_call (codeAny_mono (call w s₀ s₁ mg mb fa o pm cd doc a vs ns G Y ho (fd_plain hd) hcd hmg hobj hints hlen hg) fun r s' hq => ?_)
  obtain ⟨rfl, h2, h3, h4⟩ := hq
  exact ⟨.inl ⟨.bool true, .bool true, [], rfl, fun _ => rfl, .bool true, post_true l _, fun _ => ⟨List.Pairwise.nil, fun _ hm => (nomatch hm)⟩⟩, h2, h3, h4⟩

/-! ### rules over ANY heap (no ledger) from facts about the written part K: the library's own take a ledger (News) for what they write -/
section
variable {prog : Program} {w : World} {A : Around} {E : Value → Shared → Prop} {s : Shared} {K : Frag}

/-! the whole heap as the ledger: makes every rule that writes through a ledger a rule over any heap -/
end
end Att

namespace L2
open PySem PySem.Spec PyProof.Rows

theorem vals_ints : ∀ {vs : List Value} {ns : List Int}, IntsAre vs ns → Vals (ns.map V.int) vs
  | _, _, .nil => .nil
  | _, _, .cons n t h => .cons ⟨t, rfl⟩ (vals_ints h)

/-- nothing is tracked but the script, known to the object (or it is an object of the module) -/
def Only (H : Hp) : Prop := ∀ b, H b = none ∨ ∃ o xs, H b = some (.frz o (.lst xs))

/-- THE HEAD: the law's promise, at the heap behind the top. F, the promise of the law's def, may use that base is part of the heap (so K.In base, base.Ns mainGlobals mg stand in Mod) -/
theorem law_call {P : Program} {w : World} {K : PySem.W.Frag} {mg mb : Str → Option Value} {CX : CXT} {k : Nat} {fa a : Addr} {fd : FuncData} {x : Str} {sp : Sp} {s₁ : Shared} {vs : List Value} {ns : List Int}
    (KX : K.In s₁.heap) (hns : s₁.heap.Ns mainGlobals mg) (hb : s₁.heap.Ns builtinsNs mb) (hbb : ∀ x : Str, x ≠ "__name__" → mb x = bootBuiltins x) (hlim : s₁.heap.NoLimit) (hg : s₁.gens = #[])
    (ha : s₁.heap.get? a = some { cls := .type "list", data := .seq vs.toArray }) (hi : IntsAre vs ns) (hl : ns.length ≤ sizeLine) (hr : Room k callerA)
    (F : ∀ base : Heap, K.In base → base.Ns mainGlobals mg → FnOk P w K mg base CX k fa fd [x] sp) (hbind : ∀ (s : Shared) (u : Value), BindsTo s fd ⟨[u], []⟩ [(x, u)])
    (hsp : ∀ H : Hp, Only H → SqL K H a (ns.map V.int) → sp [.ref a] H (fun v _ => v = .bl true) fun _ _ _ => False)
    (hCX : ∀ H e s', CX [] H s₁ (fun _ _ _ => False) e s' → False) :
    codeAny (model P w) callerA (.call (.ref fa) ⟨[.ref a], []⟩) (fun r s' => r = .ok (.ret (.bool true)) ∧ OldK s₁.heap s'.heap ∧ s'.os = s₁.os ∧ AllBare s'.gens) s₁ := by
  have rv := vals_ints hi
  have lenV := hi.length
  -- from an abstract heap in which nothing but the script may be tracked
  have core : ∀ H : Hp, Only H → SqL K H a (ns.map V.int) → HOk P w H s₁.heap → (∀ b, H b ≠ none → b = a) → (H a ≠ none → K.lookup a = none) →
      codeAny (model P w) callerA (.call (.ref fa) ⟨[.ref a], []⟩) (fun r s' => r = .ok (.ret (.bool true)) ∧ OldK s₁.heap s'.heap ∧ s'.os = s₁.os ∧ AllBare s'.gens) s₁ := by
    intro H hO hS hok hA hK
    have base_of : ∀ {b : Addr} {o : Obj}, s₁.heap.get? b = some o → H b = none → (hidT s₁.heap H).get? b = some o := fun e n => hidT_get e n
    have noA : ∀ {b : Addr} {o : Obj} {es : Array DictEntry} {ep : Nat}, s₁.heap.get? b = some o → o.data = .dict es ep → H b = none := fun {b o es ep} e d => by
      cases q : H b with
      | none => rfl
      | some u =>
        have e' : b = a := hA b (by rw [q]; simp)
        subst e'
        rw [ha] at e; cases e
        have d' : Data.seq vs.toArray _ = Data.dict es ep := d
        cases d'
    have nsK : ∀ {b : Addr} {m : Str → Option Value}, s₁.heap.Ns b m → (hidT s₁.heap H).Ns b m := fun {b m} ⟨o, es, ep, e, d, r⟩ => ⟨o, es, ep, base_of e (noA e d), d, r⟩
    have hKb : K.In (hidT s₁.heap H) := fun b o e => base_of (KX b o e) (by
      cases q : H b with
      | none => rfl
      | some u =>
        have e' : b = a := hA b (by rw [q]; simp)
        subst e'
        rw [hK (by rw [q]; simp)] at e; cases e)
    have hM : Mod K mg (hidT s₁.heap H) := ⟨hKb, nsK hns, ⟨mb, nsK hb, hbb⟩, let ⟨mc, h1, h2⟩ := hlim; ⟨mc, nsK h1, h2⟩⟩
    have e0 : Env0 P w K mg (hidT s₁.heap H) callerA [] s₁ H := ⟨rfl, hM, fun b o e => of_hidT e, Nat.le_of_eq (hidT_size _ _), trivial, fun b hb => absurd (show b ∈ ([] : List Addr) from hb) (by simp), hok, .of_eq hg⟩
    refine codeAny_mono ((F _ hKb (nsK hns)).run callerA [] s₁ H ⟨[.ref a], []⟩ [.ref a] [.ref a] _ _ hr e0 (hbind s₁ (.ref a)) (.cons rfl .nil) (hsp H hO hS)) fun r s' h => ?_
    cases r with
    | error e => exact (hCX H e s' h).elim
    | ok fl =>
      cases fl with
      | next => exact False.elim h
      | brk => exact False.elim h
      | cont => exact False.elim h
      | ret u =>
        obtain ⟨v, H', os, bare, un, hok', r', q⟩ := h
        have q' : v = .bl true := q
        subst q'
        obtain rfl : u = Value.bool true := r'
        refine ⟨rfl, OldK.of_keep fun b o e => ?_, os, bare⟩
        cases q : H b with
        | none => exact un.keep b o e q (by intro z; exact absurd (show b ∈ ([] : List Addr) from z) (by simp)) (by simp)
        | some u =>
          rcases hO b with z | ⟨ob, xs, z⟩
          · rw [q] at z; cases z
          · have z2 := un.frzs b ob _ z
            obtain ⟨e1, _⟩ := hok b _ z
            obtain ⟨e2, _⟩ := hok' b _ z2
            rw [e] at e1; cases e1
            exact e2
  cases hk : K.lookup a with
  | some o =>
    -- the script is one of the module's own objects
    have e := KX a o hk
    rw [ha] at e
    cases e
    refine core (fun _ => none) (fun _ => .inl rfl) (.inr ⟨_, vs.toArray, _, hk, rfl, rfl, rfl, by rw [List.size_toArray, lenV]; exact hl, by simpa using rv⟩) (fun b u z => by have z' : (none : Option HO) = some u := z; cases z') (fun b z => absurd rfl z) fun z => absurd rfl z
  | none =>
    refine core (fun b => if b = a then some (.frz { cls := .type "list", data := .seq vs.toArray } (.lst (ns.map V.int))) else none) (fun b => ?_) (.inl (.inr ⟨{ cls := .type "list", data := .seq vs.toArray }, if_pos rfl⟩)) (fun b u z => ?_) (fun b z => ?_) fun _ => hk
    · by_cases hb : b = a
      · exact .inr ⟨_, _, if_pos hb⟩
      · exact .inl (if_neg hb)
    · by_cases hb : b = a
      · have z' := (if_pos hb).symm.trans z
        cases z'
        subst hb
        exact ⟨ha, by rw [List.length_map]; exact hl, vs, _, rv, ha⟩
      · have z' := (if_neg hb).symm.trans z
        cases z'
    · by_cases hb : b = a
      · exact hb
      · exact absurd (if_neg hb) z
end L2

namespace L2
open PySem PySem.Spec PyProof.Rows

/-- the goal that k_head leaves (case hc), from the law's promise. F gives the function object fd (K's own) once, then the promise over every base -/
theorem walk_of {l : PySem.W.OpenLaw} {n k : Nat} {q : Program} {loose : List Str} {XP : (Str → Option Value) → Heap → Prop} {YP : World → Heap → Prop} {d : DefRec} {K : Params → PySem.W.Frag} {CX : World → CXT} {sp : World → Sp} {x : Str}
    (hn : l.most = some n) (hn2 : n ≤ sizeLine) (hdf : d.params.defaults = []) (hr : Room k callerA)
    (hY : ∀ (w : World) (h : Heap), YP w h → (K w.params).In h)
    (F : ∀ (w : World) (mg : Str → Option Value) (fa : Addr) (h : Heap), (K w.params).In h → h.Ns mainGlobals mg → mg d.name = some (.ref fa) →
      ∃ fd : FuncData, (∀ (s : Shared) (u : Value), BindsTo s fd ⟨[u], []⟩ [(x, u)]) ∧
        ∀ base : Heap, (K w.params).In base → base.Ns mainGlobals mg → FnOk l.prog w (K w.params) mg base (CX w) k fa fd [x] (sp w))
    (hsp : ∀ (w : World) (H : Hp) (a : Addr) (ns : List Int), ns.length ≤ n → Only H → SqL (K w.params) H a (ns.map V.int) → sp w [.ref a] H (fun v _ => v = .bl true) fun _ _ _ => False)
    (hCX : ∀ (w : World) (H : Hp) (s : Shared) (e : Value) (s' : Shared), CX w [] H s (fun _ _ _ => False) e s' → False) :
    PySem.W.WalkO q loose XP YP l.row.toRowW d [] (fun f vs => PySem.call f vs) := by
  refine Att.attach_call hn hdf fun w s₀ s₁ mg mb fa o pm cd doc a vs ns G Y ho hd hcd hmg hobj hints hlen hg => ?_
  have KX := hY w _ Y
  obtain ⟨fd, hb, hF⟩ := F w mg fa _ KX G.T.g hmg
  exact law_call KX G.T.g G.T.b G.T.builtins G.T.nolimit hg hobj hints (Nat.le_trans hlen hn2) hr hF hb (fun H hO hS => hsp w H a ns hlen hO hS) fun H e s' => hCX w H s₁ e s'
end L2



/-! SHORT WORDS over the layer: a def of the text, its body, what a loop and a test want. -/
namespace L2
open PySem PySem.Spec PyProof.Rows

/-! ### the text by places -/
def defArgs (s : Stmt) : Arguments := match s with
  | .FunctionDef _ a _ _ _ _ _ _ _ _ => a
  | _ => { posonlyargs := [], args := [], vararg := none, kwonlyargs := [], kw_defaults := [], kwarg := none, defaults := [] }
def defBody (s : Stmt) : List Stmt := match s with
  | .FunctionDef _ _ b _ _ _ _ _ _ _ => b
  | _ => []
def defScope (s : Stmt) : Scope := match s with
  | .FunctionDef _ _ _ _ _ _ sc _ _ _ => sc
  | _ => { kind := .function, names := [], isGenerator := false, isCoroutine := false }

/-! ### no exception leaves a def -/
abbrev CX0 : CXT := fun _ _ _ _ _ _ => False
abbrev E0 : XK := fun _ _ _ => False
theorem pass0 {X : Cx} : Passes CX0 X E0 := fun _ _ _ _ _ _ _ h => h.elim

/-! ### a def (or method) of the text as it stands behind the top -/
structure Fun (K : PySem.W.Frag) (x qual : Str) (st : Stmt) (f : Addr) (fd : FuncData) : Prop where
  ex : ∃ (oc : Value) (od : Option Addr) (kV doc pm : Value) (an : Option Addr) (cdv ct : Value) (osl : Array (Option Value)),
    fd = PySem.W.fnOf x qual (defArgs st) (defBody st) (defScope st) .none kV doc pm an cdv ct ∧ K.lookup f = some ⟨oc, od, .func fd, osl⟩ ∧ PySem.W.codeIn K cdv qual = true
  kp : PySem.W.keepIn K (.ref f) = true
section
variable {P : Program} {w : World} {K : PySem.W.Frag} {mg : Str → Option Value} {base : Heap}
/-- THE RULE for a def: its body as a term of rules, and the reading of that term -/
theorem Fun.ok {x qual : Str} {st : Stmt} {f : Addr} {fd : FuncData} {N ps : List Str} {k : Nat} {sp : Sp} (F : Fun K x qual st f fd) (S : FnScope N ps (defScope st)) (len : ∀ vs H Q E, sp vs H Q E → vs.length = ps.length)
    (hbody : ∀ (cdv : Value) (A : Around) (outer : List Env) (s : Shared) (H : Hp) (vs : List V) (Q : VK) (E : XK), Room k (A.deeper (envOfC qual (defScope st) s.heap.objs.size f cdv)) → sp vs H Q E →
      ∃ t, PSs (cxOf CX0 P w K mg base N qual (defScope st) f cdv A outer s H E).nox (defBody st) t ∧ t { nx := fun _ H' => Q .non H', rt := Q } (start N vs) H) : FnOk P w K mg base CX0 (k + 1) f fd ps sp := by
  obtain ⟨oc, od, kV, doc, pm, an, cdv, ct, osl, rfl, lk, hcd⟩ := F.ex
  refine fn_of lk hcd S len fun A outer s H vs Q E hr hsp => ?_
  obtain ⟨t, h, q⟩ := hbody cdv A outer s H vs Q E hr hsp
  exact ⟨t, h.nox, q⟩
/-- how its arguments bind (no defaults): h is «fun _ _ _ _ _ _ us hl => match us, hl with | [_, _], _ => rfl», one _ a parameter -/
theorem Fun.binds {x qual : Str} {st : Stmt} {f : Addr} {fd : FuncData} {ps : List Str} (F : Fun K x qual st f fd)
    (h : ∀ (kV doc pm : Value) (an : Option Addr) (cdv ct : Value) (us : List Value), us.length = ps.length → bindArgs (PySem.W.fnOf x qual (defArgs st) (defBody st) (defScope st) .none kV doc pm an cdv ct) ⟨us, []⟩ = pure (ps.zip us)) : Binds K fd ps [] := by
  obtain ⟨oc, od, kV, doc, pm, an, cdv, ct, osl, rfl, lk, hcd⟩ := F.ex
  exact .all (h kV doc pm an cdv ct)
theorem fun_mk {x qual : Str} {st : Stmt} {f : Addr} {oc : Value} {od an : Option Addr} {osl : Array (Option Value)} {kV doc pm cdv ct : Value} (l : K.lookup f = some ⟨oc, od, .func (PySem.W.fnOf x qual (defArgs st) (defBody st) (defScope st) .none kV doc pm an cdv ct), osl⟩)
    (c : PySem.W.codeIn K cdv qual = true) (k : PySem.W.keepIn K (.ref f) = true) : Fun K x qual st f (PySem.W.fnOf x qual (defArgs st) (defBody st) (defScope st) .none kV doc pm an cdv ct) := ⟨⟨oc, od, kV, doc, pm, an, cdv, ct, osl, rfl, l, c⟩, k⟩
end
/-! ### expressions in short: the name that stands in the i-th slot -/
section
variable {X : Cx}
theorem pv (i : Nat) {x : Str} {pos : Pos} (hN : X.N[i]? = some x := by rfl) (hv : Vis X.env.scope x := by first | exact Or.inl rfl | exact Or.inr (Or.inl rfl) | exact Or.inr (Or.inr rfl)) (hd : (x == ("__debug__" : Str)) = false := by decide)
    (hcd : (x == ("__classdict__" : Str)) = false := by decide) : PE X (.Name x pos) (tVar i) := pe_var hN hv hd hcd
end

/-! ### tests -/
theorem iteF {A B : Prop} (h : B) : if false = true then A else B := by
  rw [if_neg Bool.false_ne_true]
  exact h
theorem iteT {A B : Prop} (h : A) : if true = true then A else B := by
  rw [if_pos rfl]
  exact h
theorem ite2 {c A B : Prop} [Decidable c] (h1 : c → A) (h2 : ¬ c → B) : if c then A else B := by
  by_cases h : c
  · rw [if_pos h]
    exact h1 h
  · rw [if_neg h]
    exact h2 h
theorem iteNS {c A B : Prop} [Decidable c] (hc : c) (h : B) : if (!decide c) = true then A else B := by
  rw [decide_eq_true hc]
  exact iteF h

/-! ### heaps -/
/-- all that was tracked is as it was -/
def Same (H H' : Hp) : Prop := ∀ b o, H b = some o → H' b = some o
theorem Same.refl (H : Hp) : Same H H := fun _ _ h => h
theorem Same.trans {H H1 H2 : Hp} (a : Same H H1) (b : Same H1 H2) : Same H H2 := fun c o h => b c o (a c o h)
theorem Same.free {H H' : Hp} (e : Same H H') {l : Addr} (h : H' l = Option.none) : H l = Option.none := by
  cases q : H l with
  | none => rfl
  | some o =>
    rw [e l o q] at h
    cases h
theorem Same.seq {K : PySem.W.Frag} {H H' : Hp} {a : Addr} {xs : List V} (e : Same H H') (h : SqL K H a xs) : SqL K H' a xs := by
  rcases h with (h | ⟨o, h⟩) | h
  · exact .inl (.inl (e _ _ h))
  · exact .inl (.inr ⟨o, e _ _ h⟩)
  · exact .inr h

end L2

namespace L2
open PySem PySem.Spec PyProof.Rows

/-! ### lists of pairs as tables -/
section
variable {κ : Type} [DecidableEq κ]
def valV (kvs : List (κ × V)) (k : κ) : Option V := (kvs.find? fun kv => decide (kv.1 = k)).map (·.2)
/-- in its place, or at the end -/
def putK (kvs : List (κ × V)) (k : κ) (v : V) : List (κ × V) :=
  if (kvs.any fun kv => decide (kv.1 = k)) = true then kvs.map (fun kv => if kv.1 = k then (kv.1, v) else kv) else kvs ++ [(k, v)]
def dropK (kvs : List (κ × V)) (k : κ) : List (κ × V) := kvs.filter fun kv => decide (kv.1 ≠ k)

theorem valV_pos {p : κ × V} {r : List (κ × V)} {k : κ} (e : p.1 = k) : valV (p :: r) k = some p.2 := by simp [valV, List.find?_cons, e]
theorem valV_neg {p : κ × V} {r : List (κ × V)} {k : κ} (e : ¬ p.1 = k) : valV (p :: r) k = valV r k := by simp [valV, List.find?_cons, e]
theorem valV_any (k : κ) : ∀ kvs : List (κ × V), (kvs.any fun kv => decide (kv.1 = k)) = (valV kvs k).isSome
  | [] => rfl
  | p :: r => by
    rw [List.any_cons]
    by_cases e : p.1 = k
    · simp only [valV_pos e, decide_eq_true e, Bool.true_or, Option.isSome_some]
    · rw [valV_neg e, decide_eq_false e, Bool.false_or]; exact valV_any k r
theorem valV_map (k j : κ) (y : V) : ∀ kvs : List (κ × V), valV (kvs.map fun kv => if kv.1 = k then (kv.1, y) else kv) j = (valV kvs j).map fun x => if j = k then y else x
  | [] => rfl
  | p :: r => by
    have ih := valV_map k j y r
    rw [List.map_cons]
    by_cases h : p.1 = k
    · rw [if_pos h]
      by_cases e : p.1 = j
      · rw [valV_pos (p := (p.1, y)) e, valV_pos e, Option.map_some, if_pos (e.symm.trans h)]
      · rw [valV_neg (p := (p.1, y)) e, valV_neg e, ih]
    · rw [if_neg h]
      by_cases e : p.1 = j
      · rw [valV_pos (p := p) e, valV_pos e, Option.map_some, if_neg (fun z => h (e.trans z))]
      · rw [valV_neg (p := p) e, valV_neg e, ih]
theorem valV_snoc (k j : κ) (y : V) : ∀ kvs : List (κ × V), valV kvs k = none → valV (kvs ++ [(k, y)]) j = if j = k then some y else valV kvs j
  | [], _ => by
    by_cases e : k = j
    · rw [if_pos e.symm]; exact valV_pos (p := (k, y)) e
    · rw [if_neg (fun z => e z.symm)]; exact valV_neg (p := (k, y)) e
  | p :: r, hn => by
    rw [List.cons_append]
    have hk : ¬ p.1 = k := fun z => by rw [valV_pos z] at hn; cases hn
    rw [valV_neg hk] at hn
    have ih := valV_snoc k j y r hn
    by_cases e : p.1 = j
    · rw [valV_pos e, valV_pos e, if_neg (fun z => hk (e.trans z))]
    · rw [valV_neg e, valV_neg e, ih]
theorem valV_put (kvs : List (κ × V)) (k j : κ) (y : V) : valV (putK kvs k y) j = if j = k then some y else valV kvs j := by
  unfold putK
  by_cases a : (kvs.any fun kv => decide (kv.1 = k)) = true
  · rw [if_pos a, valV_map]
    rw [valV_any] at a
    by_cases e : j = k
    · obtain ⟨x, hx⟩ := Option.isSome_iff_exists.mp a
      rw [if_pos e, e, hx, Option.map_some, if_pos rfl]
    · rw [if_neg e]
      cases valV kvs j with
      | none => rfl
      | some x => rw [Option.map_some, if_neg e]
  · rw [if_neg a]
    refine valV_snoc k j y kvs ?_
    rw [valV_any] at a
    cases q : valV kvs k with
    | none => rfl
    | some x => rw [q] at a; exact (a rfl).elim
theorem RelO.getD {o : Option V} {u : Option Value} {d : V} {d' : Value} (r : RelO o u) (rd : RelV d d') : RelV (o.getD d) (u.getD d') := by
  cases o with
  | none => cases u with
    | none => exact rd
    | some _ => exact (show False from r).elim
  | some _ => cases u with
    | none => exact (show False from r).elim
    | some _ => exact r

theorem KV.any {kvs : List (κ × V)} {vs : List (κ × Value)} (r : KV kvs vs) (k : κ) : (kvs.any fun kv => decide (kv.1 = k)) = vs.any fun kv => decide (kv.1 = k) := by
  unfold KV at r
  induction r with
  | nil => rfl
  | cons h t ih => rw [List.any_cons, List.any_cons, ih, h.1]
theorem KV.drop {kvs : List (κ × V)} {vs : List (κ × Value)} (r : KV kvs vs) (k : κ) : KV (dropK kvs k) (without vs k) := by
  unfold KV at r ⊢
  unfold dropK without
  induction r with
  | nil => exact .nil
  | @cons p q ps qs h t ih =>
    obtain ⟨h1, h2⟩ := h
    rw [List.filter_cons, List.filter_cons]
    by_cases e : p.1 = k
    · have a : ¬ decide (p.1 ≠ k) = true := by simp [e]
      have b : ¬ decide (q.1 ≠ k) = true := by simp [h1.symm.trans e]
      rw [if_neg a, if_neg b]; exact ih
    · have e' : ¬ q.1 = k := fun z => e (h1.trans z)
      have a : decide (p.1 ≠ k) = true := by simp [e]
      have b : decide (q.1 ≠ k) = true := by simp [e']
      rw [if_pos a, if_pos b]; exact .cons ⟨h1, h2⟩ ih
theorem KV.length {kvs : List (κ × V)} {vs : List (κ × Value)} (r : KV kvs vs) : kvs.length = vs.length := Paired.length r
end


/-! ### a tracked dict, its keys ints and texts or tuples of these -/
/-- raw entries of a dict with tuple keys -/
abbrev KT (H : Hp) : List (List Key × V) → List (List Key × Addr × Value) → Prop := Paired fun p q => p.1 = q.1 ∧ H q.2.1 = some (.tup (p.1.map kV)) ∧ RelV p.2 q.2.2
theorem KT.keeps {H H' : Hp} {kvs : List (List Key × V)} {xs : List (List Key × Addr × Value)} (r : KT H kvs xs) (ht : ∀ b ys, H b = some (.tup ys) → H' b = some (.tup ys)) : KT H' kvs xs :=
  Paired.mapP r fun _ _ z => ⟨z.1, ht _ _ z.2.1, z.2.2⟩

section
variable {P : Program} {w : World} {H : Hp} {h : Heap} {a : Addr}
end

/-- what the dict at a holds at the key y -/
def DGet (H : Hp) (a : Addr) (y : V) (r : Option V) : Prop :=
  (∃ kvs k, Rd H a (.dK kvs) ∧ y = kV k ∧ r = valV kvs k) ∨ ∃ kvs k b, Rd H a (.dT kvs) ∧ y = .ref b ∧ H b = some (.tup (k.map kV)) ∧ r = valV kvs k
/-- the heap behind a[y] = v -/
def DPut (H : Hp) (a : Addr) (y v : V) (H' : Hp) : Prop :=
  (∃ kvs k, H a = some (.dK kvs) ∧ y = kV k ∧ kvs.length < sizeLine ∧ H' = upd H a (.dK (putK kvs k v))) ∨
  ∃ kvs k b, H a = some (.dT kvs) ∧ y = .ref b ∧ H b = some (.tup (k.map kV)) ∧ kvs.length < sizeLine ∧ H' = upd H a (.dT (putK kvs k v))
theorem DGet.k {H : Hp} {a : Addr} {kvs : List (Key × V)} {k : Key} (e : H a = some (.dK kvs)) : DGet H a (kV k) (valV kvs k) := .inl ⟨kvs, k, .inl e, rfl, rfl⟩
theorem DGet.t {H : Hp} {a b : Addr} {kvs : List (List Key × V)} {k : List Key} (e : H a = some (.dT kvs)) (eb : H b = some (.tup (k.map kV))) : DGet H a (.ref b) (valV kvs k) := .inr ⟨kvs, k, b, .inl e, rfl, eb, rfl⟩
theorem DPut.k {H : Hp} {a : Addr} {kvs : List (Key × V)} {k : Key} {v : V} (e : H a = some (.dK kvs)) (hl : kvs.length < sizeLine) : DPut H a (kV k) v (upd H a (.dK (putK kvs k v))) := .inl ⟨kvs, k, e, rfl, hl, rfl⟩
theorem DPut.t {H : Hp} {a b : Addr} {kvs : List (List Key × V)} {k : List Key} {v : V} (e : H a = some (.dT kvs)) (eb : H b = some (.tup (k.map kV))) (hl : kvs.length < sizeLine) :
    DPut H a (.ref b) v (upd H a (.dT (putK kvs k v))) := .inr ⟨kvs, k, b, e, rfl, eb, hl, rfl⟩


section
variable {X : Cx} {pins : List (Addr × Obj)} {σ : St} {H : Hp} {s : Shared} {a : Addr} {y v : V} {u r : Value} {o : Option V} {A : Around} {E : Value → Shared → Prop}

end

section
variable {X : Cx} {pins : List (Addr × Obj)} {σ : St} {H : Hp} {s : Shared} {a : Addr} {kvs : List (Key × V)} {k : Key} {u : Value} {A : Around} {E : Value → Shared → Prop}
end


/-! ### readings and rules -/
section
variable {X : Cx} {o i e value : Expr} {pos pos' tpos : Pos} {td ty tv : TE}
end


/-! ### displays -/
section
variable {X : Cx} {pos : Pos}
end

/-! ### methods -/
/-- a method call o.m(e) of a built-in, with one argument: what must be seen of the text -/
structure M1 (X : Cx) (o : Expr) (m : Str) (apos : Pos) (e : Expr) (cpos : Pos) : Prop where
  base : attributeBase o m X.env (eval o X.env) = eval o X.env
  few : ((backTo cpos (starEach [e] X.env)).all (fun x => !x.1) && (backToKw cpos (keywordEach [] X.env)).all (fun x => x.1.isSome)
    && decide (([e] : List Expr).length + ([] : List Keyword).length + (if ([] : List Keyword).isEmpty then 0 else 1) < 30)) = true
  line : (apos.endLine == cpos.line) = true
  trees : backTo cpos (starEach [e] X.env) = [(false, eval e X.env)]
structure M2 (X : Cx) (o : Expr) (m : Str) (apos : Pos) (e f : Expr) (cpos : Pos) : Prop where
  base : attributeBase o m X.env (eval o X.env) = eval o X.env
  few : ((backTo cpos (starEach [e, f] X.env)).all (fun x => !x.1) && (backToKw cpos (keywordEach [] X.env)).all (fun x => x.1.isSome)
    && decide (([e, f] : List Expr).length + ([] : List Keyword).length + (if ([] : List Keyword).isEmpty then 0 else 1) < 30)) = true
  line : (apos.endLine == cpos.line) = true
  trees : backTo cpos (starEach [e, f] X.env) = [(false, eval e X.env), (false, eval f X.env)]

section
variable {X : Cx} {pins : List (Addr × Obj)} {σ : St} {H : Hp} {s : Shared} {a : Addr} {y d : V} {u r : Value} {o : Option V} {A : Around} {E : Value → Shared → Prop}
end

section
variable {X : Cx} {o e f : Expr} {apos cpos : Pos} {td ty tx : TE}
end

/-! ### dict(d): a copy -/
section
variable {X : Cx} {pins : List (Addr × Obj)} {σ : St} {H : Hp} {s : Shared} {a : Addr} {kvs : List (Key × V)} {A : Around} {E : Value → Shared → Prop}
end


section
variable {X : Cx} {pins : List (Addr × Obj)} {σ : St} {H : Hp} {s : Shared} {a : Addr} {y : V} {u : Value} {A : Around} {E : Value → Shared → Prop}
end
end L2

namespace L2
open PySem PySem.Spec PyProof.Rows
section
variable {X : Cx}
end
/-! ### a dict's pairs: keys that differ -/
section
variable {κ : Type} [DecidableEq κ]
end
end L2

/-! own rules over the hand layer: list comprehensions, enumerate, == of lists and tuples, isinstance -/
namespace L2
open PySem PySem.Spec PyProof.Rows

/-! ### comprehensions -/
/-- the cells that a comprehension's block takes along -/
def clOf (env : Env) : List (Str × NameKind) → List (Str × Addr) → List (Str × Addr)
  | [], acc => acc
  | (n, k) :: r, acc => if k = .free then (match env.cells.lookup n with | some a => clOf env r ((n, a) :: acc) | none => clOf env r acc) else clOf env r acc
theorem clOf_sub {env : Env} : ∀ {names : List (Str × NameKind)} {acc : List (Str × Addr)} {x : Str} {c : Addr}, (clOf env names acc).lookup x = some c → acc.lookup x = some c ∨ env.cells.lookup x = some c
  | [], _, _, _, h => .inl h
  | (n, k) :: r, acc, x, c, h => by
    unfold clOf at h
    by_cases hk : k = .free
    · rw [if_pos hk] at h
      cases e : env.cells.lookup n with
      | none => rw [e] at h; exact clOf_sub h
      | some a =>
        rw [e] at h
        rcases clOf_sub h with q | q
        · rw [List.lookup_cons] at q
          cases hx : x == n with
          | true =>
            rw [hx] at q
            have hx' : x = n := eq_of_beq hx
            exact .inr (by rw [hx', e]; exact q)
          | false => rw [hx] at q; exact .inl q
        · exact .inr q
    · rw [if_neg hk] at h; exact clOf_sub h
theorem clOf_keep {env : Env} {x : Str} : ∀ {names : List (Str × NameKind)} {acc : List (Str × Addr)}, (∃ c, acc.lookup x = some c) → ∃ c, (clOf env names acc).lookup x = some c
  | [], _, h => h
  | (n, k) :: r, acc, h => by
    unfold clOf
    by_cases hk : k = .free
    · rw [if_pos hk]
      cases e : env.cells.lookup n with
      | none => exact clOf_keep h
      | some a =>
        refine clOf_keep ?_
        rw [List.lookup_cons]
        cases hx : x == n with
        | true => exact ⟨a, rfl⟩
        | false => exact h
    · rw [if_neg hk]; exact clOf_keep h
theorem clOf_has {env : Env} {x : Str} : ∀ {names : List (Str × NameKind)} {acc : List (Str × Addr)}, names.lookup x = some .free → (∃ c, env.cells.lookup x = some c) → ∃ c, (clOf env names acc).lookup x = some c
  | [], _, h, _ => by cases h
  | (n, k) :: r, acc, h, hc => by
    unfold clOf
    rw [List.lookup_cons] at h
    cases hx : x == n with
    | true =>
      rw [hx] at h
      have hk : k = .free := Option.some.inj h
      have hn : x = n := eq_of_beq hx
      obtain ⟨c, e⟩ := hc
      rw [if_pos hk, ← hn, e]
      refine clOf_keep ⟨c, ?_⟩
      rw [List.lookup_cons, beq_self_eq_true]
    | false =>
      rw [hx] at h
      by_cases hk : k = .free
      · rw [if_pos hk]
        cases e : env.cells.lookup n with
        | none => exact clOf_has h hc
        | some a => exact clOf_has h hc
      · rw [if_neg hk]; exact clOf_has h hc
theorem relab_free {env : Env} : ∀ {names : List (Str × NameKind)} {x : Str}, names.lookup x = some .free →
    (names.map fun (n, k) => if (k == NameKind.free && env.scope.kind == .function && env.kindOf n == some .cell) then (n, NameKind.cell) else (n, k)).lookup x = some .free ∨
    (names.map fun (n, k) => if (k == NameKind.free && env.scope.kind == .function && env.kindOf n == some .cell) then (n, NameKind.cell) else (n, k)).lookup x = some .cell
  | [], _, h => by simp at h
  | (n, k) :: r, x, h => by
    have ih := @relab_free env r x
    show List.lookup x ((if (k == NameKind.free && env.scope.kind == .function && env.kindOf n == some .cell) = true then (n, NameKind.cell) else (n, k)) :: _) = _ ∨
      List.lookup x ((if (k == NameKind.free && env.scope.kind == .function && env.kindOf n == some .cell) = true then (n, NameKind.cell) else (n, k)) :: _) = _
    cases hx : x == n with
    | true =>
      simp only [List.lookup_cons, hx] at h
      cases h
      by_cases hc : (NameKind.free == NameKind.free && env.scope.kind == .function && env.kindOf n == some .cell) = true
      · rw [if_pos hc]; exact .inr (by simp only [List.lookup_cons, hx])
      · rw [if_neg hc]; exact .inl (by simp only [List.lookup_cons, hx])
    | false =>
      simp only [List.lookup_cons, hx] at h
      by_cases hc : (k == NameKind.free && env.scope.kind == .function && env.kindOf n == some .cell) = true
      · rw [if_pos hc]; simp only [List.lookup_cons, hx]; exact ih h
      · rw [if_neg hc]; simp only [List.lookup_cons, hx]; exact ih h
/-- a cell or free name of the relabelled scope was free (no cells of the block's own) -/
theorem relab_of {env : Env} : ∀ {names : List (Str × NameKind)} {x : Str} {k' : NameKind}, (∀ y ∈ names, y.2 ≠ .cell) → (k' = .cell ∨ k' = .free) →
    (names.map fun (n, k) => if (k == NameKind.free && env.scope.kind == .function && env.kindOf n == some .cell) then (n, NameKind.cell) else (n, k)).lookup x = some k' → names.lookup x = some .free
  | [], _, _, _, _, h => by simp at h
  | (n, k) :: r, x, k', hn, hk, h => by
    have ih := @relab_of env r x k' (fun y hy => hn y (List.mem_cons_of_mem _ hy)) hk
    replace h : List.lookup x ((if (k == NameKind.free && env.scope.kind == .function && env.kindOf n == some .cell) = true then (n, NameKind.cell) else (n, k)) :: r.map fun (n, k) => if (k == NameKind.free && env.scope.kind == .function && env.kindOf n == some .cell) then (n, NameKind.cell) else (n, k)) = some k' := h
    cases hx : x == n with
    | true =>
      simp only [List.lookup_cons, hx]
      by_cases hc : (k == NameKind.free && env.scope.kind == .function && env.kindOf n == some .cell) = true
      · have : k = .free := by
          simp only [Bool.and_eq_true] at hc
          exact eq_of_beq hc.1.1
        rw [this]
      · rw [if_neg hc] at h
        simp only [List.lookup_cons, hx] at h
        have e : k = k' := Option.some.inj h
        rcases hk with z | z
        · exact absurd (e.trans z) (hn (n, k) List.mem_cons_self)
        · rw [e, z]
    | false =>
      simp only [List.lookup_cons, hx]
      by_cases hc : (k == NameKind.free && env.scope.kind == .function && env.kindOf n == some .cell) = true
      · rw [if_pos hc] at h; simp only [List.lookup_cons, hx] at h; exact ih h
      · rw [if_neg hc] at h; simp only [List.lookup_cons, hx] at h; exact ih h

/-- the context of a comprehension's block: vs its own names, js the slots of the names that it takes along -/
def cxLc (X : Cx) (vs : List Str) (js : List Nat) (scope : Scope) (C : Addr) (s₀ : Shared) (H₀ : Hp) (ex : List Addr) : Cx where
  prog := X.prog
  w := X.w
  K := X.K
  mg := X.mg
  base := X.base
  A := X.A
  N := vs ++ js.map fun j => X.N.getD j Str.empty
  s₀ := s₀
  H₀ := H₀
  env := compEnvC scope (clOf X.env scope.names []) C X.env
  outer := X.stack
  stack := X.stack
  ex := ex
  fn := fun _ => false
  calm := X.calm
  pn := X.pn
  xe := fun _ _ => False
def stLc (vs : List Str) (js : List Nat) (σ : St) : St := vs.map (fun _ => none) ++ js.map fun j => σ.getD j none

/-- the tests of a clause -/
def PTs (X : Cx) (ifs : List Expr) (t : TT) : Prop :=
  ∀ (pins : List (Addr × Obj)) (s : Shared) (σ : St) (H : Hp) (Q : Bool → Hp → Prop), Inv X pins σ H s → t σ H Q →
    wpAny (model X.prog X.w) X.A (forIn ifs true fun c r => if r = true then do let ok ← isTrue c X.env (eval c X.env); pure (ForInStep.yield ok) else pure (ForInStep.yield r)) (TP X pins σ Q) X.xe s
def tTrue : TT := fun _ H Q => Q true H
theorem pts_nil {X : Cx} : PTs X [] tTrue := fun _ _ _ H _ I h => wpAny_tests_nil ⟨H, I, h⟩
section
variable {prog : Program} {w : World} {A : Around} {R : Result → Shared → Prop} {s : Shared}
theorem compLoop_any {elt target iter : Expr} {ifs : List Expr} {scope : Scope} {pos : Pos} {it acc : Value} {env : Env} (I : Nat → Shared → Prop)
    (turn : ∀ n s, I n s → wpAny (model prog w) A (pyNext it) (fun r s₁ => match r with
      | none => R (.ok .next) s₁
      | some v => wpAny (model prog w) A (letOwnedTupleGo target it v) (fun _ s₁' => wpAny (model prog w) A (assign target env v) (fun _ s₂ =>
          wpAny (model prog w) A (forIn ifs true fun c r => if r = true then do let ok ← isTrue c env (eval c env); pure (ForInStep.yield ok) else pure (ForInStep.yield r)) (fun ok s₃ =>
            if ok = true then wpAny (model prog w) A (eval elt env) (fun x s₄ =>
              wpAny (model prog w) A (call (.builtin "list.append") [acc, x]) (fun _ s₅ => ∃ m, m < n ∧ I m s₅) (fun _ _ => False) s₄) (fun _ _ => False) s₃
            else ∃ m, m < n ∧ I m s₃) (fun _ _ => False) s₂) (fun _ _ => False) s₁') (fun _ _ => False) s₁) (fun _ _ => False) s)
    (n : Nat) (h : I n s) : codeAny (model prog w) A (.compLoop (.ListComp elt [⟨target, iter, ifs, 0⟩] scope pos) 0 it acc env) R s := by
  refine codeAny_loop rfl I (fun n s hI => ?_) n h
  show wpAny _ A ((compTurn (.ListComp elt [⟨target, iter, ifs, 0⟩] scope pos) 0 it acc env).onRaise (fun x => do noteFrame x env; theTreesLotGoes x)) _ _ s
  refine wpAny_noted ?_
  rw [compTurn_list]
  refine wpAny_bind (wpAny_standAt (wpAny_bind (wpAny_mono (turn n s hI) (fun r s₁ h₁ => ?_) fun _ _ h' => h'.elim)))
  cases r with
  | none => exact wpAny_pure h₁
  | some v =>
    refine wpAny_bind (wpAny_mono h₁ (fun _ s₁' h₁' => ?_) fun _ _ h' => h'.elim)
    refine wpAny_bind (wpAny_mono h₁' (fun _ s₂ h₂ => wpAny_bind (wpAny_mono h₂ (fun ok s₃ h₃ => ?_) fun _ _ h' => h'.elim)) fun _ _ h' => h'.elim)
    cases ok with
    | false => exact wpAny_pure ⟨rfl, h₃⟩
    | true =>
      exact wpAny_bind (wpAny_bind (wpAny_mono h₃ (fun x s₄ h₄ => wpAny_bind (wpAny_mono h₄ (fun _ s₅ h₅ => wpAny_pure (wpAny_pure ⟨rfl, h₅⟩)) fun _ _ h' => h'.elim)) fun _ _ h' => h'.elim))
end

/-- what a loop of a comprehension wants: D the new list; W: turn, its items, the block's names, heap -/
def LcW (J : It) (g : TG) (tt : TT) (te : TE) (D : Addr) (τ : St) (H : Hp) (Q : Hp → Prop) : Prop :=
  ∃ (n : Nat) (W : Nat → List V → St → Hp → Prop), W 0 [] τ (upd H D (.lst [])) ∧ ∀ i ys τ H, W i ys τ H → H D = some (.lst ys) ∧ i ≤ n ∧
    ((J.stop i H ∧ Q H) ∨ (J.go i H ∧ ∀ x H', J.yld i H x H' → g x τ H' fun τ2 H2 => tt τ2 H2 fun b H3 =>
      if b = true then te τ2 H3 fun v H4 => H4 D = some (.lst ys) ∧ ys.length < sizeLine ∧ W (i + 1) (ys ++ [v]) τ2 (upd H4 D (.lst (ys ++ [v]))) else W (i + 1) ys τ2 H3))

section
variable {X : Cx}
theorem lc_run {tg iter elt : Expr} {ifs : List Expr} {scope : Scope} {pos : Pos} {vs : List Str} {js : List Nat} {g : TG} {tt : TT} {te : TE} {pins : List (Addr × Obj)} {s2 : Shared} {σ : St} {H2 : Hp} {it : Addr} {fp : List Addr} {tn : Nat → Heap → Prop} {J : It}
    (I2 : Inv X pins σ H2 s2) (T : Turn X.prog X.w X.K tg J fp it tn) (st : tn 0 s2.heap) (f2 : ∀ b ∈ fp, FpOk X pins H2 b) (hc : X.calm = true) (hkind : scope.kind = .function) (hcell : ∀ y ∈ scope.names, y.2 ≠ .cell)
    (hfc : ∀ y ∈ scope.names, y.2 = .free → X.env.kindOf y.1 = some .cell ∨ X.env.kindOf y.1 = some .free) (hvs : ∀ x ∈ vs, scope.names.lookup x = some .local)
    (hcap : ∀ j ∈ js, scope.names.lookup (X.N.getD j Str.empty) = some .free)
    (hY : ∀ C s0 H0, PG (cxLc X vs js scope C s0 H0 fp) tg g ∧ PTs (cxLc X vs js scope C s0 H0 fp) ifs tt ∧ PE (cxLc X vs js scope C s0 H0 fp) elt te)
    {Q : Addr → Hp → Prop} (hW : ∀ D, H2 D = none → LcW J g tt te D (stLc vs js σ) H2 (Q D)) {E : Value → Shared → Prop} {RR : Value → Addr → Result → Shared → Prop}
    (fin : ∀ D C Hf s' m, Inv X pins σ Hf s' → s'.heap.Ns C m → Hf C = none → C ≠ X.env.locals → X.s₀.heap.objs.size ≤ C → (∀ x c, X.env.cells.lookup x = some c → c ≠ C) → (∀ p ∈ X.pn ++ pins, p.1 ≠ C) → Q D Hf → RR (.ref D) C (.ok .next) s') :
    wpAny (model X.prog X.w) X.A (newList []) (fun acc s₃ => wpAny (model X.prog X.w) X.A (newFunctionEnv scope X.env.globals (clOf X.env scope.names []) [] X.env.qual none .none (some X.env)) (fun cenv s₄ =>
      codeAny (model X.prog X.w) X.A (.compStart (.ListComp elt [⟨tg, iter, ifs, 0⟩] scope pos) 0 (.ref it) acc { cenv with scope := relabel scope X.env }) (RR acc cenv.locals) s₄) E s₃) E s2 := by
  refine wpAny_newObj_type (wpAny_newFunctionEnv hcell (by intro y hy; simp at hy) (fun h₁ hns₁ hsb₁ => ?_) hkind)
  have I3 : Inv X pins σ (upd H2 s2.heap.objs.size (.lst [])) { s2 with heap := s2.heap.push { cls := .type "list", data := .seq ([] : List Value).toArray }, toks := s2.toks } := I2.lnew (its := []) .nil (Nat.zero_le _)
  have wD := hW s2.heap.objs.size I2.fresh
  generalize hD : s2.heap.objs.size = D at *
  obtain ⟨n, W, w0, turn⟩ := wD
  generalize hS3 : ({ s2 with heap := s2.heap.push { cls := .type "list", data := .seq ([] : List Value).toArray }, toks := s2.toks } : Shared) = s3 at *
  have e3 : s3.heap = s2.heap.push { cls := .type "list", data := .seq ([] : List Value).toArray } := by rw [← hS3]
  generalize hCs : s3.heap.objs.size = C at *
  have old : ∀ b o, s3.heap.get? b = some o → h₁.get? b = some o := fun b o e => by
    have hb : b ≠ C := by rw [← hCs]; exact Nat.ne_of_lt (Heap.lt_size e)
    exact hsb₁.extBut b o hb (Heap.get?_push_of_some _ e)
  have I4 : Inv X pins σ (upd H2 D (.lst [])) { s3 with heap := h₁, toks := s3.toks } := I3.kept old
  have hCX : X.env.locals ≠ C := by rw [← hCs]; exact Nat.ne_of_lt I3.lt
  have hCs0 : X.s₀.heap.objs.size ≤ C := by rw [← hCs]; exact I3.sz
  have cellLt : ∀ x c, X.env.cells.lookup x = some c → c < s3.heap.objs.size := fun x c e => by
    obtain ⟨v, o, ho, _⟩ := I3.cell x c e
    exact Heap.lt_size ho
  have cellNe : ∀ x c, X.env.cells.lookup x = some c → c ≠ C := fun x c e => by rw [← hCs]; exact Nat.ne_of_lt (cellLt x c e)
  have fpLt : ∀ b ∈ fp, b < s3.heap.objs.size := fun b hb => by
    obtain ⟨o, e, _⟩ := T.obj _ _ st b hb
    rw [e3, Heap.size_push]
    exact Nat.lt_succ_of_lt (Heap.lt_size e)
  have pinLt : ∀ p ∈ X.pn ++ pins, p.1 < s3.heap.objs.size := fun p hp => Heap.lt_size (I3.pin p hp).1
  have hH1C : (upd H2 D (.lst [])) C = none := by
    rw [← hCs]; exact I3.fresh
  have fp1 : ∀ b ∈ fp, (upd H2 D (.lst [])) b = none := fun b hb => by
    obtain ⟨o, e, _⟩ := T.obj _ _ st b hb
    rw [upd_ne (by rw [← hD]; exact Nat.ne_of_lt (Heap.lt_size e))]
    exact (f2 b hb).1
  have okY : (cxLc X vs js scope C s3 (upd H2 D (.lst [])) fp).Ok := by
    refine ⟨I2.ok.mod, hkind, I2.ok.glob, I2.ok.blt, Nat.le_of_eq hCs, fun x y c e1 e2 => ?_, fun x hx => ?_, (fun x c z => nomatch z), I2.ok.hd, I2.ok.frames, .inl rfl, fun b hb => ⟨?_, fun x c e => ?_⟩, fun b o e => I3.bs b o e, Nat.le_trans I2.ok.bsz I3.sz, fun b o e hb => ?_, fun b hb hs => ?_, I3.stack, I3.stkFree⟩
    · rcases clOf_sub e1 with z | z
      · cases z
      · rcases clOf_sub e2 with z' | z'
        · cases z'
        · exact I2.ok.inj x y c z z'
    · have hf : scope.names.lookup x = some .free := by
        rcases hx with hx | hx
        · exact relab_of hcell (.inl rfl) hx
        · exact relab_of hcell (.inr rfl) hx
      refine clOf_has hf ?_
      exact I2.ok.has x (hfc (x, .free) (by
        have := List.lookup_eq_some_iff.mp hf
        obtain ⟨l1, l2, e, _⟩ := this
        rw [e]; simp) rfl)
    · exact fun e => absurd (fpLt b hb) (by rw [e, hCs]; exact Nat.lt_irrefl _)
    · rcases clOf_sub e with z | z
      · cases z
      · exact (f2 b hb).2.2.2.2.1 x c z
    · rcases (f2 b hb).2.2.2.1 with z | z
      · exact I2.ok.noex b o e z
      · exact absurd (Nat.lt_of_lt_of_le (Heap.lt_size e) (Nat.le_trans I2.ok.bsz z)) (Nat.lt_irrefl _)
    · rcases List.mem_cons.mp (I3.stkSub b hs) with z | z
      · exact (f2 b hb).2.1 z
      · exact (f2 b hb).2.2.1 z
  have I5 : Inv (cxLc X vs js scope C s3 (upd H2 D (.lst [])) fp) pins (stLc vs js σ) (upd H2 D (.lst [])) { s3 with heap := h₁, toks := s3.toks } := by
    refine ⟨okY, rfl, I3.bare, Un.kept old, ⟨_, hns₁, fun i x v e1 e2 e3' => ?_⟩, fun x c e => ?_, hH1C, fun x c e => ?_, fun p hp => ?_, I4.hok, ?_⟩
    · -- the names that are taken along
      obtain ⟨m, hm, hl⟩ := I4.loc
      by_cases hi : i < vs.length
      · exfalso
        have : (stLc vs js σ)[i]? = some none := by
          unfold stLc
          rw [List.getElem?_append_left (by simpa using hi)]
          simp [hi]
        rw [this] at e2; cases e2
      · have hi' : vs.length ≤ i := Nat.le_of_not_lt hi
        have e1' : (js.map fun j => X.N.getD j Str.empty)[i - vs.length]? = some x := by
          have := e1
          show _ = _
          rw [← this]
          exact (List.getElem?_append_right hi').symm
        have e2' : (js.map fun j => σ.getD j none)[i - vs.length]? = some (some v) := by
          rw [← e2]
          unfold stLc
          rw [List.getElem?_append_right (by simpa using hi')]
          simp
        rw [List.getElem?_map] at e1' e2'
        cases ej : js[i - vs.length]? with
        | none => rw [ej] at e1'; cases e1'
        | some j =>
          rw [ej] at e1' e2'
          have e1'' : X.N.getD j Str.empty = x := Option.some.inj e1'
          have e2'' : σ.getD j none = some v := Option.some.inj e2'
          have hjs : j ∈ js := List.mem_of_getElem? ej
          have hσ : σ[j]? = some (some v) := by
            rw [List.getD_eq_getElem?_getD] at e2''
            cases q : σ[j]? with
            | none => rw [q] at e2''; cases e2''
            | some o => rw [q] at e2''; exact congrArg some e2''
          have hjl : j < X.N.length := by rw [← I2.len]; exact (List.getElem?_eq_some_iff.mp hσ).1
          have hN : X.N[j]? = some x := by
            rw [List.getD_eq_getElem?_getD] at e1''
            cases q : X.N[j]? with
            | none => rw [List.getElem?_eq_none_iff] at q; exact absurd hjl (Nat.not_lt.mpr q)
            | some o => rw [q] at e1''; exact congrArg some e1''
          have hf : scope.names.lookup x = some .free := by rw [← e1'']; exact hcap j hjs
          have hk := hfc (x, .free) (by
            obtain ⟨l1, l2, e, _⟩ := List.lookup_eq_some_iff.mp hf
            rw [e]; simp) rfl
          obtain ⟨u, ru, lk⟩ := hl j x v hN hσ (by
            rcases hk with z | z
            · exact .inr (.inl z)
            · exact .inr (.inr z))
          refine ⟨u, ru, .inr ⟨?_, ?_⟩⟩
          · rcases relab_free (env := X.env) hf with z | z
            · exact .inr z
            · exact .inl z
          · rcases lk with ⟨z, _⟩ | ⟨_, c, e, z⟩
            · rcases hk with q | q <;> (rw [show X.env.kindOf x = some .local from z] at q; cases q)
            · obtain ⟨c', e'⟩ := clOf_has (env := X.env) (acc := []) hf ⟨c, e⟩
              have : c' = c := by
                rcases clOf_sub e' with q | q
                · cases q
                · rw [e] at q; exact (Option.some.inj q).symm
              exact ⟨c, by rw [← this]; exact e', z⟩
    · rcases clOf_sub e with z | z
      · cases z
      · exact I4.cell x c z
    · rcases clOf_sub e with z | z
      · cases z
      · exact I4.freeC x c z
    · obtain ⟨q1, q2, q3, q4, q5⟩ := I4.pin p hp
      refine ⟨q1, q2, ?_, fun z => ?_, q5⟩
      · rw [show (cxLc X vs js scope C s3 (upd H2 D (.lst [])) fp).env.locals = C from rfl, ← hCs]
        exact Nat.ne_of_lt (pinLt p hp)
      · rcases List.mem_cons.mp (I3.stkSub p.1 z) with y | y
        · exact q3 y
        · exact q4 y
    · show (stLc vs js σ).length = (vs ++ js.map fun j => X.N.getD j Str.empty).length
      unfold stLc
      simp
  -- the loop
  have stat : ∀ {H' : Hp}, (∀ b ∈ fp, H' b = none) → ∀ b ∈ fp, FpOk (cxLc X vs js scope C s3 (upd H2 D (.lst [])) fp) pins H' b := fun hn b hb =>
    ⟨hn b hb, (okY.exf b hb).1, okY.exfs b hb, .inl hb, (okY.exf b hb).2, fun p hp => (f2 b hb).2.2.2.2.2 p hp⟩
  have st1 : tn 0 h₁ := T.keep _ _ _ st fun b hb o e => old b o (by rw [e3]; exact Heap.get?_push_of_some _ e)
  obtain ⟨hG, hT, hE⟩ := hY C s3 (upd H2 D (.lst []))
  have loop : codeAny (model X.prog X.w) X.A (.compLoop (.ListComp elt [⟨tg, iter, ifs, 0⟩] scope pos) 0 (.ref it) (.ref D) (compEnvC scope (clOf X.env scope.names []) C X.env)) (RR (.ref D) C) { s3 with heap := h₁, toks := s3.toks } := by
    refine compLoop_any (fun k s' => ∃ i ys τ H', Inv (cxLc X vs js scope C s3 (upd H2 D (.lst [])) fp) pins τ H' s' ∧ tn i s'.heap ∧ (∀ b ∈ fp, H' b = none) ∧ W i ys τ H' ∧ k = n + 1 - i) ?_ (n + 1 - 0) ⟨0, [], _, _, I5, st1, fp1, w0, rfl⟩
    rintro k s' ⟨i, ys, τ, H', I', st', fr', w', rfl⟩
    obtain ⟨hDl, hin, q⟩ := turn i ys τ H' w'
    rcases q with ⟨stop, qn⟩ | ⟨go, step⟩
    · refine thn (T.done (cxLc X vs js scope C s3 (upd H2 D (.lst [])) fp) rfl rfl rfl hc i pins s' τ H' _ I' (stat fr') st' stop) fun r s4 zy => ?_
      obtain ⟨hr, I4'⟩ := zy
      subst hr
      obtain ⟨m, hm, _⟩ := I4'.loc
      refine fin D C H' s4 m ?_ hm I4'.free hCX.symm hCs0 cellNe (fun p hp => by rw [← hCs]; exact Nat.ne_of_lt (pinLt p hp)) qn
      exact I3.call' I4'.os I4'.base I4'.hok I4'.bare fun b hb => ⟨(f2 b hb).2.2.2.1, (f2 b hb).2.1, (f2 b hb).2.2.2.2.1, fun p hp => (f2 b hb).2.2.2.2.2 p hp⟩
    · refine thn (T.item (cxLc X vs js scope C s3 (upd H2 D (.lst [])) fp) rfl rfl rfl hc i pins s' τ H' _ I' (stat fr') st' go) fun r s4 zy => ?_
      obtain ⟨u, hr, h4⟩ := zy
      subst hr
      refine thn h4 fun _ s5 zy => ?_
      obtain ⟨x, H5, I5', r5, y5, st5, fr5⟩ := zy
      have I5'' := I5'.pinned (stat fr5) (T.obj _ _ st5)
      refine thn (hG _ s5 τ H5 x u _ I5'' r5 (step x H5 y5)) fun _ s6 zy => ?_
      obtain ⟨τ6, H6, I6, q6⟩ := zy
      refine thn (hT _ s6 τ6 H6 _ I6 q6) fun ok s7 zy => ?_
      obtain ⟨H7, I7, q7⟩ := zy
      have back : ∀ {τ8 : St} {H8 : Hp} {s8 : Shared} {ys' : List V}, Inv (cxLc X vs js scope C s3 (upd H2 D (.lst [])) fp) (pins ++ pinsAt fp s5.heap) τ8 H8 s8 → W (i + 1) ys' τ8 H8 →
          ∃ m, m < n + 1 - i ∧ ∃ i ys τ H', Inv (cxLc X vs js scope C s3 (upd H2 D (.lst [])) fp) pins τ H' s8 ∧ tn i s8.heap ∧ (∀ b ∈ fp, H' b = none) ∧ W i ys τ H' ∧ m = n + 1 - i := fun {τ8 H8 s8 ys'} I8 w8 => by
        have h8 := (turn (i + 1) ys' τ8 H8 w8).2.1
        refine ⟨n + 1 - (i + 1), by omega, i + 1, ys', τ8, H8, I8.unpinned, T.keep _ _ _ st5 fun b hb o e => (I8.pin (b, o) (List.mem_append_right _ (List.mem_append_right _ (mem_pinsAt hb e)))).1, fun b hb => ?_, w8, rfl⟩
        obtain ⟨o, e, d⟩ := T.obj _ _ st5 b hb
        exact (I8.pin (b, o) (List.mem_append_right _ (List.mem_append_right _ (mem_pinsAt hb e)))).2.1
      cases ok with
      | false =>
        rw [if_neg (by decide)] at q7 ⊢
        exact back I7 q7
      | true =>
        rw [if_pos rfl] at q7 ⊢
        refine thn (hE _ s7 τ6 H7 _ I7 q7) fun y s8 zy => ?_
        obtain ⟨v, H8, I8, r8, hD8, hlen, w8⟩ := zy
        refine thn (mt_append (X := cxLc X vs js scope C s3 (upd H2 D (.lst [])) fp) _ s8 τ6 H8 (.ref D) [v] (.ref D) [y] (fun z Hz => Hz = upd H8 D (.lst (ys ++ [v]))) I8 rfl (.cons r8 .nil) ⟨D, ys, v, rfl, rfl, hD8, hlen, rfl⟩) fun _ s9 zy => ?_
        obtain ⟨_, H9, I9, _, e9⟩ := zy
        subst e9
        exact back I9 w8
  have self : ∀ E', wpAny (model X.prog X.w) X.A (pyIter (.ref it)) (fun it' s' => codeAny (model X.prog X.w) X.A (.compLoop (.ListComp elt [⟨tg, iter, ifs, 0⟩] scope pos) 0 it' (.ref D) (compEnvC scope (clOf X.env scope.names []) C X.env)) (RR (.ref D) C) s') E' { s3 with heap := h₁, toks := s3.toks } :=
    fun E' => T.self _ 0 _ _ _ st1 loop
  have res := codeAny_compStart_list (R := RR (.ref D) C) loop (self _)
  exact res

theorem fc_of {X : Cx} {scope : Scope} (h : (scope.names.all fun y => !(y.2 == .free) || (X.env.kindOf y.1 == some .cell || X.env.kindOf y.1 == some .free)) = true) :
    ∀ y ∈ scope.names, y.2 = .free → X.env.kindOf y.1 = some .cell ∨ X.env.kindOf y.1 = some .free := fun y hy e => by
  have := List.all_eq_true.mp h y hy
  rw [e] at this
  simpa using this
theorem cap_of {X : Cx} {scope : Scope} {js : List Nat} (h : (js.all fun j => scope.names.lookup (X.N.getD j Str.empty) == some .free) = true) :
    ∀ j ∈ js, scope.names.lookup (X.N.getD j Str.empty) = some .free := fun j hj => by
  have := List.all_eq_true.mp h j hj
  simpa using this
/-- [elt for tg in iter if ..] -/
def tLc (vs : List Str) (js : List Nat) (wi : TI) (g : TG) (tt : TT) (te : TE) : TE := fun σ H Q => wi σ H fun J H1 => ∀ D, H1 D = none → LcW J g tt te D (stLc vs js σ) H1 fun H' => Q (.ref D) H'
theorem pe_lc {tg iter elt : Expr} {ifs : List Expr} {scope : Scope} {pos : Pos} (vs : List Str) (js : List Nat) {wi : TI} {g : TG} {tt : TT} {te : TE} (hc : X.calm = true) (hi : PI X tg iter wi)
    (hY : ∀ C s0 H0 fp, PG (cxLc X vs js scope C s0 H0 fp) tg g ∧ PTs (cxLc X vs js scope C s0 H0 fp) ifs tt ∧ PE (cxLc X vs js scope C s0 H0 fp) elt te)
    (hkind : scope.kind = .function := by rfl) (hcell : ∀ y ∈ scope.names, y.2 ≠ .cell := by decide +kernel) (hnames : ∀ x ∈ scope.names, x.2 = .local → scope.names.lookup x.1 = some .local := by decide +kernel)
    (hfc : (scope.names.all fun y => !(y.2 == .free) || (X.env.kindOf y.1 == some .cell || X.env.kindOf y.1 == some .free)) = true := by rfl) (hvs : ∀ x ∈ vs, scope.names.lookup x = some .local := by decide +kernel)
    (hcap : (js.all fun j => scope.names.lookup (X.N.getD j Str.empty) == some .free) = true := by rfl)
    (hclos : closureFor scope X.env = pure (clOf X.env scope.names []) := by with_unfolding_all rfl) (hs : ∀ x, foldedSetIterable iter X.env x = pure x := by intro _; rfl) :
    PE X (.ListComp elt [⟨tg, iter, ifs, 0⟩] scope pos) (tLc vs js wi g tt te) := by
  intro pins s σ H Q I h
  rw [eval_ListComp]
  refine wpAny_comprehension_free (use := none) rfl hs hclos hkind hnames (thn (hi pins s σ H _ I h) fun xv s1 h1 => thn h1 fun itv s2 h2 => ?_)
  obtain ⟨it, fp, tn, J, H2, e, I2, T, st2, f2, hW⟩ := h2
  subst e
  refine lc_run (RR := fun acc C => compPost (model X.prog X.w) X.A X.xe none (EP X pins σ Q) acc C) I2 T st2 f2 hc hkind hcell (fc_of hfc) hvs (cap_of hcap) (fun C s0 H0 => hY C s0 H0 fp) (Q := fun D Hf => Q (.ref D) Hf) hW ?_
  intro D C Hf s' m I' hm hn hL h0 hcl hpn q
  refine ⟨m, hm, fun h' sb => ⟨.ref D, Hf, ?_, rfl, q⟩⟩
  exact I'.turned (t' := s'.toks) (fun b o hb e => (sb.2 b hb).trans e) hn hL (.inr h0) hcl hpn
end
end L2

namespace L2
open PySem PySem.Spec PyProof.Rows

/-! ### enumerate of a list, walked by a pair of targets -/
section
variable {X : Cx}
end

/-! ### == of lists and tuples, by what stands in them -/
inductive EqV (K : PySem.W.Frag) (H : Hp) : Nat → V → V → Bool → Prop where
  | same {n : Nat} (v : V) (h : ∀ x, v ≠ .flt x) (h' : ∀ x, v ≠ .byt x) : EqV K H n v v true
  | int {n : Nat} (i j : Int) : EqV K H n (.int i) (.int j) (i == j)
  | bl {n : Nat} (i j : Bool) : EqV K H n (.bl i) (.bl j) (i == j)
  | str {n : Nat} (i j : Str) : EqV K H n (.str i) (.str j) (i == j)
  | tup {n : Nat} {a b : Addr} {xs ys : List V} {e : Nat → Bool} (ne : a ≠ b) (ha : SqT K H a xs) (hb : SqT K H b ys) (h : ∀ j x y, xs[j]? = some x → ys[j]? = some y → EqV K H n x y (e j)) :
      EqV K H (n + 1) (.ref a) (.ref b) ((List.range (min xs.length ys.length)).all e && xs.length == ys.length)
  | lst {n : Nat} {a b : Addr} {xs ys : List V} {e : Nat → Bool} (ne : a ≠ b) (ha : SqL K H a xs) (hb : SqL K H b ys) (hl : xs.length = ys.length) (h : ∀ j x y, xs[j]? = some x → ys[j]? = some y → EqV K H n x y (e j)) :
      EqV K H (n + 1) (.ref a) (.ref b) ((List.range xs.length).all e)
  | lstL {n : Nat} {a b : Addr} {xs ys : List V} (ne : a ≠ b) (ha : SqL K H a xs) (hb : SqL K H b ys) (hl : xs.length ≠ ys.length) : EqV K H (n + 1) (.ref a) (.ref b) false
section
variable {X : Cx}
theorem in1_le (A : Around) : A.in1.units ≤ A.units + 1 := Nat.le_refl _
theorem isTup_isTuple {h : Heap} {a : Addr} {its : Array Value} (x : IsTup h a its) : h.IsTuple a its := let ⟨o, e, c, n, d⟩ := x; ⟨o, e, c, n, d⟩
theorem items_at {xs : List V} {its : List Value} (r : Vals xs its) {j : Nat} (h1 : j < its.toArray.size) : ∃ x, xs[j]? = some x ∧ RelV x its.toArray[j] := by
  have hl := r.length
  have hj : j < xs.length := by rw [hl]; simpa using h1
  obtain ⟨u, e, ru⟩ := r.get (i := j) (x := xs[j]) (by simp [hj])
  refine ⟨xs[j], by simp [hj], ?_⟩
  have : its.toArray[j] = u := by
    have h2 : j < its.length := by simpa using h1
    rw [List.getElem?_eq_getElem h2] at e
    simpa using Option.some.inj e
  rw [this]; exact ru
theorem EqV.at {pins : List (Addr × Obj)} {σ : St} {H : Hp} {s : Shared} (I : Inv X pins σ H s) : ∀ {n : Nat} {x y : V} {k : Bool}, EqV X.K H n x y k → ∀ {A : Around} {u v : Value}, A.units + n < cLine → RelV x u → RelV y v → SeqAt.EqAt A s u v k := by
  intro n x y k h
  induction h with
  | same v hv hv' =>
    intro A u v' _ r r'
    cases v with
    | non => cases (show u = Value.none from r); cases (show v' = Value.none from r'); exact SeqAt.EqAt.same _
    | bl b => cases (show u = Value.bool b from r); cases (show v' = Value.bool b from r'); exact SeqAt.EqAt.same _
    | int i => obtain ⟨t, q⟩ := (show ∃ t, u = Value.int i t from r); obtain ⟨t', q'⟩ := (show ∃ t, v' = Value.int i t from r'); subst q q'; have := SeqAt.EqAt.int_int (A := A) (s := s) i t i t'; rwa [beq_self_eq_true] at this
    | str i => obtain ⟨t, q⟩ := (show ∃ t, u = Value.str i t from r); obtain ⟨t', q'⟩ := (show ∃ t, v' = Value.str i t from r'); subst q q'; have := SeqAt.EqAt.str_str (A := A) (s := s) i t i t'; rwa [beq_self_eq_true] at this
    | byt i => exact absurd rfl (hv' i)
    | flt i => exact absurd rfl (hv i)
    | ref a => cases (show u = Value.ref a from r); cases (show v' = Value.ref a from r'); exact SeqAt.EqAt.same _
    | ty a => cases (show u = Value.type a from r); cases (show v' = Value.type a from r'); exact SeqAt.EqAt.same _
  | int i j =>
    intro A u v _ r r'
    obtain ⟨t, q⟩ := (show ∃ t, u = Value.int i t from r); obtain ⟨t', q'⟩ := (show ∃ t, v = Value.int j t from r'); subst q q'
    exact SeqAt.EqAt.int_int i t j t'
  | bl i j =>
    intro A u v _ r r'
    cases (show u = Value.bool i from r); cases (show v = Value.bool j from r')
    exact SeqAt.EqAt.bool_bool i j
  | str i j =>
    intro A u v _ r r'
    obtain ⟨t, q⟩ := (show ∃ t, u = Value.str i t from r); obtain ⟨t', q'⟩ := (show ∃ t, v = Value.str j t from r'); subst q q'
    exact SeqAt.EqAt.str_str i t j t'
  | @tup n a b xs ys e ne ha hb h ih =>
    intro A u v hu r r'
    cases (show u = Value.ref a from r); cases (show v = Value.ref b from r')
    obtain ⟨its, rv, pl, hz⟩ := I.tuple ha
    obtain ⟨its', rv', pl', hz'⟩ := I.tuple hb
    have hl := rv.length; have hl' := rv'.length
    have := SeqAt.RcAt.tuples (A := A) (s := s) (e := e) (isTup_isTuple pl) (isTup_isTuple pl') (by omega) fun j h1 h2 => by
      obtain ⟨x, ex, rx⟩ := items_at rv h1
      obtain ⟨y, ey, ry⟩ := items_at rv' h2
      exact ih j x y ex ey (by have := in1_le A; omega) rx ry
    rw [List.size_toArray, List.size_toArray, ← hl, ← hl'] at this
    exact SeqAt.EqAt.of_refs ne this
  | @lst n a b xs ys e ne ha hb hlen h ih =>
    intro A u v hu r r'
    cases (show u = Value.ref a from r); cases (show v = Value.ref b from r')
    obtain ⟨its, rv, pl, hz⟩ := I.list ha
    obtain ⟨its', rv', pl', hz'⟩ := I.list hb
    have hl := rv.length; have hl' := rv'.length
    have := SeqAt.RcAt.lists (A := A) (s := s) (e := e) pl.isList pl'.isList (by simp; omega) (by omega) fun j h1 h2 => by
      obtain ⟨x, ex, rx⟩ := items_at rv h1
      obtain ⟨y, ey, ry⟩ := items_at rv' h2
      exact ih j x y ex ey (by have := in1_le A; omega) rx ry
    rw [List.size_toArray, ← hl] at this
    exact SeqAt.EqAt.of_refs ne this
  | @lstL n a b xs ys ne ha hb hlen =>
    intro A u v hu r r'
    cases (show u = Value.ref a from r); cases (show v = Value.ref b from r')
    obtain ⟨its, rv, pl, hz⟩ := I.list ha
    obtain ⟨its', rv', pl', hz'⟩ := I.list hb
    have hl := rv.length; have hl' := rv'.length
    exact SeqAt.EqAt.of_refs ne (SeqAt.RcAt.lists_lengths pl.isList pl'.isList (by simp; omega) (by omega))
/-- == of two lists or tuples -/
def rEqS (K : PySem.W.Frag) : R2 := fun x y H Q => ∃ n a b k, x = .ref a ∧ y = .ref b ∧ a ≠ b ∧ n ≤ 20 ∧ EqV K H n x y k ∧ Q (.bl k) H
theorem op_eqS (hu : X.A.units + 30 < cLine) : OpR X (compareOp .Eq) (rEqS X.K) := by
  intro pins s σ H x y v u Q I rx ry h
  obtain ⟨n, a, b, k, rfl, rfl, ne, hn, he, q⟩ := h
  cases (show v = Value.ref a from rx); cases (show u = Value.ref b from ry)
  cases he with
  | same => exact absurd rfl ne
  | @tup n _ _ xs ys e _ ha hb h =>
    obtain ⟨its, rv, pl, hz⟩ := I.tuple ha
    obtain ⟨its', rv', pl', hz'⟩ := I.tuple hb
    have hl := rv.length; have hl' := rv'.length
    refine SeqAt.eq_tupleAt (e := e) (isTup_isTuple pl) (isTup_isTuple pl') (by omega) (fun j h1 h2 => ?_) ⟨.bl _, H, I, rfl, ?_⟩
    · obtain ⟨x, ex, rx⟩ := items_at rv h1
      obtain ⟨y, ey, ry⟩ := items_at rv' h2
      exact (h j x y ex ey).at I (by have := in1_le X.A; omega) rx ry
    · rw [List.size_toArray, List.size_toArray, ← hl, ← hl']; exact q
  | @lst n _ _ xs ys e _ ha hb hlen h =>
    obtain ⟨its, rv, pl, hz⟩ := I.list ha
    obtain ⟨its', rv', pl', hz'⟩ := I.list hb
    have hl := rv.length; have hl' := rv'.length
    refine SeqAt.eq_listAt (e := e) pl.isList pl'.isList (by simp; omega) (by omega) (fun j h1 h2 => ?_) ⟨.bl _, H, I, rfl, ?_⟩
    · obtain ⟨x, ex, rx⟩ := items_at rv h1
      obtain ⟨y, ey, ry⟩ := items_at rv' h2
      exact (h j x y ex ey).at I (by have := in1_le X.A; omega) rx ry
    · rw [List.size_toArray, ← hl]; exact q
  | @lstL n _ _ xs ys _ ha hb hlen =>
    obtain ⟨its, rv, pl, hz⟩ := I.list ha
    obtain ⟨its', rv', pl', hz'⟩ := I.list hb
    have hl := rv.length; have hl' := rv'.length
    exact SeqAt.eq_list_lengthsAt pl.isList pl'.isList (by simp; omega) (by omega) ⟨.bl _, H, I, rfl, q⟩
/-! ### isinstance against a built-in type -/
theorem call_isinst : CallR X (.builtin "isinstance") (fun xs H Q => ∃ x n t b, xs = [x, .ty n] ∧ TyOf X.K H x t ∧ PySem.W.kitOne X.K t (.type n) = some b ∧ Q (.bl b) H) := by
  intro pins s σ H xs us Q I r h
  obtain ⟨x, n, t, b, rfl, ty, e, q⟩ := h
  obtain ⟨u, v, rfl, ru, rv⟩ := r.two
  cases (show v = Value.type n from rv)
  exact isinst_ok I ru ty e fun tk => ⟨.bl b, H, I.tok tk, rfl, q⟩
end
end L2

namespace L2
open PySem PySem.Spec PyProof.Rows
section
variable {K : PySem.W.Frag} {g : TG} {tt : TT} {te : TE} {D : Addr} {τ : St} {H : Hp} {Q : Hp → Prop}
/-- [.. for x in range(..)] -/
theorem lc_range {lo : Int} {n : Nat} (Pv : Nat → List V → St → Hp → Prop) (h0 : Pv 0 [] τ (upd H D (.lst []))) (hD : ∀ i ys τ H, i ≤ n → Pv i ys τ H → H D = some (.lst ys))
    (hs : ∀ i ys τ H, i < n → Pv i ys τ H → g (.int (lo + i)) τ H fun τ2 H2 => tt τ2 H2 fun b H3 => if b = true then te τ2 H3 fun v H4 => H4 D = some (.lst ys) ∧ ys.length < sizeLine ∧ Pv (i + 1) (ys ++ [v]) τ2 (upd H4 D (.lst (ys ++ [v]))) else Pv (i + 1) ys τ2 H3)
    (hd : ∀ ys τ H, Pv n ys τ H → Q H) : LcW (Itr lo n) g tt te D τ H Q := by
  suffices key : ∃ W : Nat → List V → St → Hp → Prop, W 0 [] τ (upd H D (.lst [])) ∧ ∀ i ys τ H, W i ys τ H → H D = some (.lst ys) ∧ i ≤ n ∧ (((Itr lo n).stop i H ∧ Q H) ∨ ((Itr lo n).go i H ∧ ∀ x H', (Itr lo n).yld i H x H' → g x τ H' fun τ2 H2 => tt τ2 H2 fun b H3 =>
      if b = true then te τ2 H3 fun v H4 => H4 D = some (.lst ys) ∧ ys.length < sizeLine ∧ W (i + 1) (ys ++ [v]) τ2 (upd H4 D (.lst (ys ++ [v]))) else W (i + 1) ys τ2 H3)) from ⟨n, key⟩
  refine ⟨fun i ys τ H => i ≤ n ∧ (i ≤ n → Pv i ys τ H), ⟨Nat.zero_le _, fun _ => h0⟩, ?_⟩
  rintro i ys τ H ⟨hi, p⟩
  replace p := p hi
  refine ⟨hD i ys τ H hi p, hi, ?_⟩
  by_cases hlt : i < n
  · refine .inr ⟨hlt, fun x H' y => ?_⟩
    obtain ⟨rfl, rfl⟩ := y
    have q : ∀ P : Prop, (i + 1 ≤ n ∧ (i + 1 ≤ n → P)) = P := fun P => propext ⟨fun z => z.2 z.1, fun z => ⟨hlt, fun _ => z⟩⟩
    simp only [q]
    exact hs i ys τ _ hlt p
  · have e : i = n := by omega
    subst e
    exact .inl ⟨Nat.le_refl _, hd ys τ H p⟩
/-- [.. for x in xs] -/
theorem lc_list {a : Addr} {xs : List V} (Pv : Nat → List V → St → Hp → Prop) (h0 : Pv 0 [] τ (upd H D (.lst []))) (hD : ∀ i ys τ H, i ≤ xs.length → Pv i ys τ H → H D = some (.lst ys) ∧ SqL K H a xs)
    (hs : ∀ i x ys τ H, xs[i]? = some x → Pv i ys τ H → g x τ H fun τ2 H2 => tt τ2 H2 fun b H3 => if b = true then te τ2 H3 fun v H4 => H4 D = some (.lst ys) ∧ ys.length < sizeLine ∧ Pv (i + 1) (ys ++ [v]) τ2 (upd H4 D (.lst (ys ++ [v]))) else Pv (i + 1) ys τ2 H3)
    (hd : ∀ ys τ H, Pv xs.length ys τ H → Q H) : LcW (Itl K a) g tt te D τ H Q := by
  refine ⟨xs.length, fun i ys τ H => i ≤ xs.length ∧ (i ≤ xs.length → Pv i ys τ H), ⟨Nat.zero_le _, fun _ => h0⟩, ?_⟩
  rintro i ys τ H ⟨hi, p⟩
  replace p := p hi
  obtain ⟨hd1, hd2⟩ := hD i ys τ H hi p
  refine ⟨hd1, hi, ?_⟩
  by_cases hlt : i < xs.length
  · refine .inr ⟨⟨xs, xs[i], hd2, by simp [hlt]⟩, fun x H' y => ?_⟩
    obtain ⟨rfl, y⟩ := y
    have q : ∀ P : Prop, (i + 1 ≤ xs.length ∧ (i + 1 ≤ xs.length → P)) = P := fun P => propext ⟨fun z => z.2 z.1, fun z => ⟨hlt, fun _ => z⟩⟩
    simp only [q]
    exact hs i x ys τ _ (y xs hd2) p
  · have e : i = xs.length := by omega
    subst e
    exact .inl ⟨⟨xs, hd2, Nat.le_refl _⟩, hd ys τ H p⟩
/-- [.. for x in t], t a tuple -/
theorem lc_tup {a : Addr} {xs : List V} (Pv : Nat → List V → St → Hp → Prop) (h0 : Pv 0 [] τ (upd H D (.lst []))) (hD : ∀ i ys τ H, i ≤ xs.length → Pv i ys τ H → H D = some (.lst ys) ∧ SqT K H a xs)
    (hs : ∀ i x ys τ H, xs[i]? = some x → Pv i ys τ H → g x τ H fun τ2 H2 => tt τ2 H2 fun b H3 => if b = true then te τ2 H3 fun v H4 => H4 D = some (.lst ys) ∧ ys.length < sizeLine ∧ Pv (i + 1) (ys ++ [v]) τ2 (upd H4 D (.lst (ys ++ [v]))) else Pv (i + 1) ys τ2 H3)
    (hd : ∀ ys τ H, Pv xs.length ys τ H → Q H) : LcW (Itt K a) g tt te D τ H Q := by
  refine ⟨xs.length, fun i ys τ H => i ≤ xs.length ∧ (i ≤ xs.length → Pv i ys τ H), ⟨Nat.zero_le _, fun _ => h0⟩, ?_⟩
  rintro i ys τ H ⟨hi, p⟩
  replace p := p hi
  obtain ⟨hd1, hd2⟩ := hD i ys τ H hi p
  refine ⟨hd1, hi, ?_⟩
  by_cases hlt : i < xs.length
  · refine .inr ⟨⟨xs, xs[i], hd2, by simp [hlt]⟩, fun x H' y => ?_⟩
    obtain ⟨rfl, y⟩ := y
    have q : ∀ P : Prop, (i + 1 ≤ xs.length ∧ (i + 1 ≤ xs.length → P)) = P := fun P => propext ⟨fun z => z.2 z.1, fun z => ⟨hlt, fun _ => z⟩⟩
    simp only [q]
    exact hs i x ys τ _ (y xs hd2) p
  · have e : i = xs.length := by omega
    subst e
    exact .inl ⟨⟨xs, hd2, Nat.le_refl _⟩, hd ys τ H p⟩
end
end L2
namespace L2
open PySem PySem.Spec PyProof.Rows
section
variable {X : Cx} {K : PySem.W.Frag}
theorem call_len_seqK (h : X.K = K) : CallR X (.builtin "len") (fun xs H Q => ∃ p ys, xs = [.ref p] ∧ (SqL K H p ys ∨ SqT K H p ys) ∧ Q (.int ys.length) H) := by subst h; exact call_len_seq
theorem pg_tupK (h : X.K = K) {es : List Expr} {k : Nat} {t : TGs} {n : Nat} {pos : Pos} (hc : X.calm = true) (hh : PGs X es t)
    (hn : (assignEach es X.env).length = n := by rfl) (hst : (assignEach es X.env).findIdx? (·.1) = none := by rfl) : PG X (.Tuple es k pos) (gTup K n t) := by subst h; exact pg_tup hc hh hn hst
end
end L2
namespace L2
theorem lcT {τ : St} {H : Hp} {A B : Hp → Prop} (h : A H) : tTrue τ H fun b H3 => if b = true then A H3 else B H3 := by
  show if true = true then A H else B H
  rw [if_pos rfl]; exact h
end L2
namespace L2
theorem lcN {i : Nat} {v : V} {τ : St} {H : Hp} {A B : St → Hp → Prop} (h : A (τ.set i (some v)) H) : gName i v τ H fun τ2 H2 => tTrue τ2 H2 fun b H3 => if b = true then A τ2 H3 else B τ2 H3 := by
  show if true = true then A (τ.set i (some v)) H else B (τ.set i (some v)) H
  rw [if_pos rfl]; exact h
end L2

namespace L2
open PySem PySem.Spec PyProof.Rows
section
variable {X : Cx} {pins : List (Addr × Obj)} {σ : St} {H : Hp} {s : Shared} {a : Addr} {kvs : List (Key × V)} {k : Key} {u r : Value} {A : Around} {E : Value → Shared → Prop}
end
end L2

namespace L2
open PySem PySem.Spec PyProof.Rows
end L2

namespace L2
open PySem PySem.Spec PyProof.Rows
section
variable {prog : Program} {w : World} {A : Around} {R : Result → Shared → Prop} {I : Addr} {fp wr : List Addr} {n : Nat} {P : Nat → Value → Prop} {St : Nat → Heap → Prop}
abbrev two (vb : Value) (c : Nat) : Obj := { cls := .type "list", dict := none, data := .seq #[vb, vb] c, slots := #[] }
end
end L2
namespace L2
open PySem PySem.Spec PyProof.Rows
end L2

namespace L2
open PySem PySem.Spec PyProof.Rows
section
variable {X : Cx}
theorem ps_no {st : Stmt} : PS X st (fun _ _ _ => False) := fun _ _ _ _ _ _ h => h.elim
end
end L2

namespace L2
open PySem PySem.Spec PyProof.Rows
section
variable {P : Program} {w : World} {A : Around} {E : Value → Shared → Prop} {s : Shared}
abbrev tk (P : Program) (w : World) : HeapKind P w (List Key) := tupleKind (mixKind P w)
end
end L2
namespace L2
open PySem PySem.Spec PyProof.Rows
def AllL (ks : List Key) : Prop := ∀ k ∈ ks, ∃ i, k = Sum.inl i
def AllI {κ : Type} (kvs : List (κ × V)) : Prop := ∀ kv ∈ kvs, ∃ i, kv.2 = V.int i
/-- dict(d): a copy -/
def HashOk (kvs : List (List Key × V)) : Prop := (kvs.map fun kv => reduceHash (Builtin.Tuple.tupleHashOf (kv.1.map fun k => match k with | .inl i => hashInt i | .inr _ => 0))).Nodup
end L2

namespace L2
open PySem PySem.Spec PyProof.Rows
/-! ### the rules for what is tracked alone: no letter of the text's heap in the readings (they are closed terms then, and shared) -/
abbrev K0 : PySem.W.Frag := []
theorem SqL.k0 {K : PySem.W.Frag} {H : Hp} {a : Addr} {xs : List V} (h : SqL K0 H a xs) : SqL K H a xs := by
  rcases h with h | ⟨o, its, n, hk, _⟩
  · exact .inl h
  · exact nomatch (show (none : Option Obj) = some o from hk)
theorem SqT.k0 {K : PySem.W.Frag} {H : Hp} {a : Addr} {xs : List V} (h : SqT K0 H a xs) : SqT K H a xs := by
  rcases h with h | ⟨o, its, n, hk, _⟩
  · exact .inl h
  · exact nomatch (show (none : Option Obj) = some o from hk)
theorem EqV.k0 {K : PySem.W.Frag} {H : Hp} {n : Nat} {x y : V} {b : Bool} (h : EqV K0 H n x y b) : EqV K H n x y b := by
  induction h with
  | same v h h' => exact .same v h h'
  | int i j => exact .int i j
  | bl i j => exact .bl i j
  | str i j => exact .str i j
  | tup ne ha hb h ih => exact .tup ne ha.k0 hb.k0 ih
  | lst ne ha hb hl h ih => exact .lst ne ha.k0 hb.k0 hl ih
  | lstL ne ha hb hl => exact .lstL ne ha.k0 hb.k0 hl
theorem tyV_k0 {K : PySem.W.Frag} {H : Hp} {T : String} {x : V} (h : tyV K0 T x H) : tyV K T x H := by
  cases x with
  | ref p =>
    rcases h with ⟨e, xs, h⟩ | ⟨_, o, hk, _⟩ | h | h
    · exact .inl ⟨e, xs, h.k0⟩
    · exact nomatch (show (none : Option Obj) = some o from hk)
    · exact .inr (.inr (.inl h))
    · exact .inr (.inr (.inr h))
  | str _ => exact h
  | int _ => exact h
  | _ => exact h
inductive LenP (xs : List V) (H : Hp) (Q : VK) : Prop
  | mk (p : Addr) (ys : List V) (e : xs = [.ref p]) (h : SqL K0 H p ys ∨ SqT K0 H p ys) (q : Q (.int ys.length) H) : LenP xs H Q
inductive TofP (xs : List V) (H : Hp) (Q : VK) : Prop
  | mk (p : Addr) (ys : List V) (e : xs = [.ref p]) (h : (SqL K0 H p ys ∧ ∀ l, H l = none → Q (.ref l) (upd H l (.tup ys))) ∨ (SqT K0 H p ys ∧ Q (.ref p) H)) : TofP xs H Q
inductive IsiP (xs : List V) (H : Hp) (Q : VK) : Prop
  | mk (x : V) (n : String) (t : Value) (b : Bool) (e : xs = [x, .ty n]) (h : TyOf K0 H x t) (h' : PySem.W.kitOne K0 t (.type n) = some b) (q : Q (.bl b) H) : IsiP xs H Q
section
variable {X : Cx}
theorem ix_list0 : IxR X (rIxL K0) := by
  intro value slice pins s σ H x y v u Q I rx ry h e
  obtain ⟨p, xs, i, z, e1, e2, h, h', q⟩ := h
  exact ix_list value slice pins s σ H x y v u Q I rx ry ⟨p, xs, i, z, e1, e2, h.k0, h', q⟩ e
theorem ix_tup0 : IxR X (rIxT K0) := by
  intro value slice pins s σ H x y v u Q I rx ry h e
  obtain ⟨p, xs, i, z, e1, e2, h, h', q⟩ := h
  exact ix_tup value slice pins s σ H x y v u Q I rx ry ⟨p, xs, i, z, e1, e2, h.k0, h', q⟩ e
theorem call_len_seq0 : CallR X (.builtin "len") LenP := by
  intro pins s σ H xs us Q I r h
  obtain ⟨p, ys, e, h, q⟩ := h
  exact call_len_seq pins s σ H xs us Q I r ⟨p, ys, e, h.imp SqL.k0 SqT.k0, q⟩
theorem call_tuple_of0 : CallR X (.type "tuple") TofP := by
  intro pins s σ H xs us Q I r h
  obtain ⟨p, ys, e, h⟩ := h
  exact call_tuple_of pins s σ H xs us Q I r ⟨p, ys, e, h.imp (fun z => ⟨z.1.k0, z.2⟩) fun z => ⟨z.1.k0, z.2⟩⟩
theorem call_isinst0 : CallR X (.builtin "isinstance") IsiP := by
  intro pins s σ H xs us Q I r h
  obtain ⟨x, n, t, b, e, h, h', q⟩ := h
  cases h with
  | non => exact call_isinst pins s σ H xs us Q I r ⟨_, n, _, b, e, .non, h', q⟩
  | bl y => exact call_isinst pins s σ H xs us Q I r ⟨_, n, _, b, e, .bl y, h', q⟩
  | int y => exact call_isinst pins s σ H xs us Q I r ⟨_, n, _, b, e, .int y, h', q⟩
  | str y => exact call_isinst pins s σ H xs us Q I r ⟨_, n, _, b, e, .str y, h', q⟩
  | flt y => exact call_isinst pins s σ H xs us Q I r ⟨_, n, _, b, e, .flt y, h', q⟩
  | lst z => exact call_isinst pins s σ H xs us Q I r ⟨_, n, _, b, e, .lst z, h', q⟩
  | frz z => exact call_isinst pins s σ H xs us Q I r ⟨_, n, _, b, e, .frz z, h', q⟩
  | tup z => exact call_isinst pins s σ H xs us Q I r ⟨_, n, _, b, e, .tup z, h', q⟩
  | dK z => exact call_isinst pins s σ H xs us Q I r ⟨_, n, _, b, e, .dK z, h', q⟩
  | dT z => exact call_isinst pins s σ H xs us Q I r ⟨_, n, _, b, e, .dT z, h', q⟩
  | ins z cl ha hn htk hm => exact nomatch (show (none : Option Bool) = some true from hm)
theorem op_eqS0 (hu : X.A.units + 30 < cLine) : OpR X (compareOp .Eq) (rEqS K0) := by
  intro pins s σ H x y v u Q I rx ry h
  obtain ⟨n, a, b, k, e1, e2, ne, hn, he, q⟩ := h
  exact op_eqS hu pins s σ H x y v u Q I rx ry ⟨n, a, b, k, e1, e2, ne, hn, he.k0, q⟩
theorem Turn.weak {P : Program} {w : World} {K : PySem.W.Frag} {tg : Expr} {J J' : It} {fp : List Addr} {it : Addr} {tn : Nat → Heap → Prop} (T : Turn P w K tg J fp it tn) (hg : ∀ i H, J'.go i H → J.go i H) (hy : ∀ i H x H', J.yld i H x H' → J'.yld i H x H') (hs : ∀ i H, J'.stop i H → J.stop i H) :
    Turn P w K tg J' fp it tn where
  mem := T.mem
  obj := T.obj
  keep := T.keep
  item := fun X a b c d i pins s σ H E I hf st g => thn (T.item X a b c d i pins s σ H E I hf st (hg i H g)) fun _ _ z => by
    obtain ⟨u, e, z⟩ := z
    exact ⟨u, e, thn z fun _ _ z => by obtain ⟨x, H', I', r, y, t, n⟩ := z; exact ⟨x, H', I', r, hy _ _ _ _ y, t, n⟩⟩
  done := fun X a b c d i pins s σ H E I hf st g => T.done X a b c d i pins s σ H E I hf st (hs i H g)
  self := T.self
theorem PIE.weak {pins : List (Addr × Obj)} {σ : St} {tg : Expr} {J0 J' : It} {R : It → Hp → Prop} {itv : Value} {s : Shared} (h : PIE X pins σ tg (fun J H => J = J0 ∧ R J' H) itv s) (hg : ∀ i H, J'.go i H → J0.go i H) (hy : ∀ i H x H', J0.yld i H x H' → J'.yld i H x H') (hs : ∀ i H, J'.stop i H → J0.stop i H) : PIE X pins σ tg R itv s := by
  obtain ⟨it, fp, tn, J, H', e, I, T, t0, f, ej, r⟩ := h
  subst ej
  exact ⟨it, fp, tn, J', H', e, I, T.weak hg hy hs, t0, f, r⟩
theorem itl_go {K : PySem.W.Frag} {a : Addr} (i : Nat) (H : Hp) (h : (Itl K0 a).go i H) : (Itl K a).go i H := by
  obtain ⟨xs, x, h, e⟩ := h
  exact ⟨xs, x, h.k0, e⟩
theorem itl_yl {K : PySem.W.Frag} {a : Addr} (i : Nat) (H : Hp) (x : V) (H' : Hp) (h : (Itl K a).yld i H x H') : (Itl K0 a).yld i H x H' := ⟨h.1, fun xs q => h.2 xs q.k0⟩
theorem itl_st {K : PySem.W.Frag} {a : Addr} (i : Nat) (H : Hp) (h : (Itl K0 a).stop i H) : (Itl K a).stop i H := by
  obtain ⟨xs, h, e⟩ := h
  exact ⟨xs, h.k0, e⟩
variable {tg : Expr}
theorem pi_list0 {l : Expr} {tl : TE} (hl : PE X l tl) : PI X tg l (iList K0 tl) := by
  intro pins s σ H R I h
  refine thn (hl pins s σ H _ I h) fun v s1 zy => ?_
  obtain ⟨x, H1, I1, r1, q1⟩ := zy
  obtain ⟨a, e, ⟨xs, hq⟩, q⟩ := q1
  subst e
  cases r1
  obtain ⟨its, rv, p, hz⟩ := I1.list (SqL.k0 hq)
  refine wpAny_pyIter_list p.isList ?_
  refine ⟨s1.heap.objs.size, [s1.heap.objs.size], _, _, H1, rfl, I1.kept (t' := s1.toks) fun b o e => Heap.get?_push_of_some _ e, (turn_list a _).weak itl_go itl_yl itl_st, ⟨_, Heap.get?_push_size _ rfl, rfl, rfl⟩, fun b hb => ?_, q⟩
  have e : b = s1.heap.objs.size := by simpa using hb
  subst e
  exact I1.fpOk (Nat.le_refl _) (I1.hok.fresh (Nat.le_refl _))
theorem pi_tup0 {l : Expr} {tl : TE} (hl : PE X l tl) : PI X tg l (iTup K0 tl) := by
  intro pins s σ H R I h
  refine thn (hl pins s σ H _ I h) fun v s1 zy => ?_
  obtain ⟨x, H1, I1, r1, q1⟩ := zy
  obtain ⟨a, e, ⟨xs, hq⟩, q⟩ := q1
  subst e
  cases r1
  obtain ⟨its, rv, p, hz⟩ := I1.tuple (SqT.k0 hq)
  refine wpAny_pyIter_tuple (show s1.heap.IsTuple a its.toArray from p) ?_
  refine ⟨s1.heap.objs.size, [s1.heap.objs.size], _, _, H1, rfl, I1.kept (t' := s1.toks) fun b o e => Heap.get?_push_of_some _ e, (turn_tuple a _).weak (J' := Itt K0 a) (fun i H h => ?_) (fun i H x H' h => ⟨h.1, fun xs q => h.2 xs q.k0⟩) (fun i H h => ?_), ⟨_, Heap.get?_push_size _ rfl, rfl, rfl⟩, fun b hb => ?_, q⟩
  · obtain ⟨xs, x, h, e⟩ := h
    exact ⟨xs, x, h.k0, e⟩
  · obtain ⟨xs, h, e⟩ := h
    exact ⟨xs, h.k0, e⟩
  have e : b = s1.heap.objs.size := by simpa using hb
  subst e
  exact I1.fpOk (Nat.le_refl _) (I1.hok.fresh (Nat.le_refl _))
variable {o e : Expr} {es : List Expr} {to : TE} {t : TA} {name : Str} {apos cpos : Pos} {T id : String} {r : V → List V → Hp → VK → Prop}
theorem pe_bmZ (pa : PlainAttrs T) (slot : Slot T name id) (hty : typeOf (.builtin id) = pure (.type "method_descriptor")) (hm : MtR X id r) (ho : PE X o to) (ha : PA X (e :: es) t)
    (hbase : attributeBase o name X.env (eval o X.env) = eval o X.env := by rfl)
    (hfew : ((backTo cpos (starEach (e :: es) X.env)).all (fun x => !x.1) && (backToKw cpos (keywordEach [] X.env)).all (fun x => x.1.isSome)
      && decide ((e :: es).length + ([] : List Keyword).length + (if ([] : List Keyword).isEmpty then 0 else 1) < 30)) = true := by rfl)
    (hline : (apos.endLine == cpos.line) = true := by rfl) (hs : starEach (e :: es) X.env = (false, eval e X.env) :: starEach es X.env := by rfl) (hplain : (backTo cpos (starEach es X.env)).any (·.1) = false := by rfl) :
    PE X (.Call (.Attribute o name apos) (e :: es) [] cpos) (tBM K0 T r to t) := by
  intro pins s σ H Q I h
  refine wpAny_Call_method_late hbase hfew hline rfl (thn (ho pins s σ H _ I h) fun v s1 zy => ?_)
  obtain ⟨x, H1, I1, r1, ty, q1⟩ := zy
  obtain ⟨h1, h2⟩ := tyV_is I1 r1 (tyV_k0 ty)
  refine ⟨T, id, pa, slot, hty, h1, h2, ?_⟩
  have hA := ha cpos pins s1 σ H1 _ I1 q1
  rw [hs] at hA ⊢
  refine Calls.callWith_builtin (by show (false || (backTo cpos (starEach es X.env)).any (·.1)) = false; rw [hplain] <;> rfl) (Calls.evalArgs_plain ?_)
  exact thn hA fun us s2 ⟨vs, H2, I2, r2, q2⟩ => hm pins s2 σ H2 x vs v us Q I2 r1 r2 q2
end
end L2

namespace L2
open PySem PySem.Spec PyProof.Rows PySem.W

/-! ### an exception of an own class: isinstance -/
section
variable {prog : Program} {w : World} {A : Around} {E : Value → Shared → Prop} {s : Shared} {K : Frag} {x D : Addr} {ox : Obj}
structure ExC (K : Frag) (D : Addr) : Prop where
  ga : findIn K (.ref D) "__getattribute__" = some (some (.builtin "BaseException.__getattribute__"))
  gh : findIn K (.ref D) "__getattr__" = some none
  fi : findIn K (.ref D) "__class__" = some (some (.builtin "object.__class__"))
  fg : specialIn K (.builtin "object.__class__") "__get__" = some (some (.builtin "getset_descriptor.__get__"))
  ft : takesIn K (.builtin "object.__class__") = some true
  mo : mroIn K D (.type "object") = some true
  me : mroIn K D (.type "BaseException") = some true
def ExI (h : Heap) (x D : Addr) : Prop := ∃ ox, h.get? x = some ox ∧ ox.cls = .ref D
theorem ExI.type {M : Model} {h : Heap} (I : ExI h x D) : Looks M h (typeOf (.ref x)) (.ref D) := by
  obtain ⟨ox, h1, h2⟩ := I
  exact h2 ▸ (Looks.ld h1).andThen .now
open Builtin Builtin.ObjectAttr Builtin.Getset_descriptor in
end

/-! ### raise: how an exception lies behind a call -/
theorem ObjOk.ex {P : Program} {w : World} {H : Hp} {h : Heap} {a : Addr} {o : HO} (x : ObjOk P w H h a o) : ∃ ob, h.get? a = some ob := by
  cases o with
  | lst xs => obtain ⟨_, _, _, _, e⟩ := x; exact ⟨_, e⟩
  | tup xs => obtain ⟨_, _, _, o, e, _⟩ := x; exact ⟨_, e⟩
  | dK kvs => obtain ⟨_, _, _, _, o, _, _, e, _⟩ := x; exact ⟨_, e⟩
  | dT kvs => obtain ⟨_, _, _, _, o, _, _, e, _⟩ := x; exact ⟨_, e⟩
  | set S n => obtain ⟨o, _, _, _, e, _⟩ := x; exact ⟨_, e⟩
  | ins C dx fs => obtain ⟨_, _, _, e, _⟩ := x; exact ⟨_, e⟩
  | own y => exact x
  | xd fs => obtain ⟨_, ⟨_, _, _, e, _⟩, _⟩ := x; exact ⟨_, e⟩
  | rng lo hi => obtain ⟨_, _, _, e⟩ := x; exact ⟨_, e⟩
  | frz ob u => obtain ⟨e, _⟩ := x; exact ⟨_, e⟩
  | tbl ps => exact ⟨_, (show h.get? a = some _ from x)⟩
  | met f y => exact ⟨_, (show h.get? a = some _ from x)⟩
  | ext φ => exact x.2.1
section
variable {P : Program} {w : World} {K : Frag} {mg : Str → Option Value} {base : Heap}
variable {N : List Str} {qual : Str} {scope : Scope} {f C : Addr} {cd : Value} {A : Around} {outer : List Env} {s : Shared} {H : Hp} {E : XK} {x : Str} {np cpos pos : Pos} {e₀ : Expr} {rest : List Expr} {t : TA}
end

/-! ### try: x = f(..), except C as n: the suite -/
section
variable {X : Cx} {pins : List (Addr × Obj)} {σ : St} {H : Hp} {s : Shared}
end

section
variable {X : Cx} {k : Nat} {f Ch : Addr} {fd : FuncData} {ps : List Str} {sp : Sp} {x y c n : Str} {px py cpos apos cp hpos pos : Pos} {e : Expr} {es : List Expr} {t : TA} {i j : Nat} {okc : Addr → Prop} {b₀ : Stmt} {suite : List Stmt} {ts : Addr → Addr → TS}
end

/-! ### all(a list of bools); an f-string of a text and an int -/
section
variable {X : Cx}
theorem bools_at : ∀ {bs : List Bool} {us : List Value}, Vals (bs.map V.bl) us → us = bs.map Value.bool
  | [], us, r => by cases r; rfl
  | b :: bs, us, r => by
    cases r with
    | cons p q =>
      cases (show _ = Value.bool b from p)
      rw [bools_at q]; rfl
theorem kept_iter9 {s : Shared} {h' : Heap} {o : Obj} (hk : ∀ b x, b ∉ [s.heap.objs.size] → (s.heap.push o).get? b = some x → h'.get? b = some x) : ∀ b x, s.heap.get? b = some x → h'.get? b = some x :=
  fun b x e => hk b x (fun hm => by rw [List.mem_singleton.mp hm] at e; exact Nat.lt_irrefl _ (Heap.lt_size e)) (Heap.get?_push_of_some _ e)
theorem range_all9 (bs : List Bool) : ((List.range bs.length).all fun i => (bs[i]?).getD true) = bs.all id := by
  rw [Bool.eq_iff_iff, List.all_eq_true, List.all_eq_true]
  constructor
  · intro h b hb
    obtain ⟨i, hi, rfl⟩ := List.getElem_of_mem hb
    have := h i (List.mem_range.mpr hi)
    simpa [List.getElem?_eq_getElem hi] using this
  · intro h i hi
    have hi' := List.mem_range.mp hi
    simpa [List.getElem?_eq_getElem hi'] using h _ (List.getElem_mem hi')
theorem call_all (hh : X.A.handled = none) : CallR X (.builtin "all") (fun xs H Q => ∃ (a : Addr) (bs : List Bool), xs = [.ref a] ∧ SqL X.K H a (bs.map V.bl) ∧ Q (.bl (bs.all id)) H) := by
  intro pins s σ H xs us Q I r h
  obtain ⟨a, bs, rfl, ha, q⟩ := h
  obtain ⟨u, rfl, ru⟩ : ∃ u, us = [u] ∧ RelV (.ref a) u := by
    cases r with
    | cons p q => cases q; exact ⟨_, rfl, p⟩
  cases (show u = Value.ref a from ru)
  obtain ⟨its, rv, pl, hz⟩ := I.list ha
  have e := bools_at rv
  subst e
  have hl := pl.isList
  have hlt : a < s.heap.objs.size := by obtain ⟨_, e, _⟩ := hl; exact Heap.lt_size e
  refine call_all_walk (wpAny_pyIter_list hl ?_)
  refine ⟨s.heap.objs.size, [s.heap.objs.size, a], [s.heap.objs.size], (bs.map Value.bool).toArray.size, _, _, fun i => (bs[i]?).getD true, rfl, Walks.list (A := X.A.in1) hh _ a (Nat.ne_of_lt hlt) (bs.map Value.bool).toArray,
    ⟨⟨_, Heap.get?_push_size _ rfl, rfl, rfl⟩, hl.push _⟩, fun i v s' Q' E' hP hQ => ?_, fun h' tk hk => ?_⟩
  · have hP' : (bs.map Value.bool)[i]? = some v := by simpa using hP
    rw [List.getElem?_map] at hP'
    cases e : bs[i]? with
    | none => rw [e] at hP'; cases hP'
    | some b =>
      rw [e] at hP'; cases hP'
      simp only [e, Option.getD_some] at hQ
      exact wpAny_truthy_bool hQ
  · have e : ((List.range (bs.map Value.bool).toArray.size).all fun i => (bs[i]?).getD true) = bs.all id := by
      rw [List.size_toArray, List.length_map]; exact range_all9 bs
    rw [e]
    exact ⟨.bl _, H, I.kept (kept_iter9 hk), rfl, q⟩

end
end L2

namespace L2
open PySem PySem.Spec PyProof.Rows PySem.W

/-! ### tokens: after a written number at least one token has been given out -/
theorem tkp {α : Type} {M : Model} {A : Around} {s : Shared} {t : Sem α} {Q : α → Shared → Prop} {E : Value → Shared → Prop} (h : wpAny M A t Q E s) (hs : 0 < s.toks) : wpAny M A t (fun a s' => 0 < s'.toks ∧ Q a s') E s :=
  wpAny_mono (wpAny_toks h) (fun _ _ q => ⟨Nat.lt_of_lt_of_le hs q.1, q.2⟩) fun _ _ q => q.2
def PET (X : Cx) (e : Expr) (t : TE) : Prop := ∀ (pins : List (Addr × Obj)) (s : Shared) (σ : St) (H : Hp) (Q : VK), 0 < s.toks → Inv X pins σ H s → t σ H Q → wpAny (model X.prog X.w) X.A (eval e X.env) (EP X pins σ Q) X.xe s
def PST (X : Cx) (st : Stmt) (t : TS) : Prop := ∀ (pins : List (Addr × Obj)) (s : Shared) (σ : St) (H : Hp) (D : Ends), 0 < s.toks → Inv X pins σ H s → t D σ H → wpAny (model X.prog X.w) X.A (exec st X.env) (SP X pins D) X.xe s
def PSsT (X : Cx) (st : List Stmt) (t : TS) : Prop := ∀ (pins : List (Addr × Obj)) (s : Shared) (σ : St) (H : Hp) (D : Ends), 0 < s.toks → Inv X pins σ H s → t D σ H → wpAny (model X.prog X.w) X.A (execs st X.env) (SP X pins D) X.xe s
def PEM (X : Cx) (e : Expr) (t : TE) : Prop := ∀ (pins : List (Addr × Obj)) (s : Shared) (σ : St) (H : Hp) (Q : VK), Inv X pins σ H s → t σ H Q → wpAny (model X.prog X.w) X.A (eval e X.env) (fun u s' => 0 < s'.toks ∧ EP X pins σ Q u s') X.xe s
def PAM (X : Cx) (es : List Expr) (t : TA) : Prop := ∀ (pos : Pos) (pins : List (Addr × Obj)) (s : Shared) (σ : St) (H : Hp) (Q : List V → Hp → Prop), Inv X pins σ H s → t σ H Q → wpAny (model X.prog X.w) X.A (spliced (backTo pos (starEach es X.env))) (fun us s' => 0 < s'.toks ∧ AP X pins σ Q us s') X.xe s
def PSM (X : Cx) (st : Stmt) (t : TS) : Prop := ∀ (pins : List (Addr × Obj)) (s : Shared) (σ : St) (H : Hp) (D : Ends), Inv X pins σ H s → t D σ H → wpAny (model X.prog X.w) X.A (exec st X.env) (fun f s' => 0 < s'.toks ∧ SP X pins D f s') X.xe s
section
variable {X : Cx} {e : Expr} {es : List Expr} {te : TE} {t : TA} {pos p : Pos} {st : Stmt} {rest : List Stmt} {ts us : TS}
theorem pet (h : PE X e te) : PET X e te := fun pins s σ H Q _ I q => h pins s σ H Q I q
theorem pem_int {i j pos} : PEM X (.Constant (.int i) j pos) (tC (.int i)) := fun _ _ _ H _ I h => wpAny_Constant_int ⟨Nat.succ_pos _, .int i, H, I.tok _, ⟨_, rfl⟩, h⟩
theorem pam_cons (ha : PE X e te) (hr : PAM X es t) (hs : starEach (e :: es) X.env = (false, eval e X.env) :: starEach es X.env := by rfl) : PAM X (e :: es) (tCons te t) := by
  intro pos pins s σ H Q I h
  rw [hs]
  show wpAny _ _ (spliced ((false, eval e X.env) :: backTo pos (starEach es X.env))) _ _ s
  refine Calls.spliced_cons (thn (ha pins s σ H _ I h) fun u s1 zy => ?_)
  obtain ⟨x, H1, I1, r1, q1⟩ := zy
  exact thn (hr pos pins s1 σ H1 _ I1 q1) fun us s2 ⟨k, xs, H2, I2, r2, q2⟩ => ⟨k, x :: xs, H2, I2, .cons r1 r2, q2⟩
theorem pam_first (ha : PEM X e te) (hr : PA X es t) (hs : starEach (e :: es) X.env = (false, eval e X.env) :: starEach es X.env := by rfl) : PAM X (e :: es) (tCons te t) := by
  intro pos pins s σ H Q I h
  rw [hs]
  show wpAny _ _ (spliced ((false, eval e X.env) :: backTo pos (starEach es X.env))) _ _ s
  refine Calls.spliced_cons (thn (ha pins s σ H _ I h) fun u s1 zy => ?_)
  obtain ⟨k, x, H1, I1, r1, q1⟩ := zy
  exact thn (tkp (hr pos pins s1 σ H1 _ I1 q1) k) fun us s2 ⟨k, xs, H2, I2, r2, q2⟩ => ⟨k, x :: xs, H2, I2, .cons r1 r2, q2⟩
theorem pss_consM (h1 : PSM X st ts) (h2 : PSsT X rest us) : PSs X (st :: rest) (tSeq ts us) := by
  intro pins s σ H D I h
  refine wpAny_execs_cons (thn (h1 pins s σ H { D with nx := us D } I h) fun f s1 zy => ?_)
  obtain ⟨k, q⟩ := zy
  cases f with
  | next =>
    obtain ⟨σ', H', I', q⟩ := q
    exact h2 pins s1 σ' H' D k I' q
  | ret v => exact q
  | brk => exact q
  | cont => exact q
theorem psst_cons (h1 : PS X st ts) (h2 : PSsT X rest us) : PSsT X (st :: rest) (tSeq ts us) := by
  intro pins s σ H D k0 I h
  refine wpAny_execs_cons (thn (tkp (h1 pins s σ H { D with nx := us D } I h) k0) fun f s1 zy => ?_)
  obtain ⟨k, q⟩ := zy
  cases f with
  | next =>
    obtain ⟨σ', H', I', q⟩ := q
    exact h2 pins s1 σ' H' D k I' q
  | ret v => exact q
  | brk => exact q
  | cont => exact q
theorem psst_now (h1 : PST X st ts) (h2 : PSs X rest us) : PSsT X (st :: rest) (tSeq ts us) := by
  intro pins s σ H D k0 I h
  refine wpAny_execs_cons (thn (h1 pins s σ H { D with nx := us D } k0 I h) fun f s1 q => ?_)
  cases f with
  | next =>
    obtain ⟨σ', H', I', q⟩ := q
    exact h2 pins s1 σ' H' D I' q
  | ret v => exact q
  | brk => exact q
  | cont => exact q
theorem psm_set {i : Nat} {x : Str} {pos' : Pos} (hN : X.N.Nodup) (hi : X.N[i]? = some x) (hx : Loc X.env.scope x) (he : PEM X e te) (hs : swapsWith e (some (.Name x pos')) pos.line X.env = pure false := by rfl) (hf : X.fn x = true ∨ X.env.scope.names.lookup x = some .local := by first | exact .inl rfl | exact .inr rfl | assumption) :
    PSM X (.Assign [.Name x pos'] e pos) (tAsg te (gName i)) := by
  intro pins s σ H D I h
  refine wpAny_Assign_Name (thn (he pins s σ H _ I h) fun v s1 zy => ?_) hs
  obtain ⟨k, y, H1, I1, r1, q1⟩ := zy
  exact thn (tkp (store_ok (Q := fun _ s2 => SP X pins D .next s2) I1 hN hi hx r1 (fun s2 I2 => ⟨_, H1, I2, q1⟩) hf) k) fun _ _ q => q
theorem pst_set {i : Nat} {x : Str} {pos' : Pos} (hN : X.N.Nodup) (hi : X.N[i]? = some x) (hx : Loc X.env.scope x) (he : PET X e te) (hs : swapsWith e (some (.Name x pos')) pos.line X.env = pure false := by rfl) (hf : X.fn x = true ∨ X.env.scope.names.lookup x = some .local := by first | exact .inl rfl | exact .inr rfl | assumption) :
    PST X (.Assign [.Name x pos'] e pos) (tAsg te (gName i)) := by
  intro pins s σ H D k0 I h
  refine wpAny_Assign_Name (thn (he pins s σ H _ k0 I h) fun v s1 zy => ?_) hs
  obtain ⟨y, H1, I1, r1, q1⟩ := zy
  exact store_ok I1 hN hi hx r1 (fun s2 I2 => ⟨_, H1, I2, q1⟩) hf
end
/-- a def that is called when a token has been given out -/
structure FnOkT (P : Program) (w : World) (K : PySem.W.Frag) (mg : Str → Option Value) (base : Heap) (CX : CXT) (k : Nat) (f : Addr) (fd : FuncData) (ps : List Str) (sp : Sp) : Prop where
  len : ∀ vs H Q E, sp vs H Q E → vs.length = ps.length
  run : ∀ (A : Around) (outer : List Env) (s : Shared) (H : Hp) (args : Args) (us : List Value) (vs : List V) (Q : VK) (E : XK), 0 < s.toks → Room k A → Env0 P w K mg base A outer s H → BindsTo s fd args (ps.zip us) → Vals vs us → sp vs H Q E →
    codeAny (model P w) A (.call (.ref f) args) (CR CX outer P w H s Q E) s
section
variable {X : Cx} {CX : CXT} {k : Nat} {f : Addr} {fd : FuncData} {ps : List Str} {sp : Sp} {E : XK} {x : Str} {p pos : Pos} {e : Expr} {es : List Expr} {t : TA} {ds : List Value} {dvs : List V}
theorem pem_call (F : FnOk X.prog X.w X.K X.mg X.base CX k f fd ps sp) (hr : Room k X.A) (hg : Gl X x) (hm : X.mg x = some (.ref f)) (hk : PySem.W.keepIn X.K (.ref f) = true) (hb : Binds X.K fd ps ds) (hd : Vals dvs ds) (hx : Passes CX X E)
    (ha : PAM X (e :: es) t) (hdb : (x == ("__debug__" : Str)) = false := by decide) (he : starEach (e :: es) X.env = (false, eval e X.env) :: starEach es X.env := by rfl) (hpl : (backTo pos (starEach es X.env)).any (·.1) = false := by rfl) :
    PEM X (.Call (.Name x p) (e :: es) [] pos) (tCall sp dvs E t) := by
  intro pins s σ H Q I h
  refine wpAny_Call_Name_kw (ld_glob I hg hm ?_ hdb)
  refine PySem.W.callWith_K (h₀ := X.base) I.ok.mod.kin hk (thn (ha pos pins s σ H _ I h) fun us s1 ⟨k, vs, H1, I1, r, q⟩ => ⟨I1.kIn, ?_⟩) he hpl
  exact tkp (run_fn F hr hb hd hx I1 r q) k
theorem pet_call (F : FnOkT X.prog X.w X.K X.mg X.base CX k f fd ps sp) (hr : Room k X.A) (hg : Gl X x) (hm : X.mg x = some (.ref f)) (hk : PySem.W.keepIn X.K (.ref f) = true) (hb : Binds X.K fd ps ds) (hd : Vals dvs ds) (hx : Passes CX X E)
    (ha : PA X (e :: es) t) (hdb : (x == ("__debug__" : Str)) = false := by decide) (he : starEach (e :: es) X.env = (false, eval e X.env) :: starEach es X.env := by rfl) (hpl : (backTo pos (starEach es X.env)).any (·.1) = false := by rfl) :
    PET X (.Call (.Name x p) (e :: es) [] pos) (tCall sp dvs E t) := by
  intro pins s σ H Q k0 I h
  refine wpAny_Call_Name_kw (ld_glob I hg hm ?_ hdb)
  refine PySem.W.callWith_K (h₀ := X.base) I.ok.mod.kin hk (thn (tkp (ha pos pins s σ H _ I h) k0) fun us s1 ⟨k1, vs, H1, I1, r, h⟩ => ⟨I1.kIn, ?_⟩) he hpl
  have r2 : Vals (vs ++ dvs) (us ++ ds) := r.append hd
  have hl : (us ++ ds).length = ps.length := by rw [← r2.length]; exact F.len _ _ _ _ h
  refine wpAny_call (codeAny_mono (F.run X.A X.stack s1 H1 ⟨us, []⟩ (us ++ ds) (vs ++ dvs) Q E k1 hr I1.env0 (hb s1 us I1.kIn hl) r2 h) fun r s' hq => ?_)
  cases r with
  | error e => exact hx pins σ H1 s1 e s' I1 hq
  | ok fl =>
    cases fl with
    | ret u => exact I1.after hq
    | next => exact False.elim hq
    | brk => exact False.elim hq
    | cont => exact False.elim hq
end
section
variable {P : Program} {w : World} {K : Frag} {mg : Str → Option Value} {base : Heap} {CX : CXT}
theorem Fun.okT {x qual : Str} {st : Stmt} {f : Addr} {fd : FuncData} {N ps : List Str} {k : Nat} {sp : Sp} (F : Fun K x qual st f fd) (S : FnScope N ps (defScope st)) (len : ∀ vs H Q E, sp vs H Q E → vs.length = ps.length)
    (hbody : ∀ (cdv : Value) (A : Around) (outer : List Env) (s : Shared) (H : Hp) (vs : List V) (Q : VK) (E : XK), Room k (A.deeper (envOfC qual (defScope st) s.heap.objs.size f cdv)) → sp vs H Q E →
      ∃ t, PSsT (cxOf CX P w K mg base N qual (defScope st) f cdv A outer s H E) (defBody st) t ∧ t { nx := fun _ H' => Q .non H', rt := Q } (start N vs) H) : FnOkT P w K mg base CX (k + 1) f fd ps sp := by
  obtain ⟨oc, od, kV, doc, pm, an, cdv, ct, osl, rfl, lk, hcd⟩ := F.ex
  refine ⟨len, fun A outer s H args us vs Q E k0 hr e0 hb r hsp => ?_⟩
  have hl := len _ _ _ _ hsp
  have KX : K.In s.heap := e0.mod.kin.keeps fun b o e => (e0.bs b o e).1
  have lim : s.heap.NoLimit := e0.mod.nolimit.keeps fun b o e => (e0.bs b o e).1
  have hkind : ∀ y ∈ ps.zip us, (defScope st).names.lookup y.1 = some .local ∨ ((defScope st).names.lookup y.1 = some .cell ∧ ((cellsFrom (s.heap.objs.size + 1) (defScope st).names []).lookup y.1).isSome = true) := fun ⟨n, v⟩ hy => by
    rcases S.par n (List.of_mem_zip hy).1 with q | q
    · exact .inl q
    · exact .inr ⟨q, PySem.W.cellsFrom_some _ _ _ (.inl q)⟩
  refine codeAny_call_function hr.depth (KX _ _ lk) rfl S.co S.gen rfl (PySem.W.codeRec_of KX hcd) (hb _ _ _ _ ?_)
  refine thn (tkp (wpAny_newFunctionEnv_cells (Q := fun env s1 => env = newEnv (defScope st) s.heap.objs.size _ (cellsFrom (s.heap.objs.size + 1) (defScope st).names []) _ _ _ none _ ∧ InCallC s env.locals (bindL env.kindOf (ps.zip us) fun _ => none) env.cells (bindC env.kindOf (ps.zip us) fun _ => none) s1) S.kind hkind fun env he s1 x => ⟨he, x⟩) k0) fun env s1 zy => ?_
  obtain ⟨k1, he, x⟩ := zy
  subst he
  refine ⟨lim.keeps x.toInCall.keep, codeAny_func ?_⟩
  obtain ⟨t, ht, hq⟩ := hbody cdv A outer s H vs Q E (hr.deeper _) hsp
  have I : Inv (cxOf CX P w K mg base N qual (defScope st) f cdv A outer s H E) [] (start N vs) H s1 := inv_start S hr.hd e0 hl r x
  refine wpAny_mono (ht [] s1 (start N vs) H _ k1 I hq) (fun fl s' hs => ?_) fun e s' hs => hs
  have fin : ∀ {σ' : St} {H' : Hp} {v : V} {u : Value}, Inv (cxOf CX P w K mg base N qual (defScope st) f cdv A outer s H E) [] σ' H' s' → RelV v u → Q v H' → CE outer P w H s Q u s' :=
    fun {σ' H' v u} J rv q => ⟨v, H', J.os, J.bare, J.base, J.hok, rv, q⟩
  cases fl with
  | ret u =>
    obtain ⟨v, σ', H', J, rv, q⟩ := hs
    exact fin J rv q
  | next =>
    obtain ⟨σ', H', J, q⟩ := hs
    exact fin (v := V.non) (u := Value.none) J rfl q
  | brk =>
    obtain ⟨_, _, _, q⟩ := hs
    exact False.elim q
  | cont =>
    obtain ⟨_, _, _, q⟩ := hs
    exact False.elim q
end
end L2

namespace L2
open PySem PySem.Spec PyProof.Rows PySem.W
open PySem.Builtin.Str (occurrences partsBetween spaceWords)
section
variable {X : Cx}
/-! ### lists of texts -/
theorem strs_of : ∀ {ts : List Str} {us : List Value}, Vals (ts.map V.str) us → ∃ l : List (Str × Tok), us = strValues l ∧ l.map (·.1) = ts
  | [], _, .nil => ⟨[], rfl, rfl⟩
  | x :: _, _, .cons r rs => by
    obtain ⟨t, rfl⟩ := r
    obtain ⟨l, rfl, rfl⟩ := strs_of rs
    exact ⟨(x, t) :: l, rfl, rfl⟩
theorem vals_strs : ∀ (l : List (Str × Tok)), Vals ((l.map (·.1)).map V.str) (strValues l)
  | [] => .nil
  | (_, t) :: l => .cons ⟨t, rfl⟩ (vals_strs l)
theorem str_list {pins : List (Addr × Obj)} {σ : St} {H : Hp} {s : Shared} {Q : VK} (I : Inv X pins σ H s) (l : List (Str × Tok)) (k : Nat) {ts : List Str} (e : l.map (·.1) = ts) (hz : ts.length ≤ sizeLine) (q : ∀ p, H p = none → Q (.ref p) (upd H p (.lst (ts.map V.str)))) :
    EP X pins σ Q (.ref s.heap.objs.size) { s with heap := s.heap.push { cls := .type "list", data := .seq (strValues l).toArray }, toks := k } := by
  subst e
  have hf : H s.heap.objs.size = none := I.hok.fresh (Nat.le_refl _)
  refine ⟨.ref s.heap.objs.size, _, I.laid (t' := k) (fun b u e => Heap.get?_push_of_some _ e) (Nat.le_refl _) ?_, rfl, q _ hf⟩
  exact ⟨by rw [List.length_map]; exact hz, strValues l, 0, vals_strs l, Heap.get?_push_size _ rfl⟩
/-! ### sep.join(texts) -/
def rJoin (K : Frag) : V → List V → Hp → VK → Prop := fun x vs H Q => ∃ sep p ts, x = .str sep ∧ vs = [.ref p] ∧ SqL K H p (ts.map V.str) ∧ JoinOk sep ts = true ∧ Q (.str (Txt.join sep ts)) H
theorem mt_join : MtR X "str.join" (rJoin X.K) := by
  intro pins s σ H x vs v us Q I rx rv h
  obtain ⟨sep, p, ts, rfl, rfl, hq, hj, q⟩ := h
  obtain ⟨t, rfl⟩ := rx
  obtain ⟨u, rfl, ru⟩ := rv.one
  cases ru
  obtain ⟨its, r', pl, hz⟩ := I.list hq
  obtain ⟨l, rfl, rfl⟩ := strs_of r'
  exact SC.join pl.isList rfl hj fun t' k => ⟨.str _, H, I.tok _, ⟨_, rfl⟩, q⟩
/-! ### text.split(), text.split(sep) -/
def rSplit0 : V → List V → Hp → VK → Prop := fun x vs H Q => ∃ z, x = .str z ∧ vs = [] ∧ z.length ≤ 100000 ∧ ∀ p, H p = none → Q (.ref p) (upd H p (.lst ((Txt.words z).map V.str)))
theorem words_len (x : Str) : (Txt.words x).length ≤ x.length + 1 := Nat.le_trans (Nat.le_add_left _ _) (StrLaws.words_weight x)
theorem mt_split0 : MtR X "str.split" rSplit0 := by
  intro pins s σ H x vs v us Q I rx rv h
  obtain ⟨z, rfl, rfl, hz, q⟩ := h
  obtain ⟨t, rfl⟩ := rx
  cases rv
  have hl : 100000 + 2 ≤ sizeLine := by decide
  have hw := words_len z
  have hn : (spaceWords z (z.length + 1)).length ≤ sizeLine := by
    have e1 := (StrLaws.sw_weight z).1
    have e2 := StrLaws.len_le_wsum (spaceWords z (z.length + 1))
    omega
  refine call_meets F.slot_str_split (typeIs_str _ _ _) F.entry_str_split (F.args_str_split_1 _) (meets_str_split_space z t (by omega) hn) ?_
  cases hw : spaceWords z (z.length + 1) == [(0, z.length)]
  · simp only [Bool.false_eq_true, if_false]
    rw [strsFrom_eq]
    exact str_list (ts := Txt.words z) I (numbered s.toks (PySem.wordsOf z)) _ ((numbered_texts _ _).trans (if_neg (ne_true_of_eq_false hw)).symm) (by omega) q
  · simp only [if_true]
    exact str_list (ts := Txt.words z) I [(z, t)] s.toks (if_pos hw).symm (by omega) q
def rSplit1 : V → List V → Hp → VK → Prop := fun x vs H Q => ∃ z y, x = .str z ∧ vs = [.str y] ∧ z.length ≤ 100000 ∧ (y.length == 0) = false ∧ (Txt.split z y).length ≤ 100000 ∧ ∀ p, H p = none → Q (.ref p) (upd H p (.lst ((Txt.split z y).map V.str)))
theorem mt_split1 : MtR X "str.split" rSplit1 := by
  intro pins s σ H x vs v us Q I rx rv h
  obtain ⟨z, y, rfl, rfl, hz, hy, hs, q⟩ := h
  obtain ⟨t, rfl⟩ := rx
  obtain ⟨u, rfl, t2, rfl⟩ := rv.one
  have hl : 100000 + 2 ≤ sizeLine := by decide
  have hn : (partsBetween z (occurrences z y 0 z.length (z.length + 1)) y.length).length ≤ sizeLine := by
    have e1 := StrLaws.occ_length_le z y 0 z.length (z.length + 1)
    rw [length_partsBetween]; omega
  cases h1 : (decide (z.length < y.length) || decide (Builtin.Str.strKind z < Builtin.Str.strKind y))
  · cases hf : (occurrences z y 0 z.length (z.length + 1)).isEmpty
    · refine call_meets F.slot_str_split (typeIs_str _ _ _) F.entry_str_split (F.args_str_split_2 _ _) (meets_str_split_sep z y t t2 h1 hy hf (by omega) hn) ?_
      show wants (EP X pins σ Q) X.xe _ { s with toks := _, heap := s.heap.push { cls := .type "list", data := .seq (strsFrom s.toks (partsBetween z (occurrences z y 0 z.length (z.length + 1)) y.length)).toArray } }
      rw [strsFrom_eq]
      exact str_list (ts := Txt.split z y) I (numbered s.toks _) _ ((numbered_texts _ _).trans ((if_neg (ne_true_of_eq_false h1)).trans (if_neg (ne_true_of_eq_false hf))).symm) (by omega) q
    · exact call_meets F.slot_str_split (typeIs_str _ _ _) F.entry_str_split (F.args_str_split_2 _ _) (meets_str_split_not_found z y t t2 h1 hy hf)
        (str_list (ts := Txt.split z y) I [(z, t)] s.toks ((if_neg (ne_true_of_eq_false h1)).trans (if_pos hf)).symm (by omega) q)
  · exact call_meets F.slot_str_split (typeIs_str _ _ _) F.entry_str_split (F.args_str_split_2 _ _) (meets_str_split_cannot_occur z y t t2 h1)
      (str_list (ts := Txt.split z y) I [(z, t)] s.toks (if_pos h1).symm (by omega) q)
/-! ### text.replace('a', 'b') -/
def tRepl (to : TE) (a b : Str) : TE := fun σ H Q => to σ H fun x H1 => ∃ z, x = .str z ∧ z.length ≤ 1048576 ∧ Q (.str (Txt.replace z a b)) H1
variable {o : Expr} {to : TE} {apos cpos pa' pb' : Pos} {a b : Str} {ka kb : _}
theorem pet_repl (ho : PET X o to) (hab : (a == b) = false := by decide) (hb : b.length ≤ 14 := by decide)
    (hbase : attributeBase o "replace" X.env (eval o X.env) = eval o X.env := by rfl)
    (hfew : ((backTo cpos (starEach [.Constant (.str a) ka pa', .Constant (.str b) kb pb'] X.env)).all (fun x => !x.1) && (backToKw cpos (keywordEach [] X.env)).all (fun x => x.1.isSome)
      && decide ([Expr.Constant (.str a) ka pa', .Constant (.str b) kb pb'].length + ([] : List Keyword).length + (if ([] : List Keyword).isEmpty then 0 else 1) < 30)) = true := by rfl)
    (hline : (apos.endLine == cpos.line) = true := by rfl) :
    PET X (.Call (.Attribute o "replace" apos) [.Constant (.str a) ka pa', .Constant (.str b) kb pb'] [] cpos) (tRepl to a b) := by
  intro pins s σ H Q k0 I h
  refine wpAny_Call_method_late hbase hfew hline rfl (thn (tkp (ho pins s σ H _ k0 I h) k0) fun v s1 zy => ?_)
  obtain ⟨k1, x, H1, I1, r1, z, ex, hz, q1⟩ := zy
  subst ex
  obtain ⟨t, rfl⟩ := r1
  refine ⟨"str", "str.replace", F.plainAttrs_str, F.slot_str_replace, F.type_str_replace, typeIs_str _ _ _, (fun _ e => nomatch e), ?_⟩
  refine Calls.callWith_builtin rfl (Calls.evalArgs_plain ?_)
  show wpAny _ _ (spliced ((false, eval (.Constant (.str a) ka pa') X.env) :: (false, eval (.Constant (.str b) kb pb') X.env) :: [])) _ _ _
  refine Calls.spliced_cons (Calls.Constant_str (Calls.spliced_cons (Calls.Constant_str (Calls.spliced_nil ?_))))
  exact SC.replaceW (Nat.ne_of_gt k1) (Nat.succ_ne_zero _) (Nat.ne_of_lt (Nat.lt_succ_self _)) hab hz hb fun t' k => ⟨.str _, H1, I1.tok _, ⟨_, rfl⟩, q1⟩
theorem pet_bm {e : Expr} {es : List Expr} {t : TA} {name : Str} {T id : String} {r : V → List V → Hp → VK → Prop} (pa : PlainAttrs T) (slot : Slot T name id) (hty : typeOf (.builtin id) = pure (.type "method_descriptor")) (hm : MtR X id r) (ho : PET X o to) (ha : PA X (e :: es) t)
    (hbase : attributeBase o name X.env (eval o X.env) = eval o X.env := by rfl)
    (hfew : ((backTo cpos (starEach (e :: es) X.env)).all (fun x => !x.1) && (backToKw cpos (keywordEach [] X.env)).all (fun x => x.1.isSome)
      && decide ((e :: es).length + ([] : List Keyword).length + (if ([] : List Keyword).isEmpty then 0 else 1) < 30)) = true := by rfl)
    (hline : (apos.endLine == cpos.line) = true := by rfl) (hs : starEach (e :: es) X.env = (false, eval e X.env) :: starEach es X.env := by rfl) (hplain : (backTo cpos (starEach es X.env)).any (·.1) = false := by rfl) :
    PET X (.Call (.Attribute o name apos) (e :: es) [] cpos) (tBM X.K T r to t) := by
  intro pins s σ H Q k0 I h
  refine wpAny_Call_method_late hbase hfew hline rfl (thn (ho pins s σ H _ k0 I h) fun v s1 zy => ?_)
  obtain ⟨x, H1, I1, r1, ty, q1⟩ := zy
  obtain ⟨h1, h2⟩ := tyV_is I1 r1 ty
  refine ⟨T, id, pa, slot, hty, h1, h2, ?_⟩
  have hA := ha cpos pins s1 σ H1 _ I1 q1
  rw [hs] at hA ⊢
  refine Calls.callWith_builtin (by show (false || (backTo cpos (starEach es X.env)).any (·.1)) = false; rw [hplain] <;> rfl) (Calls.evalArgs_plain ?_)
  exact thn hA fun us s2 ⟨vs, H2, I2, r2, q2⟩ => hm pins s2 σ H2 x vs v us Q I2 r1 r2 q2
/-! ### f'..{x}..' : the parts one by one, each a written text or an int or a text -/
abbrev TJ := St → Hp → Str → (Str → Hp → Prop) → Prop
def PJ (X : Cx) (es : List Expr) (t : TJ) : Prop := ∀ (pins : List (Addr × Obj)) (s : Shared) (σ : St) (H : Hp) (acc : Str) (Q : Str → Hp → Prop), acc.length ≤ sizeLine → Inv X pins σ H s → t σ H acc Q →
  Joins (model X.prog X.w) X.A X.xe (evalEach es X.env) acc (fun out s₁ => out.length ≤ sizeLine ∧ ∃ H', Inv X pins σ H' s₁ ∧ Q out H') s
def jNil : TJ := fun _ H acc Q => Q acc H
def jLit (c : Str) (t : TJ) : TJ := fun σ H acc Q => (acc ++ c).length ≤ sizeLine ∧ t σ H (acc ++ c) Q
def jVal (te : TE) (t : TJ) : TJ := fun σ H acc Q => te σ H fun v H1 => ∃ c : Str, ((∃ i : Int, v = .int i ∧ i.natAbs.log2 < 1920 ∧ c = toString i) ∨ (v = .str c ∧ c.length ≤ sizeLine)) ∧ (acc ++ c).length ≤ sizeLine ∧ t σ H1 (acc ++ c) Q
theorem joins_mono {M : Model} {A : Around} {E : Value → Shared → Prop} {Q Q' : Str → Shared → Prop} (hQ : ∀ o s, Q o s → Q' o s) : ∀ {l : List (Sem Value)} {acc : Str} {s : Shared}, Joins M A E l acc Q s → Joins M A E l acc Q' s
  | [], _, _, h => hQ _ _ h
  | _ :: _, _, _, h => thn h fun _ _ ⟨y, t, e, hl, r⟩ => ⟨y, t, e, hl, joins_mono hQ r⟩
theorem pj_nil : PJ X [] jNil := fun _ _ _ H acc _ ha I q => ⟨ha, H, I, q⟩
theorem pj_lit {c : Str} {k : _} {p : Pos} {es : List Expr} {t : TJ} (h : PJ X es t) : PJ X (.Constant (.str c) k p :: es) (jLit c t) := by
  intro pins s σ H acc Q ha I q
  exact Calls.Constant_str ⟨c, _, rfl, q.1, h pins _ σ H _ Q q.1 (I.tok _) q.2⟩
theorem pj_val {e : Expr} {te : TE} {p : Pos} {es : List Expr} {t : TJ} (he : PE X e te) (h : PJ X es t) : PJ X (.FormattedValue e (-1) none p :: es) (jVal te t) := by
  intro pins s σ H acc Q ha I q
  refine wpAny_FormattedValue_plain (thn (he pins s σ H _ I q) fun u s1 hx => ?_)
  obtain ⟨x, H1, I1, rx, c, hc, hl, q⟩ := hx
  rcases hc with ⟨i, rfl, hd, rfl⟩ | ⟨rfl, hc⟩
  · obtain ⟨t, rfl⟩ := rx
    exact wpAny_formatField_int hd ⟨_, _, rfl, hl, h pins _ σ H1 _ Q hl (I1.tok _) q⟩
  · obtain ⟨t, rfl⟩ := rx
    exact SB.field_str (fun t' k => ⟨_, _, rfl, hl, h pins _ σ H1 _ Q hl (I1.tok _) q⟩) hc
def tJoin (t : TJ) : TE := fun σ H Q => t σ H Str.empty fun x H1 => Q (.str x) H1
theorem pe_join {e₁ e₂ : Expr} {es : List Expr} {t : TJ} {pos : Pos} (h : PJ X (e₁ :: e₂ :: es) t) : PE X (.JoinedStr (e₁ :: e₂ :: es) pos) (tJoin t) := by
  intro pins s σ H Q I q
  refine wpAny_JoinedStr ?_
  have hj := h pins s σ H Str.empty _ (Nat.zero_le _) I q
  refine joins_mono ?_ hj
  intro out s1 ⟨hl, H1, I1, q1⟩
  exact ⟨hl, .str out, H1, I1.tok _, ⟨_, rfl⟩, q1⟩
end
end L2

namespace L2
open PySem PySem.Spec PyProof.Rows PySem.W
/-! ### zip of three tuples, walked by three targets -/
section
variable {prog : Program} {w : World} {A : Around} {E : Value → Shared → Prop} {s : Shared}
theorem nx_tup {j l : Addr} {k : Nat} {its : Array Value} {x : Value} {Q : Value → Shared → Prop} (hj : s.heap.IsTupleIter j l k) (hl : s.heap.IsTuple l its) (hx : its[k]? = some x)
    (hQ : ∀ h', h'.IsTupleIter j l (k + 1) → Heap.SameBut j s.heap h' → Q x { s with heap := h' }) : wpAny (model prog w) A (Builtin.SmallTypes.nextOf (.ref j)) Q E s := by
  obtain ⟨oj, gj, cj, dj⟩ := id hj
  obtain ⟨ol, gl, _, nl, dl⟩ := hl
  unfold Builtin.SmallTypes.nextOf
  refine wpAny_bind (wpAny_callSpecial?_slot (name := Str.ofString "__next__") hj.typeIs F.slot_tuple_iterator_next (wpAny_call_entry F.slot_tuple_iterator_next hj.typeIs F.entry_tuple_iterator_next ?_ (F.args_tuple_iterator_next_1 _)))
  show wpAny _ _ (field (.ref j) 0 >>= _) _ _ s; refine wpAny_bind (wpAny_field gj dj (x := .ref l) rfl ?_)
  show wpAny _ _ (if (Value.ref l == Value.none) = true then _ else _) _ _ s; rw [if_neg (show ¬ ((Value.ref l == Value.none) = true) from Bool.false_ne_true)]
  show wpAny _ _ (field (.ref j) 1 >>= _) _ _ s; refine wpAny_bind (wpAny_field gj dj (x := .int k 0) rfl ?_)
  show wpAny _ _ (seqItems? (.ref l) >>= _) _ _ s; refine wpAny_bind (wpAny_seqItems gl dl ?_); simp only [Int.toNat_natCast, hx]
  exact wpAny_bind (wpAny_setField gj dj (by simp) (wpAny_pure ⟨x, rfl, wpAny_pure (hQ _ ⟨_, Heap.get?_update_self _ gj (Obj.isFreed_of_fields (Obj.data_mapFields dj _)), (Obj.cls_mapFields ..).trans cj, by rw [Obj.data_mapFields dj]; simp [rawInt]⟩ (Heap.SameBut.update ..))⟩))
theorem nx_tup_end {j l : Addr} {k : Nat} {its : Array Value} {Q : Value → Shared → Prop} (hh : A.handled = none) (hj : s.heap.IsTupleIter j l k) (hl : s.heap.IsTuple l its) (hx : its[k]? = none)
    (hE : ∀ h' e, Heap.ExtBut j s.heap h' → (∃ o, h'.get? e = some o ∧ o.cls = .type "StopIteration") → E (.ref e) { s with heap := h' }) : wpAny (model prog w) A (Builtin.SmallTypes.nextOf (.ref j)) Q E s := by
  obtain ⟨oj, gj, cj, dj⟩ := id hj
  obtain ⟨ol, gl, _, nl, dl⟩ := hl
  unfold Builtin.SmallTypes.nextOf
  refine wpAny_bind (wpAny_callSpecial?_slot (name := Str.ofString "__next__") hj.typeIs F.slot_tuple_iterator_next (wpAny_call_entry F.slot_tuple_iterator_next hj.typeIs F.entry_tuple_iterator_next ?_ (F.args_tuple_iterator_next_1 _)))
  show wpAny _ _ (field (.ref j) 0 >>= _) _ _ s; refine wpAny_bind (wpAny_field gj dj (x := .ref l) rfl ?_)
  show wpAny _ _ (if (Value.ref l == Value.none) = true then _ else _) _ _ s; rw [if_neg (show ¬ ((Value.ref l == Value.none) = true) from Bool.false_ne_true)]
  show wpAny _ _ (field (.ref j) 1 >>= _) _ _ s; refine wpAny_bind (wpAny_field gj dj (x := .int k 0) rfl ?_)
  show wpAny _ _ (seqItems? (.ref l) >>= _) _ _ s; refine wpAny_bind (wpAny_seqItems gl dl ?_); simp only [Int.toNat_natCast, hx]
  refine wpAny_bind (wpAny_rule (wpAny_bind (wpAny_setField gj dj (by simp) ?_))); show wpAny _ _ (newExc (.type "StopIteration") [] >>= _) _ _ _
  refine wpAny_bind ?_; simp only [newExc, newTuple]; refine wpAny_bind (wpAny_newObj_type ?_ (by size_fits))
  refine wpAny_bind (m := firstArgMember _ _) (wpAny_of_eq (a := Value.none) (by first | rfl | (simp only [firstArgMember]; rfl)) ?_); refine wpAny_newObj_type ?_ (by size_fits); simp only [raiseNew]
  refine wpAny_bind (wpAny_handled ?_); first | rw [show A.in1.handled = none from hh] | rw [hh]
  exact wpAny_bind (wpAny_pure (wpAny_throw (hE _ _ (((Heap.SameBut.update ..).extBut.push _).push _) ⟨_, Heap.get?_push_size _ rfl, rfl⟩)))
abbrev IsTri (h : Heap) (T : Addr) (a b c : Value) : Prop := h.get? T = some { cls := .type "tuple", data := .seq #[a, b, c] }
theorem tri_set {T : Addr} {a b c x : Value} {k : Nat} {Q : Unit → Shared → Prop} (hT : IsTri s.heap T a b c)
    (h : ∀ h', h'.get? T = some { cls := .type "tuple", data := .seq ((#[a, b, c] : Array Value).setIfInBounds k x) } → Heap.SameBut T s.heap h' → Q () { s with heap := h' }) : wpAny (model prog w) A (updateSeq T (·.setIfInBounds k x)) Q E s := by
  refine wpAny_updateSeq hT rfl (h _ ?_ (Heap.SameBut.update ..)); rw [Heap.get?_update_self _ hT rfl]; simp [Obj.mapSeq]
/-- three iterators in a row, the zip's two tuples, the zip -/
structure Z3 (n l1 l2 l3 : Nat) : Prop where
  a1 : l1 < n
  a2 : l2 < n
  a3 : l3 < n
theorem neA {a b : Nat} (h : a ≠ b) : @Ne Addr a b := h
theorem zip3_item {n l1 l2 l3 : Nat} {k : Nat} {xs ys zs : Array Value} {x y z a b c : Value} {Q : Value → Shared → Prop} (D : Z3 n l1 l2 l3)
    (hz : IsZip s.heap (n + 5) (n + 3) (n + 4) .none) (hTI : IsTri s.heap (n + 3) (.ref n) (.ref (n + 1)) (.ref (n + 2))) (hTO : IsTri s.heap (n + 4) a b c)
    (h1 : s.heap.IsTupleIter n l1 k) (h2 : s.heap.IsTupleIter (n + 1) l2 k) (h3 : s.heap.IsTupleIter (n + 2) l3 k) (hl1 : s.heap.IsTuple l1 xs) (hl2 : s.heap.IsTuple l2 ys) (hl3 : s.heap.IsTuple l3 zs) (hx : xs[k]? = some x) (hy : ys[k]? = some y) (hw : zs[k]? = some z)
    (hQ : ∀ h', IsZip h' (n + 5) (n + 3) (n + 4) (rawInt s.heap.objs.size) → IsTri h' (n + 4) x y z → h'.IsTupleIter n l1 (k + 1) → h'.IsTupleIter (n + 1) l2 (k + 1) → h'.IsTupleIter (n + 2) l3 (k + 1) → IsTri h' s.heap.objs.size x y z →
      (∀ (c : Nat) o, c ≠ n + 5 → c ≠ n + 4 → c ≠ n → c ≠ n + 1 → c ≠ n + 2 → s.heap.get? c = some o → h'.get? c = some o) → Q (.ref s.heap.objs.size) { s with heap := h' }) :
    wpAny (model prog w) A (Builtin.«zip.__next__» ⟨[.ref (n + 5)], []⟩) (fun fin s' => ∃ v, fin = .done (.ret v) ∧ Q v s') E s := by
  obtain ⟨b1, b2, b3⟩ := D
  show wpAny _ _ (field (.ref (n + 5)) 2 >>= _) _ _ _; refine wpAny_bind (wpAny_field hz rfl (x := .bool false) rfl ?_)
  show wpAny _ _ (field (.ref (n + 5)) 3 >>= _) _ _ _; refine wpAny_bind (wpAny_field hz rfl (x := .ref (n + 3)) rfl ?_); refine wpAny_bind (wpAny_seqItems hTI rfl ?_)
  show wpAny _ _ (Builtin.SmallTypes.ownedTupleIsFree (.ref (n + 5)) >>= _) _ _ _; refine wpAny_bind ?_; unfold Builtin.SmallTypes.ownedTupleIsFree
  refine wpAny_bind (wpAny_field hz rfl (x := .none) rfl (wpAny_pure ?_)); simp only [if_true]; refine wpAny_bind (wpAny_rule ?_)
  refine wpAny_bind (wpAny_field hz rfl (x := .ref (n + 4)) rfl ?_); refine wpAny_bind (wpAny_setField_rec hz (by simp) fun g1 z1 e1 => ?_)
  replace z1 : IsZip g1 (n + 5) (n + 3) (n + 4) .ellipsis := z1
  refine wpAny_bind ?_; simp only [List.zipIdx_cons, List.zipIdx_nil, List.forIn_cons, List.forIn_nil]
  refine wpAny_bind (wpAny_bind (wpAny_onRaise ?_)); show wpAny _ _ (Builtin.SmallTypes.nextOf (.ref n) >>= _) _ _ _
  refine wpAny_bind (nx_tup (h1.extBut e1.extBut (neA (by omega))) (hl1.extBut e1.extBut (neA (by omega))) hx fun g2 i2 e2 => wpAny_pure ?_)
  have t2 : IsTri g2 (n + 4) a b c := e2.extBut _ _ (neA (by omega)) (e1.extBut _ _ (neA (by omega)) hTO)
  refine wpAny_bind (wpAny_seqItems t2 rfl ?_); refine wpAny_bind (tri_set t2 fun g3 t3 e3 => ?_)
  replace t3 : IsTri g3 (n + 4) x b c := t3
  refine wpAny_bind (wpAny_letGo (wpAny_pure ?_))
  refine wpAny_bind (wpAny_bind (wpAny_onRaise ?_)); show wpAny _ _ (Builtin.SmallTypes.nextOf (.ref (n + 1)) >>= _) _ _ _
  have k13 : ∀ (c : Nat) o, c ≠ n + 5 → c ≠ n → c ≠ n + 4 → s.heap.get? c = some o → g3.get? c = some o := fun c o c1 c2 c3 q => e3.extBut _ _ c3 (e2.extBut _ _ c2 (e1.extBut _ _ c1 q))
  have at3 : ∀ {c : Nat} {l m}, s.heap.IsTupleIter c l m → c ≠ n + 5 → c ≠ n → c ≠ n + 4 → g3.IsTupleIter c l m := fun h c1 c2 c3 => h.at fun o q => k13 _ o c1 c2 c3 q
  have tu3 : ∀ {l : Nat} {vs}, s.heap.IsTuple l vs → l < n → g3.IsTuple l vs := fun h c => let ⟨o, q, r⟩ := h; ⟨o, k13 _ o (neA (by omega)) (neA (by omega)) (neA (by omega)) q, r⟩
  refine wpAny_bind (nx_tup (at3 h2 (neA (by omega)) (neA (by omega)) (neA (by omega))) (tu3 hl2 b2) hy fun g4 i4 e4 => wpAny_pure ?_)
  have t4 : IsTri g4 (n + 4) x b c := e4.extBut _ _ (neA (by omega)) t3
  refine wpAny_bind (wpAny_seqItems t4 rfl ?_); refine wpAny_bind (tri_set t4 fun g5 t5 e5 => ?_)
  replace t5 : IsTri g5 (n + 4) x y c := t5
  refine wpAny_bind (wpAny_letGo (wpAny_pure ?_))
  refine wpAny_bind (wpAny_bind (wpAny_onRaise ?_)); show wpAny _ _ (Builtin.SmallTypes.nextOf (.ref (n + 2)) >>= _) _ _ _
  have k35 : ∀ (c : Nat) o, c ≠ n + 1 → c ≠ n + 4 → g3.get? c = some o → g5.get? c = some o := fun c o c1 c2 q => e5.extBut _ _ c2 (e4.extBut _ _ c1 q)
  have q3 : g5.IsTupleIter (n + 2) l3 k := (at3 h3 (neA (by omega)) (neA (by omega)) (neA (by omega))).at fun o q => k35 _ o (neA (by omega)) (neA (by omega)) q
  have u3 : g5.IsTuple l3 zs := let ⟨o, q, r⟩ := tu3 hl3 b3; ⟨o, k35 _ o (neA (by omega)) (neA (by omega)) q, r⟩
  refine wpAny_bind (nx_tup q3 u3 hw fun g6 i6 e6 => wpAny_pure ?_)
  have t6 : IsTri g6 (n + 4) x y c := e6.extBut _ _ (neA (by omega)) t5
  refine wpAny_bind (wpAny_seqItems t6 rfl ?_); refine wpAny_bind (tri_set t6 fun g7 t7 e7 => ?_)
  replace t7 : IsTri g7 (n + 4) x y z := t7
  refine wpAny_bind (wpAny_letGo (wpAny_pure (wpAny_pure ?_)))
  refine wpAny_bind (wpAny_seqItems t7 rfl ?_); refine wpAny_bind (wpAny_newTuple ?_)
  have k57 : ∀ (c : Nat) o, c ≠ n + 2 → c ≠ n + 4 → g5.get? c = some o → g7.get? c = some o := fun c o c1 c2 q => e7.extBut _ _ c2 (e6.extBut _ _ c1 q)
  have hsz : g7.objs.size = s.heap.objs.size := by rw [e7.1, e6.1, e5.1, e4.1, e3.1, e2.1, e1.1]
  have z7 : IsZip g7 (n + 5) (n + 3) (n + 4) .ellipsis := k57 _ _ (neA (by omega)) (neA (by omega)) (k35 _ _ (neA (by omega)) (neA (by omega)) (e3.extBut _ _ (neA (by omega)) (e2.extBut _ _ (neA (by omega)) z1)))
  have j1 : g7.IsTupleIter n l1 (k + 1) := ((i2.at fun o q => e3.extBut _ o (neA (by omega)) q).at fun o q => k35 _ o (neA (by omega)) (neA (by omega)) q).at fun o q => k57 _ o (neA (by omega)) (neA (by omega)) q
  have j2 : g7.IsTupleIter (n + 1) l2 (k + 1) := (i4.at fun o q => e5.extBut _ o (neA (by omega)) q).at fun o q => k57 _ o (neA (by omega)) (neA (by omega)) q
  have j3 : g7.IsTupleIter (n + 2) l3 (k + 1) := i6.at fun o q => e7.extBut _ o (neA (by omega)) q
  have lz : n + 5 < g7.objs.size := Heap.lt_size z7
  show wpAny _ _ (Builtin.SmallTypes.ownedTupleHandOut (.ref (n + 5)) (.ref g7.objs.size) >>= _) _ _ _; refine wpAny_bind ?_; unfold Builtin.SmallTypes.ownedTupleHandOut
  have z8 : IsZip (g7.push { cls := .type "tuple", data := .seq #[x, y, z] }) (n + 5) (n + 3) (n + 4) .ellipsis := Heap.get?_push_of_some _ z7
  refine wpAny_bind (wpAny_setField_rec z8 (by simp) fun g9 z9 e9 => ?_)
  replace z9 : IsZip g9 (n + 5) (n + 3) (n + 4) (rawInt g7.objs.size) := z9
  refine wpAny_setField_rec z9 (by simp) fun g10 z10 e10 => ?_
  replace z10 : IsZip g10 (n + 5) (n + 3) (n + 4) (rawInt g7.objs.size) := z10
  have up : ∀ (c : Nat) o, c ≠ n + 5 → g7.get? c = some o → g10.get? c = some o := fun c o c1 q => e10.extBut _ _ c1 (e9.extBut _ _ c1 (Heap.get?_push_of_some _ q))
  have t10 : IsTri g10 g7.objs.size x y z := e10.extBut _ _ (Nat.ne_of_gt lz) (e9.extBut _ _ (Nat.ne_of_gt lz) (Heap.get?_push_size _ rfl))
  rw [hsz] at z10 t10
  refine wpAny_pure ⟨_, rfl, ?_⟩
  show Q (.ref g7.objs.size) _
  rw [hsz]
  exact hQ g10 z10 (up _ _ (neA (by omega)) t7) (j1.at fun o q => up _ o (neA (by omega)) q) (j2.at fun o q => up _ o (neA (by omega)) q) (j3.at fun o q => up _ o (neA (by omega)) q) t10 fun c o c1 c2 c3 c4 c5 q => up c o c1 (k57 c o c5 c2 (k35 c o c4 c2 (k13 c o c1 c3 c2 q)))
theorem zip3_end {n l1 : Nat} {k : Nat} {xs : Array Value} {t2 t3 a b c : Value} {Q : Fin → Shared → Prop} (hh : A.handled = none) (b1 : l1 < n)
    (hz : IsZip s.heap (n + 5) (n + 3) (n + 4) .none) (hTI : IsTri s.heap (n + 3) (.ref n) t2 t3) (hTO : IsTri s.heap (n + 4) a b c) (h1 : s.heap.IsTupleIter n l1 k) (hl1 : s.heap.IsTuple l1 xs) (hx : xs[k]? = none)
    (hE : ∀ h' e, (∀ (c : Nat) o, c ≠ n + 5 → c ≠ n → s.heap.get? c = some o → h'.get? c = some o) → (∃ o, h'.get? e = some o ∧ o.cls = .type "StopIteration") → E (.ref e) { s with heap := h' }) :
    wpAny (model prog w) A (Builtin.«zip.__next__» ⟨[.ref (n + 5)], []⟩) Q E s := by
  show wpAny _ _ (field (.ref (n + 5)) 2 >>= _) _ _ _; refine wpAny_bind (wpAny_field hz rfl (x := .bool false) rfl ?_)
  show wpAny _ _ (field (.ref (n + 5)) 3 >>= _) _ _ _; refine wpAny_bind (wpAny_field hz rfl (x := .ref (n + 3)) rfl ?_); refine wpAny_bind (wpAny_seqItems hTI rfl ?_)
  show wpAny _ _ (Builtin.SmallTypes.ownedTupleIsFree (.ref (n + 5)) >>= _) _ _ _; refine wpAny_bind ?_; unfold Builtin.SmallTypes.ownedTupleIsFree
  refine wpAny_bind (wpAny_field hz rfl (x := .none) rfl (wpAny_pure ?_)); simp only [if_true]; refine wpAny_bind (wpAny_rule ?_)
  refine wpAny_bind (wpAny_field hz rfl (x := .ref (n + 4)) rfl ?_); refine wpAny_bind (wpAny_setField_rec hz (by simp) fun g1 z1 e1 => ?_)
  replace z1 : IsZip g1 (n + 5) (n + 3) (n + 4) .ellipsis := z1
  refine wpAny_bind ?_; simp only [List.zipIdx_cons, List.zipIdx_nil, List.forIn_cons, List.forIn_nil]
  refine wpAny_bind (wpAny_bind (wpAny_onRaise ?_)); show wpAny _ _ (Builtin.SmallTypes.nextOf (.ref n) >>= _) _ _ _
  refine wpAny_bind (nx_tup_end hh (h1.extBut e1.extBut (neA (by omega))) (hl1.extBut e1.extBut (neA (by omega))) hx fun g2 e e2 he => ?_)
  obtain ⟨oe, ge, ce⟩ := he
  have z2 : IsZip g2 (n + 5) (n + 3) (n + 4) .ellipsis := e2 _ _ (neA (by omega)) z1
  have ez : e ≠ n + 5 := fun q => by subst q; rw [z2] at ge; cases ge; simp at ce
  exact wpAny_setField_rec z2 (by simp) fun g3 _ e3 => hE g3 e (fun c o c1 c2 q => e3.extBut _ _ c1 (e2 _ _ c2 (e1.extBut _ _ c1 q))) ⟨oe, e3.extBut _ _ ez ge, ce⟩
theorem zip3_next {n l1 l2 l3 : Nat} {k : Nat} {xs ys zs : Array Value} {x y z a b c : Value} {Q : Option Value → Shared → Prop} (D : Z3 n l1 l2 l3)
    (hz : IsZip s.heap (n + 5) (n + 3) (n + 4) .none) (hTI : IsTri s.heap (n + 3) (.ref n) (.ref (n + 1)) (.ref (n + 2))) (hTO : IsTri s.heap (n + 4) a b c)
    (h1 : s.heap.IsTupleIter n l1 k) (h2 : s.heap.IsTupleIter (n + 1) l2 k) (h3 : s.heap.IsTupleIter (n + 2) l3 k) (hl1 : s.heap.IsTuple l1 xs) (hl2 : s.heap.IsTuple l2 ys) (hl3 : s.heap.IsTuple l3 zs) (hx : xs[k]? = some x) (hy : ys[k]? = some y) (hw : zs[k]? = some z)
    (hQ : ∀ h', IsZip h' (n + 5) (n + 3) (n + 4) (rawInt s.heap.objs.size) → IsTri h' (n + 4) x y z → h'.IsTupleIter n l1 (k + 1) → h'.IsTupleIter (n + 1) l2 (k + 1) → h'.IsTupleIter (n + 2) l3 (k + 1) → IsTri h' s.heap.objs.size x y z →
      (∀ (c : Nat) o, c ≠ n + 5 → c ≠ n + 4 → c ≠ n → c ≠ n + 1 → c ≠ n + 2 → s.heap.get? c = some o → h'.get? c = some o) → Q (some (.ref s.heap.objs.size)) { s with heap := h' }) :
    wpAny (model prog w) A (pyNext (.ref (n + 5))) Q E s := by
  have ty : s.TypeIs (.ref (n + 5)) "zip" := ⟨_, hz, rfl⟩
  unfold pyNext
  exact wpAny_bind (wpAny_attempt (wpAny_callSpecial?_slot (name := Str.ofString "__next__") ty F.slot_zip_next (wpAny_call_entry F.slot_zip_next ty F.entry_zip_next (zip3_item D hz hTI hTO h1 h2 h3 hl1 hl2 hl3 hx hy hw fun h' a1 a2 a3 a4 a5 a6 a7 => wpAny_pure (hQ h' a1 a2 a3 a4 a5 a6 a7)) (F.args_zip_next_1 _))))
theorem zip3_stop {n l1 : Nat} {k : Nat} {xs : Array Value} {t2 t3 a b c : Value} {Q : Option Value → Shared → Prop} (hh : A.handled = none) (b1 : l1 < n)
    (hz : IsZip s.heap (n + 5) (n + 3) (n + 4) .none) (hTI : IsTri s.heap (n + 3) (.ref n) t2 t3) (hTO : IsTri s.heap (n + 4) a b c) (h1 : s.heap.IsTupleIter n l1 k) (hl1 : s.heap.IsTuple l1 xs) (hx : xs[k]? = none)
    (hQ : ∀ h', (∀ (c : Nat) o, c ≠ n + 5 → c ≠ n → s.heap.get? c = some o → h'.get? c = some o) → Q none { s with heap := h' }) : wpAny (model prog w) A (pyNext (.ref (n + 5))) Q E s := by
  have ty : s.TypeIs (.ref (n + 5)) "zip" := ⟨_, hz, rfl⟩
  unfold pyNext
  refine wpAny_bind (wpAny_attempt (wpAny_callSpecial?_slot (name := Str.ofString "__next__") ty F.slot_zip_next (wpAny_call_entry F.slot_zip_next ty F.entry_zip_next (zip3_end hh b1 hz hTI hTO h1 hl1 hx fun h' e hk he => ?_) (F.args_zip_next_1 _))))
  obtain ⟨o, ho, hc⟩ := he
  exact wpAny_bind (wpAny_isInstance (T := "StopIteration") (b := true) ⟨o, ho, hc⟩ isSubtype_stop (wpAny_pure (hQ _ hk)))
abbrev z3a (h : Heap) (l1 : Addr) : Heap := h.push { cls := .type "tuple_iterator", data := .fields #[.ref l1, .int 0 0] }
abbrev z3b (h : Heap) (l1 l2 : Addr) : Heap := (z3a h l1).push { cls := .type "tuple_iterator", data := .fields #[.ref l2, .int 0 0] }
abbrev z3c (h : Heap) (l1 l2 l3 : Addr) : Heap := (z3b h l1 l2).push { cls := .type "tuple_iterator", data := .fields #[.ref l3, .int 0 0] }
abbrev z3d (h : Heap) (l1 l2 l3 : Addr) : Heap := (z3c h l1 l2 l3).push { cls := .type "tuple", data := .seq #[.ref h.objs.size, .ref (z3a h l1).objs.size, .ref (z3b h l1 l2).objs.size] }
abbrev z3e (h : Heap) (l1 l2 l3 : Addr) : Heap := (z3d h l1 l2 l3).push { cls := .type "tuple", data := .seq #[.none, .none, .none] }
abbrev z3f (h : Heap) (l1 l2 l3 : Addr) : Heap := (z3e h l1 l2 l3).push { cls := .type "zip", data := .fields #[.none, .bool false, .bool false, .ref (z3c h l1 l2 l3).objs.size, .ref (z3d h l1 l2 l3).objs.size] }
set_option maxHeartbeats 2000000 in
theorem zip3_new (l1 l2 l3 : Addr) (xs ys zs : Array Value) :
    Meets (Builtin.«zip.__new__» ⟨[.type "zip", .ref l1, .ref l2, .ref l3], []⟩) (fun _ R s => s.heap.IsTuple l1 xs ∧ s.heap.IsTuple l2 ys ∧ s.heap.IsTuple l3 zs ∧ R (.ok (.ret (.ref (z3e s.heap l1 l2 l3).objs.size))) { s with heap := z3f s.heap l1 l2 l3 }) :=
  .of_wp fun prog w A R s h => by
    obtain ⟨hp, g, d, tk, os⟩ := s; obtain ⟨hl1, hl2, hl3, h⟩ := h
    have hsub := sub_zip
    have q1 : Heap.IsTuple (Shared.heap ⟨hp, g, d, tk, os⟩) l1 xs := hl1
    have q2 : Heap.IsTuple (Shared.heap ⟨z3a hp l1, g, d, tk, os⟩) l2 ys := Heap.IsTuple.push hl2 _
    have q3 : Heap.IsTuple (Shared.heap ⟨z3b hp l1 l2, g, d, tk, os⟩) l3 zs := Heap.IsTuple.push (Heap.IsTuple.push hl3 _) _
    wp_walk using wpAny_pyIter_tuple q1, wpAny_pyIter_tuple q2, wpAny_pyIter_tuple q3
    exact ⟨_, rfl, h⟩
theorem zip3_args (a b c d : Value) : argsOk "object.__init__" ⟨[a, b, c, d], []⟩ := by
  unfold argsOk; rw [signature?_of (id := "object.__init__") (n := "__init__".toList.reverse) (o := "object".toList.reverse) (by kernel_rfl) F.owner_object]; kernel_rfl
theorem zip3_make {l1 l2 l3 : Nat} {xs ys zs : Array Value} {Q : Value → Shared → Prop} (hl1 : s.heap.IsTuple l1 xs) (hl2 : s.heap.IsTuple l2 ys) (hl3 : s.heap.IsTuple l3 zs)
    (h : ∀ h', IsZip h' (s.heap.objs.size + 5) (s.heap.objs.size + 3) (s.heap.objs.size + 4) .none → IsTri h' (s.heap.objs.size + 3) (.ref s.heap.objs.size) (.ref (s.heap.objs.size + 1)) (.ref (s.heap.objs.size + 2)) → IsTri h' (s.heap.objs.size + 4) .none .none .none →
      h'.IsTupleIter s.heap.objs.size l1 0 → h'.IsTupleIter (s.heap.objs.size + 1) l2 0 → h'.IsTupleIter (s.heap.objs.size + 2) l3 0 → (∀ c o, s.heap.get? c = some o → h'.get? c = some o) → Q (.ref (s.heap.objs.size + 5)) { s with heap := h' }) :
    wpAny (model prog w) A (call (.type "zip") [.ref l1, .ref l2, .ref l3]) Q E s := by
  refine callType_new F.called_zip (by decide) (by kernel_rfl) (by kernel_rfl) (fun obj => zip3_args obj _ _ _) F.entry_zip_new (zip3_new l1 l2 l3 xs ys zs) ⟨hl1, hl2, hl3, ?_⟩
  have n1 : (z3a s.heap l1).objs.size = s.heap.objs.size + 1 := Heap.size_push ..
  have n2 : (z3b s.heap l1 l2).objs.size = s.heap.objs.size + 2 := by rw [Heap.size_push, n1]
  have n3 : (z3c s.heap l1 l2 l3).objs.size = s.heap.objs.size + 3 := by rw [Heap.size_push, n2]
  have n4 : (z3d s.heap l1 l2 l3).objs.size = s.heap.objs.size + 4 := by rw [Heap.size_push, n3]
  have n5 : (z3e s.heap l1 l2 l3).objs.size = s.heap.objs.size + 5 := by rw [Heap.size_push, n4]
  have p1 : ∀ {c o}, (z3a s.heap l1).get? c = some o → (z3f s.heap l1 l2 l3).get? c = some o := fun q => Heap.get?_push_of_some _ (Heap.get?_push_of_some _ (Heap.get?_push_of_some _ (Heap.get?_push_of_some _ (Heap.get?_push_of_some _ q))))
  have p2 : ∀ {c o}, (z3b s.heap l1 l2).get? c = some o → (z3f s.heap l1 l2 l3).get? c = some o := fun q => Heap.get?_push_of_some _ (Heap.get?_push_of_some _ (Heap.get?_push_of_some _ (Heap.get?_push_of_some _ q)))
  have p3 : ∀ {c o}, (z3c s.heap l1 l2 l3).get? c = some o → (z3f s.heap l1 l2 l3).get? c = some o := fun q => Heap.get?_push_of_some _ (Heap.get?_push_of_some _ (Heap.get?_push_of_some _ q))
  have v1 : (z3f s.heap l1 l2 l3).get? s.heap.objs.size = some _ := p1 (Heap.get?_push_size _ rfl)
  have v2 : (z3f s.heap l1 l2 l3).get? (z3a s.heap l1).objs.size = some _ := p2 (Heap.get?_push_size _ rfl)
  have v3 : (z3f s.heap l1 l2 l3).get? (z3b s.heap l1 l2).objs.size = some _ := p3 (Heap.get?_push_size _ rfl)
  have v4 : (z3f s.heap l1 l2 l3).get? (z3c s.heap l1 l2 l3).objs.size = some _ := Heap.get?_push_of_some _ (Heap.get?_push_of_some _ (Heap.get?_push_size _ rfl))
  have v5 : (z3f s.heap l1 l2 l3).get? (z3d s.heap l1 l2 l3).objs.size = some _ := Heap.get?_push_of_some _ (Heap.get?_push_size _ rfl)
  have v6 : (z3f s.heap l1 l2 l3).get? (z3e s.heap l1 l2 l3).objs.size = some _ := Heap.get?_push_size _ rfl
  show _ ∧ _
  rw [n3, n4, n5] at v6
  rw [n4] at v5
  rw [n1, n2, n3] at v4
  rw [n2] at v3
  rw [n1] at v2
  rw [n5]
  exact ⟨⟨_, v6, rfl⟩, h _ v6 v4 v5 ⟨_, v1, rfl, rfl⟩ ⟨_, v2, rfl, rfl⟩ ⟨_, v3, rfl, rfl⟩ fun c o q => p1 (Heap.get?_push_of_some _ q)⟩
end
end L2
namespace L2
open PySem PySem.Spec PyProof.Rows
/-- a new tuple has been handed out by an iterator whose own objects turned -/
theorem Inv.tupGot {X : Cx} {pins : List (Addr × Obj)} {σ : St} {H : Hp} {s : Shared} {fp : List Addr} {h2 : Heap} {us : List Value} {xs : List V} {tk : Nat} (I : Inv X pins σ H s) (hf : ∀ b ∈ fp, FpOk X pins H b)
    (kp : ∀ b o, b ∉ fp → s.heap.get? b = some o → h2.get? b = some o) (ht2 : h2.get? s.heap.objs.size = some { cls := .type "tuple", data := .seq us.toArray }) (r : Vals xs us) (hz : xs.length ≤ sizeLine) :
    Inv X pins σ (upd H s.heap.objs.size (.tup xs)) { s with heap := h2, toks := tk } := by
  have hfr : H s.heap.objs.size = none := I.fresh
  have neP : ∀ b o, s.heap.get? b = some o → b ≠ s.heap.objs.size := fun b o q => Nat.ne_of_lt (Heap.lt_size q)
  have tr : ∀ b ob, H b = some ob → b ∉ fp := fun b ob q hb => by rw [(hf b hb).1] at q; cases q
  have trp : ∀ b ob, H b = some ob → b ≠ s.heap.objs.size := fun b ob q z => by rw [z, hfr] at q; cases q
  refine I.step (g' := s.gens) (d' := s.drawn) (ch := fp) (fun b hb => ?_) (fun b o _ _ hb q _ => kp b o hb q) (fun b o _ _ hb q _ => ⟨o.slots, kp b o hb q⟩) (fun b o _ q n => ?_) (fun b o hb q => ⟨o, kp b o hb q⟩)
    (fun b ys q => ?_) (fun b o ys q => ?_) (fun b ps q => ⟨#[], ?_⟩) (fun m hm => ?_) (fun b ob q => ?_) I.bare
  · obtain ⟨f0, f1, f2, f3, f4, f5⟩ := hf b hb
    exact ⟨f3, f1, f4, f5⟩
  · rw [upd_ne (neP b o q)]; exact n
  · rw [upd_ne (trp b _ q)]; exact q
  · rw [upd_ne (trp b _ q)]; exact q
  · rw [upd_ne (trp b _ q), q]; simp
  · obtain ⟨o, es, ep, ho, r⟩ := hm
    exact ⟨o, es, ep, kp _ o (fun hb => (hf _ hb).2.1 rfl) ho, r⟩
  · by_cases hb : b = s.heap.objs.size
    · subst hb
      rw [upd_same] at q
      cases q
      exact ⟨hz, us, r, _, ht2, rfl, _, rfl⟩
    · rw [upd_ne hb] at q
      refine (I.hok b ob q).stay (fun c v hc' z => kp c v ?_ z) (fun c z => ?_) fun c ys z => ?_
      · rcases hc' with y | y
        · rw [y]; exact tr b ob q
        · exact tr c _ y
      · rw [upd_ne (trp c _ z)]; exact z
      · rw [upd_ne (trp c _ z)]; exact z
theorem Inv.turnedL {X : Cx} {pins : List (Addr × Obj)} {σ : St} {H : Hp} {s : Shared} {fp : List Addr} {h2 : Heap} {tk : Nat} (I : Inv X pins σ H s) (hf : ∀ b ∈ fp, FpOk X pins H b)
    (kp : ∀ b o, b ∉ fp → s.heap.get? b = some o → h2.get? b = some o) : Inv X pins σ H { s with heap := h2, toks := tk } := by
  have tr : ∀ b ob, H b = some ob → b ∉ fp := fun b ob q hb => by rw [(hf b hb).1] at q; cases q
  refine I.step (g' := s.gens) (d' := s.drawn) (ch := fp) (fun b hb => ?_) (fun b o _ _ hb q _ => kp b o hb q) (fun b o _ _ hb q _ => ⟨o.slots, kp b o hb q⟩) (fun b o _ q n => n) (fun b o hb q => ⟨o, kp b o hb q⟩)
    (fun b ys q => q) (fun b o ys q => q) (fun b ps q => ⟨#[], by rw [q]; simp⟩) (fun m hm => ?_) (fun b ob q => ?_) I.bare
  · obtain ⟨f0, f1, f2, f3, f4, f5⟩ := hf b hb
    exact ⟨f3, f1, f4, f5⟩
  · obtain ⟨o, es, ep, ho, r⟩ := hm
    exact ⟨o, es, ep, kp _ o (fun hb => (hf _ hb).2.1 rfl) ho, r⟩
  · refine (I.hok b ob q).stay (fun c v hc' z => kp c v ?_ z) (fun c z => z) fun c ys z => z
    rcases hc' with y | y
    · rw [y]; exact tr b ob q
    · exact tr c _ y
def Itz (K : PySem.W.Frag) (l1 l2 l3 : Addr) : It :=
  ⟨fun i H => ∃ xs ys zs x y z, SqT K H l1 xs ∧ SqT K H l2 ys ∧ SqT K H l3 zs ∧ xs[i]? = some x ∧ ys[i]? = some y ∧ zs[i]? = some z,
   fun i H v H' => ∃ p x y z, v = .ref p ∧ H p = none ∧ H' = upd H p (.tup [x, y, z]) ∧ (∀ xs, SqT K H l1 xs → xs[i]? = some x) ∧ (∀ xs, SqT K H l2 xs → xs[i]? = some y) ∧ ∀ xs, SqT K H l3 xs → xs[i]? = some z,
   fun i H => ∃ xs, SqT K H l1 xs ∧ xs.length ≤ i⟩
theorem turn_zip3 {P : Program} {w : World} {K : PySem.W.Frag} {es : List Expr} {x1} {tp : Pos} (n l1 l2 l3 : Nat) (D : Z3 n l1 l2 l3) :
    Turn P w K (.Tuple es x1 tp) (Itz K l1 l2 l3) [n + 5, n + 3, n + 4, n, n + 1, n + 2] (n + 5) (fun i h => IsZip h (n + 5) (n + 3) (n + 4) .none ∧ IsTri h (n + 3) (.ref n) (.ref (n + 1)) (.ref (n + 2)) ∧ (∃ a b c, IsTri h (n + 4) a b c) ∧ h.IsTupleIter n l1 i ∧ h.IsTupleIter (n + 1) l2 i ∧ h.IsTupleIter (n + 2) l3 i) where
  mem := by simp
  obj := fun i h st b hb => by
    obtain ⟨hz, hTI, ⟨a, b', c, hTO⟩, ⟨o1, q1, _, d1⟩, ⟨o2, q2, _, d2⟩, ⟨o3, q3, _, d3⟩⟩ := st
    simp only [List.mem_cons, List.not_mem_nil, or_false] at hb
    rcases hb with rfl | rfl | rfl | rfl | rfl | rfl
    · exact ⟨_, hz, fun v q => nomatch q⟩
    · exact ⟨_, hTI, fun v q => nomatch q⟩
    · exact ⟨_, hTO, fun v q => nomatch q⟩
    · exact ⟨o1, q1, fun v q => by rw [d1] at q; cases q⟩
    · exact ⟨o2, q2, fun v q => by rw [d2] at q; cases q⟩
    · exact ⟨o3, q3, fun v q => by rw [d3] at q; cases q⟩
  keep := fun i h h' st k => by
    obtain ⟨hz, hTI, ⟨a, b', c, hTO⟩, i1, i2, i3⟩ := st
    exact ⟨k _ (by simp) _ hz, k _ (by simp) _ hTI, ⟨a, b', c, k _ (by simp) _ hTO⟩, i1.at fun o q => k _ (by simp) o q, i2.at fun o q => k _ (by simp) o q, i3.at fun o q => k _ (by simp) o q⟩
  item := by
    intro X hP hw hK hc i pins s σ H E I hf st hg
    subst hP hw hK
    obtain ⟨xs, ys, zs, x, y, z, q1, q2, q3, e1, e2, e3⟩ := hg
    obtain ⟨hz, hTI, ⟨a, b', c, hTO⟩, i1, i2, i3⟩ := st
    obtain ⟨it1, r1, p1, _⟩ := I.tuple q1
    obtain ⟨it2, r2, p2, _⟩ := I.tuple q2
    obtain ⟨it3, r3, p3, _⟩ := I.tuple q3
    obtain ⟨u1, g1, v1⟩ := r1.get e1
    obtain ⟨u2, g2, v2⟩ := r2.get e2
    obtain ⟨u3, g3, v3⟩ := r3.get e3
    refine zip3_next D hz hTI hTO i1 i2 i3 (isTup_isTuple p1) (isTup_isTuple p2) (isTup_isTuple p3) (x := u1) (y := u2) (z := u3) (by simpa using g1) (by simpa using g2) (by simpa using g3) fun h1 z1 o1 j1 j2 j3 t1 k1 => ⟨_, rfl, ?_⟩
    refine wpAny_letOwnedTupleGo_zip z1 fun h2 z2 sb => ?_
    replace sb : Heap.SameBut (n + 5) h1 h2 := sb
    have lt : n + 5 < s.heap.objs.size := Heap.lt_size hz
    have kp : ∀ b o, b ∉ [n + 5, n + 3, n + 4, n, n + 1, n + 2] → s.heap.get? b = some o → h2.get? b = some o := fun b o hb q => by
      simp only [List.mem_cons, List.not_mem_nil, or_false, not_or] at hb
      obtain ⟨n1, n2, n3, n4, n5, n6⟩ := hb
      exact (sb.2 b n1).trans (k1 b o n1 n3 n4 n5 n6 q)
    have t2 : h2.get? s.heap.objs.size = some { cls := .type "tuple", data := .seq [u1, u2, u3].toArray } := (sb.2 _ (Nat.ne_of_gt lt)).trans t1
    have I2 := I.tupGot (tk := s.toks) hf kp t2 (.cons v1 (.cons v2 (.cons v3 .nil))) (by show 3 ≤ sizeLine; decide)
    have up : ∀ (c : Nat) o, c ≠ n + 5 → h1.get? c = some o → h2.get? c = some o := fun c o c1 q => (sb.2 c c1).trans q
    refine ⟨.ref s.heap.objs.size, _, I2, rfl, ⟨_, x, y, z, rfl, I.fresh, rfl, fun l hy => ?_, fun l hy => ?_, fun l hy => ?_⟩, ⟨z2, up _ _ (by omega) (k1 _ _ (by omega) (by omega) (by omega) (by omega) (by omega) hTI), ⟨_, _, _, up _ _ (by omega) o1⟩, j1.at fun o q => up _ o (by omega) q, j2.at fun o q => up _ o (by omega) q, j3.at fun o q => up _ o (by omega) q⟩, fun b hb => ?_⟩
    · rw [I.tuple_inj hy q1]; exact e1
    · rw [I.tuple_inj hy q2]; exact e2
    · rw [I.tuple_inj hy q3]; exact e3
    have hb' : b ≠ s.heap.objs.size := by
      simp only [List.mem_cons, List.not_mem_nil, or_false] at hb
      intro z'
      subst z'
      rcases hb with q | q | q | q | q | q <;> (have q2 : @Eq Nat _ _ := q; omega)
    rw [upd_ne hb']
    exact (hf b hb).1
  done := by
    intro X hP hw hK hc i pins s σ H E I hf st hg
    subst hP hw hK
    obtain ⟨xs, hq, hx⟩ := hg
    obtain ⟨hz, hTI, ⟨a, b', c, hTO⟩, i1, _, _⟩ := st
    obtain ⟨its, rv, p, _⟩ := I.tuple hq
    have hl := rv.length
    refine zip3_stop (I.ok.hd hc) D.a1 hz hTI hTO i1 (isTup_isTuple p) (by simp; omega) fun h' k => ⟨rfl, ?_⟩
    refine I.turnedL (tk := s.toks) hf fun b o hb q => ?_
    simp only [List.mem_cons, List.not_mem_nil, or_false, not_or] at hb
    exact k b o hb.1 hb.2.2.2.1 q
  self := fun A i s Q E st q => wpAny_pyIter_zip st.1 q
section
variable {X : Cx}
def iZip3 (K : PySem.W.Frag) (ta : TA) : TI := fun σ H R => ta σ H fun vs H1 => ∃ l1 l2 l3 xs ys zs, vs = [.ref l1, .ref l2, .ref l3] ∧ SqT K H1 l1 xs ∧ SqT K H1 l2 ys ∧ SqT K H1 l3 zs ∧ R (Itz K l1 l2 l3) H1
theorem pi_zip3 {es : List Expr} {x1} {tp : Pos} {a b c : Expr} {ta : TA} {p pos : Pos} (hg : Gl X "zip") (hm : X.mg "zip" = none) (ha : PA X [a, b, c] ta)
    (hs : starEach [a, b, c] X.env = [(false, eval a X.env), (false, eval b X.env), (false, eval c X.env)] := by rfl) (hs2 : starEach [b, c] X.env = [(false, eval b X.env), (false, eval c X.env)] := by rfl) :
    PI X (.Tuple es x1 tp) (.Call (.Name "zip" p) [a, b, c] [] pos) (iZip3 X.K ta) := by
  intro pins s σ H R I h
  refine Call_ (ld_blt I hg hm boot_zip (PyProof.Rows.callWith_type1 (thn (ha pos pins s σ H _ I h) fun us s1 zy => ?_) (by rw [hs, hs2]) (by rw [hs2]; rfl)))
  obtain ⟨vs, H1, I1, r1, q1⟩ := zy
  obtain ⟨l1, l2, l3, xs, ys, zs, e, q1, q2, q3, q⟩ := q1
  subst e
  cases r1 with
  | cons r1 rr =>
    cases rr with
    | cons r2 rr =>
      cases rr with
      | cons r3 rr =>
        cases rr
        cases r1; cases r2; cases r3
        obtain ⟨it1, v1, p1, _⟩ := I1.tuple q1
        obtain ⟨it2, v2, p2, _⟩ := I1.tuple q2
        obtain ⟨it3, v3, p3, _⟩ := I1.tuple q3
        have lt : ∀ {l : Nat} {vs}, s1.heap.IsTuple l vs → l < s1.heap.objs.size := fun h => let ⟨o, q, _⟩ := h; Heap.lt_size q
        refine zip3_make (isTup_isTuple p1) (isTup_isTuple p2) (isTup_isTuple p3) fun h' z0 ti to i1 i2 i3 kp => ?_
        refine wpAny_pyIter_zip z0 ?_
        refine ⟨s1.heap.objs.size + 5, _, _, _, H1, rfl, I1.kept (t' := s1.toks) kp, turn_zip3 s1.heap.objs.size l1 l2 l3 ⟨lt (isTup_isTuple p1), lt (isTup_isTuple p2), lt (isTup_isTuple p3)⟩, ⟨z0, ti, ⟨_, _, _, to⟩, i1, i2, i3⟩, fun b hb => ?_, q⟩
        have hb' : s1.heap.objs.size ≤ b := by
          simp only [List.mem_cons, List.not_mem_nil, or_false] at hb
          rcases hb with rfl | rfl | rfl | rfl | rfl | rfl <;> first | exact Nat.le_refl _ | exact Nat.le_add_right _ _
        exact I1.fpOk hb' (I1.hok.fresh hb')
end
end L2

namespace L2
open PySem PySem.Spec PyProof.Rows
/-! ### a text walked sign by sign -/
def Its (x : Str) : It := ⟨fun i _ => i < x.cps.size, fun i H v H' => H' = H ∧ ∃ c, x.cps[i]? = some c ∧ v = .str ⟨#[c]⟩, fun i _ => x.cps.size = i⟩
theorem turn_str {P : Program} {w : World} {K : PySem.W.Frag} {tg : Expr} (it : Addr) (x : Str) (t : Tok) (ty : String)
    (W : ∀ A : Around, A.handled = none → Walks P w A it [it] [it] x.cps.size (SignAt x) (fun i h => h.IsStrIter it ty x t i)) (hs : ∀ (A : Around) (i : Nat) (s : Shared) (Q : Value → Shared → Prop) (E : Value → Shared → Prop), s.heap.IsStrIter it ty x t i → Q (.ref it) s → wpAny (model P w) A (pyIter (.ref it)) Q E s)
    (hn : ["enumerate", "zip", "dict_itemiterator", "dict_reverseitemiterator", "odict_iterator", "itertools.zip_longest", "itertools.pairwise"].contains ty = false) :
    Turn P w K tg (Its x) [it] it (fun i h => h.IsStrIter it ty x t i) where
  mem := by simp
  obj := fun i h st b hb => by
    have e : b = it := by simpa using hb
    subst e
    obtain ⟨o, e, c, d⟩ := st
    exact ⟨o, e, fun v z => by rw [d] at z; cases z⟩
  keep := fun i h h' st k => by
    obtain ⟨o, e, r⟩ := st
    exact ⟨o, k it (by simp) o e, r⟩
  item := by
    intro X hP hw hK hc i pins s σ H E I hf st hg
    subst hP hw hK
    obtain ⟨f0, f1, f2, f3, f4, f5⟩ := hf it (by simp)
    refine (W X.A (I.ok.hd hc)).item i s _ _ hg st fun v h' tk hv st' kk => ?_
    obtain ⟨c, u, hc', rfl⟩ := hv
    have I1 : Inv X pins σ H { s with heap := h', toks := tk } := I.turned (fun b o hb e => kk b o (by simpa using hb) e) f0 f1 f3 f4 f5
    obtain ⟨o, e, cl, d⟩ := id st'
    exact ⟨_, rfl, go_of (s := { s with heap := h', toks := tk }) e cl d hn ⟨.str ⟨#[c]⟩, H, I1, ⟨u, rfl⟩, ⟨rfl, c, hc', rfl⟩, st', fun b hb => (hf b hb).1⟩⟩
  done := by
    intro X hP hw hK hc i pins s σ H E I hf st hg
    subst hP hw hK
    obtain ⟨f0, f1, f2, f3, f4, f5⟩ := hf it (by simp)
    have e : x.cps.size = i := hg
    subst e
    exact (W X.A (I.ok.hd hc)).done s _ _ st fun h' tk kk => ⟨rfl, I.turned (fun b o hb e => kk b o (by simpa using hb) e) f0 f1 f3 f4 f5⟩
  self := fun A i s Q E st q => hs A i s Q E st q
section
variable {X : Cx} {tg : Expr}
def iStr (tl : TE) : TI := fun σ H R => tl σ H fun v H1 => ∃ x, v = .str x ∧ R (Its x) H1
theorem pi_str {l : Expr} {tl : TE} (hl : PE X l tl) : PI X tg l (iStr tl) := by
  intro pins s σ H R I h
  refine thn (hl pins s σ H _ I h) fun v s1 zy => ?_
  obtain ⟨x, H1, I1, r1, z, e, q⟩ := zy
  subst e
  obtain ⟨t, rfl⟩ := r1
  have fin : ∀ b ∈ [s1.heap.objs.size], FpOk X pins H1 b := fun b hb => by
    have e : b = s1.heap.objs.size := by simpa using hb
    subst e
    exact I1.fpOk (Nat.le_refl _) (I1.hok.fresh (Nat.le_refl _))
  cases ha : z.cps.all (· < 128) with
  | true => exact wpAny_pyIter_ascii ha ⟨s1.heap.objs.size, [s1.heap.objs.size], _, _, H1, rfl, I1.kept (t' := s1.toks) fun b o e => Heap.get?_push_of_some _ e, turn_str _ z t _ (fun A hA => Walks.strAscii hA _ z t) (fun _ _ _ _ _ st q => wpAny_pyIter_striter_ascii st q) (by decide), ⟨_, Heap.get?_push_size _ rfl, rfl, rfl⟩, fin, q⟩
  | false => exact wpAny_pyIter_wide ha ⟨s1.heap.objs.size, [s1.heap.objs.size], _, _, H1, rfl, I1.kept (t' := s1.toks) fun b o e => Heap.get?_push_of_some _ e, turn_str _ z t _ (fun A hA => Walks.strWide hA _ z t) (fun _ _ _ _ _ st q => wpAny_pyIter_striter_wide st q) (by decide), ⟨_, Heap.get?_push_size _ rfl, rfl, rfl⟩, fin, q⟩
end
section
variable {K : PySem.W.Frag} {g : TG} {tt : TT} {te : TE} {D : Addr} {τ : St} {H : Hp} {Q : Hp → Prop}
/-- a comprehension over any iterator -/
theorem lc_gen {J : It} {n : Nat} (Pv : Nat → List V → St → Hp → Prop) (h0 : Pv 0 [] τ (upd H D (.lst []))) (hD : ∀ i ys τ H, i ≤ n → Pv i ys τ H → H D = some (.lst ys) ∧ (i < n → J.go i H) ∧ (i = n → J.stop i H))
    (hs : ∀ i ys τ H x H', i < n → Pv i ys τ H → J.yld i H x H' → g x τ H' fun τ2 H2 => tt τ2 H2 fun b H3 => if b = true then te τ2 H3 fun v H4 => H4 D = some (.lst ys) ∧ ys.length < sizeLine ∧ Pv (i + 1) (ys ++ [v]) τ2 (upd H4 D (.lst (ys ++ [v]))) else Pv (i + 1) ys τ2 H3)
    (hd : ∀ ys τ H, Pv n ys τ H → Q H) : LcW J g tt te D τ H Q := by
  refine ⟨n, fun i ys τ H => i ≤ n ∧ (i ≤ n → Pv i ys τ H), ⟨Nat.zero_le _, fun _ => h0⟩, ?_⟩
  rintro i ys τ H ⟨hi, p⟩
  replace p := p hi
  obtain ⟨hd1, hd2, hd3⟩ := hD i ys τ H hi p
  refine ⟨hd1, hi, ?_⟩
  by_cases hlt : i < n
  · refine .inr ⟨hd2 hlt, fun x H' y => ?_⟩
    have q : ∀ P : Prop, (i + 1 ≤ n ∧ (i + 1 ≤ n → P)) = P := fun P => propext ⟨fun z => z.2 z.1, fun z => ⟨hlt, fun _ => z⟩⟩
    simp only [q]
    exact hs i ys τ _ x H' hlt p y
  · have e : i = n := by omega
    subst e
    exact .inl ⟨hd3 rfl, hd ys τ H p⟩
/-- [.. for c in text] -/
theorem lc_str {x : Str} (Pv : Nat → List V → St → Hp → Prop) (h0 : Pv 0 [] τ (upd H D (.lst []))) (hD : ∀ i ys τ H, i ≤ x.cps.size → Pv i ys τ H → H D = some (.lst ys))
    (hs : ∀ i c ys τ H, x.cps[i]? = some c → Pv i ys τ H → g (.str ⟨#[c]⟩) τ H fun τ2 H2 => tt τ2 H2 fun b H3 => if b = true then te τ2 H3 fun v H4 => H4 D = some (.lst ys) ∧ ys.length < sizeLine ∧ Pv (i + 1) (ys ++ [v]) τ2 (upd H4 D (.lst (ys ++ [v]))) else Pv (i + 1) ys τ2 H3)
    (hd : ∀ ys τ H, Pv x.cps.size ys τ H → Q H) : LcW (Its x) g tt te D τ H Q := by
  refine lc_gen (n := x.cps.size) Pv h0 (fun i ys τ H hi p => ⟨hD i ys τ H hi p, fun h => h, fun h => h.symm⟩) (fun i ys τ H v H' hi p y => ?_) hd
  obtain ⟨rfl, c, hc, rfl⟩ := y
  exact hs i c ys τ H' hc p
/-- [.. for a, b, c in zip(r, s, t)] of three tuples of one length -/
theorem lc_zip3 {l1 l2 l3 : Addr} {xs ws zs : List V} (e2 : ws.length = xs.length) (e3 : zs.length = xs.length) (Pv : Nat → List V → St → Hp → Prop) (h0 : Pv 0 [] τ (upd H D (.lst []))) (hD : ∀ i ys τ H, i ≤ xs.length → Pv i ys τ H → H D = some (.lst ys) ∧ SqT K H l1 xs ∧ SqT K H l2 ws ∧ SqT K H l3 zs)
    (hs : ∀ i x w z ys τ H p, xs[i]? = some x → ws[i]? = some w → zs[i]? = some z → Pv i ys τ H → H p = none → g (.ref p) τ (upd H p (.tup [x, w, z])) fun τ2 H2 => tt τ2 H2 fun b H3 => if b = true then te τ2 H3 fun v H4 => H4 D = some (.lst ys) ∧ ys.length < sizeLine ∧ Pv (i + 1) (ys ++ [v]) τ2 (upd H4 D (.lst (ys ++ [v]))) else Pv (i + 1) ys τ2 H3)
    (hd : ∀ ys τ H, Pv xs.length ys τ H → Q H) : LcW (Itz K l1 l2 l3) g tt te D τ H Q := by
  refine lc_gen (n := xs.length) Pv h0 (fun i ys τ H hi p => ?_) (fun i ys τ H v H' hi p y => ?_) hd
  · obtain ⟨a, b, c, d⟩ := hD i ys τ H hi p
    exact ⟨a, fun h => ⟨xs, ws, zs, xs[i], ws[i], zs[i], b, c, d, List.getElem?_eq_getElem h, List.getElem?_eq_getElem (by omega), List.getElem?_eq_getElem (by omega)⟩, fun h => ⟨xs, b, by omega⟩⟩
  · obtain ⟨a, b, c, d⟩ := hD i ys τ H (Nat.le_of_lt hi) p
    obtain ⟨q, x, w, z, rfl, hq, rfl, h1, h2, h3⟩ := y
    exact hs i x w z ys τ H q (h1 _ b) (h2 _ c) (h3 _ d) p hq
end
section
variable {X : Cx}
/-- int(text), the text of a number -/
theorem call_int_text : CallR X (.type "int") (fun xs H Q => ∃ n : Int, xs = [.str (Str.ofString (toString n))] ∧ 0 ≤ n ∧ n < 10 ^ 10 ∧ Q (.int n) H) := by
  intro pins s σ H xs us Q I r h
  obtain ⟨n, rfl, h0, h1, q⟩ := h
  obtain ⟨u, rfl, t, rfl⟩ := vals1 r
  exact PySem.W.KIN.call_num h0 h1 ⟨.int n, H, I.tok _, ⟨_, rfl⟩, q⟩
end
end L2

namespace Ink
/-- a rule's four parts -/
structure Rule where
  b : List Int
  t : List Int
  a : List Int
  g : List Int
/-- a shape with the letters of which it comes -/
abbrev Slot := Int × Int × Int

def tl (rules : List Rule) (k : Nat) : Nat := ((rules[k]?).map fun r => r.t.length).getD 0
/-- doings along n shapes, from a place on -/
inductive Along (rules : List Rule) (n : Nat) : Nat → List (Nat × Nat) → Prop
  | nil {k : Nat} : Along rules n k []
  | cons {k p j : Nat} {ds : List (Nat × Nat)} : k ≤ p → 1 ≤ tl rules j → p + tl rules j ≤ n → j < rules.length → Along rules n (p + tl rules j) ds → Along rules n k ((p, j) :: ds)
theorem Along.mono {rules : List Rule} {n k k' : Nat} {ds : List (Nat × Nat)} (h : Along rules n k ds) (hk : k' ≤ k) : Along rules n k' ds := by
  cases h with
  | nil => exact .nil
  | cons h1 h2 h3 h4 h5 => exact .cons (Nat.le_trans hk h1) h2 h3 h4 h5
theorem Along.length {rules : List Rule} {n k : Nat} {ds : List (Nat × Nat)} (h : Along rules n k ds) : ds.length ≤ n - k := by
  induction h with
  | nil => exact Nat.zero_le _
  | cons h1 h2 h3 h4 h5 ih => rw [List.length_cons]; omega

/-- all_of -/
def allOf (sh : List Int) (sl : List Slot) : List Slot := sh.map fun s => (s, ((sl.head?).map (·.2.1)).getD 0, ((sl.getLast?).map (·.2.2)).getD 0)
end Ink

namespace Ink
def slo (s : Slot) : Int := s.2.1
def shi (s : Slot) : Int := s.2.2
def lsHi (c : List Slot) : Int := ((c.getLast?).map shi).getD 0
/-- neighbours -/
inductive Ch (R : Slot → Slot → Prop) : List Slot → Prop
  | nil : Ch R []
  | one (a : Slot) : Ch R [a]
  | cons {a b : Slot} {l : List Slot} : R a b → Ch R (b :: l) → Ch R (a :: b :: l)
theorem Ch.imp {R S : Slot → Slot → Prop} (f : ∀ a b, R a b → S a b) {l : List Slot} (h : Ch R l) : Ch S l := by
  induction h with
  | nil => exact .nil
  | one a => exact .one a
  | cons r _ ih => exact .cons (f _ _ r) ih
def wk (a b : Slot) : Prop := slo a ≤ slo b ∧ shi a ≤ shi b ∧ slo b ≤ shi a
def st (a b : Slot) : Prop := (slo a = slo b ∧ shi a = shi b) ∨ slo b = shi a
/-- a row as a pass leaves it, ahead of the melting: from z, to n -/
structure Wk (l : List Slot) (z n : Int) : Prop where
  pos : ∀ s ∈ l, slo s < shi s
  ch : Ch wk l
  fst : ∀ s, l.head? = some s → slo s = z
  lst : ∀ s, l.getLast? = some s → shi s = n
structure Sg (l : List Slot) (z n : Int) : Prop where
  pos : ∀ s ∈ l, slo s < shi s
  ch : Ch st l
  fst : ∀ s, l.head? = some s → slo s = z
  lst : ∀ s, l.getLast? = some s → shi s = n
theorem Sg.wk {l : List Slot} {z n : Int} (h : Sg l z n) : Wk l z n := by
  refine ⟨h.pos, ?_, h.fst, h.lst⟩
  have : ∀ (l : List Slot), (∀ s ∈ l, slo s < shi s) → Ch st l → Ch Ink.wk l := by
    intro l hp hc
    induction hc with
    | nil => exact .nil
    | one a => exact .one a
    | @cons a b l r h ih =>
      refine .cons ?_ (ih fun s hs => hp s (List.mem_cons_of_mem _ hs))
      have p1 := hp a List.mem_cons_self
      have p2 := hp b (List.mem_cons_of_mem _ List.mem_cons_self)
      unfold Ink.wk
      rcases r with ⟨e1, e2⟩ | e
      · omega
      · omega
  exact this l h.pos h.ch
/-- in a chain of weak neighbours the first begins first, the last ends last -/
theorem Ch.first {a : Slot} : ∀ {l : List Slot}, Ch wk (a :: l) → ∀ s ∈ a :: l, slo a ≤ slo s ∧ shi a ≤ shi s
  | [], _, s, hs => by rw [List.mem_singleton.mp hs]; exact ⟨Int.le_refl _, Int.le_refl _⟩
  | b :: l, h, s, hs => by
    cases h with
    | cons r h =>
      rcases List.mem_cons.mp hs with e | hs
      · rw [e]; exact ⟨Int.le_refl _, Int.le_refl _⟩
      · have := Ch.first h s hs
        obtain ⟨r1, r2, _⟩ := r
        exact ⟨by omega, by omega⟩
theorem Ch.last : ∀ {l : List Slot} {z : Slot}, Ch wk l → l.getLast? = some z → ∀ s ∈ l, slo s ≤ slo z ∧ shi s ≤ shi z
  | [], _, _, e, _, _ => by cases e
  | [a], z, _, e, s, hs => by
    have : a = z := Option.some.inj e
    rw [List.mem_singleton.mp hs, this]; exact ⟨Int.le_refl _, Int.le_refl _⟩
  | a :: b :: l, z, h, e, s, hs => by
    rw [List.getLast?_cons_cons] at e
    cases h with
    | cons r h =>
      have q := Ch.last h e
      rcases List.mem_cons.mp hs with y | hs
      · rw [y]
        have := q b List.mem_cons_self
        obtain ⟨r1, r2, _⟩ := r
        exact ⟨by omega, by omega⟩
      · exact q s hs
end Ink

namespace Ink
def hdLo (c : List Slot) : Int := ((c.head?).map slo).getD 0
/-- what a stretch of a row becomes by a pass -/
structure Bec (l res : List Slot) : Prop where
  nil : l = [] → res = []
  hd : ∀ h, l.head? = some h → ∃ h', res.head? = some h' ∧ slo h' = slo h ∧ shi h ≤ shi h'
  ch : Ch wk res
  pos : ∀ s ∈ res, slo s < shi s
  ls : ∀ e, l.getLast? = some e → ∃ e', res.getLast? = some e' ∧ shi e' = shi e ∧ slo e' ≤ slo e
theorem Bec.refl {l : List Slot} (h : Ch wk l) (p : ∀ s ∈ l, slo s < shi s) : Bec l l :=
  ⟨fun e => e, fun h e => ⟨h, e, rfl, Int.le_refl _⟩, h, p, fun e q => ⟨e, q, rfl, Int.le_refl _⟩⟩
theorem allOf_mem {g : List Int} {l : List Slot} {s : Slot} (h : s ∈ allOf g l) : slo s = hdLo l ∧ shi s = lsHi l := by
  unfold allOf at h
  obtain ⟨x, _, e⟩ := List.mem_map.mp h
  rw [← e]; exact ⟨rfl, rfl⟩
theorem hdLo_of {l : List Slot} {h : Slot} (e : l.head? = some h) : hdLo l = slo h := by unfold hdLo; rw [e]; rfl
theorem lsHi_of {l : List Slot} {h : Slot} (e : l.getLast? = some h) : lsHi l = shi h := by unfold lsHi; rw [e]; rfl
theorem exLast {α : Type} {l : List α} (h : l ≠ []) : ∃ z, l.getLast? = some z := by
  cases e : l.getLast? with
  | none => rw [List.getLast?_eq_none_iff] at e; exact absurd e h
  | some z => exact ⟨z, rfl⟩
theorem exHead {α : Type} {l : List α} (h : l ≠ []) : ∃ z, l.head? = some z := by
  cases l with
  | nil => exact absurd rfl h
  | cons z l => exact ⟨z, rfl⟩
theorem headMem {α : Type} {l : List α} {z : α} (h : l.head? = some z) : z ∈ l := by
  cases l with
  | nil => cases h
  | cons a l => rw [← Option.some.inj h]; exact List.mem_cons_self
theorem lastMem {α : Type} {l : List α} {z : α} (h : l.getLast? = some z) : z ∈ l := List.mem_of_getLast? h
/-- the ends of a chain -/
theorem ends {l : List Slot} (hne : l ≠ []) (h : Ch wk l) (p : ∀ s ∈ l, slo s < shi s) : hdLo l < lsHi l ∧ ∀ s ∈ l, hdLo l ≤ slo s ∧ shi s ≤ lsHi l := by
  obtain ⟨a, ea⟩ := exHead hne
  obtain ⟨z, ez⟩ := exLast hne
  rw [hdLo_of ea, lsHi_of ez]
  obtain ⟨l', rfl⟩ : ∃ l', l = a :: l' := by
    cases l with
    | nil => cases ea
    | cons x y => exact ⟨y, by rw [Option.some.inj ea]⟩
  have f := h.first
  have g := h.last ez
  have pa := p a List.mem_cons_self
  refine ⟨by have := (g a List.mem_cons_self).2; omega, fun s hs => ⟨(f s hs).1, (g s hs).2⟩⟩
theorem Bec.all {g : List Int} {l : List Slot} (hne : l ≠ []) (hg : g ≠ []) (h : Ch wk l) (p : ∀ s ∈ l, slo s < shi s) : Bec l (allOf g l) := by
  obtain ⟨e1, e2⟩ := ends hne h p
  have hres : allOf g l ≠ [] := by
    unfold allOf
    intro q
    exact hg (List.map_eq_nil_iff.mp q)
  obtain ⟨x, ex⟩ := exHead hres
  obtain ⟨y, ey⟩ := exLast hres
  have mx := allOf_mem (headMem ex)
  have my := allOf_mem (lastMem ey)
  have chain : ∀ (k : List Slot), (∀ s ∈ k, slo s = hdLo l ∧ shi s = lsHi l) → Ch wk k := by
    intro k
    induction k with
    | nil => intro _; exact .nil
    | cons a k ih =>
      intro hk
      cases k with
      | nil => exact .one a
      | cons b k =>
        have q1 := hk a List.mem_cons_self
        have q2 := hk b (List.mem_cons_of_mem _ List.mem_cons_self)
        exact .cons ⟨by omega, by omega, by omega⟩ (ih fun s hs => hk s (List.mem_cons_of_mem _ hs))
  refine ⟨fun e => absurd e hne, fun a ea => ⟨x, ex, ?_, ?_⟩, chain _ fun s hs => allOf_mem hs, fun s hs => ?_, fun z ez => ⟨y, ey, ?_, ?_⟩⟩
  · rw [mx.1, hdLo_of ea]
  · rw [mx.2]; exact (e2 a (headMem ea)).2
  · have := allOf_mem hs; omega
  · rw [my.2, lsHi_of ez]
  · rw [my.1]; exact (e2 z (lastMem ez)).1
end Ink

namespace Ink
end Ink

namespace Ink
theorem Wk.hi {l : List Slot} {z n : Int} (h : Wk l z n) : ∀ s ∈ l, shi s ≤ n := fun s hs => by
  obtain ⟨e, he⟩ := exLast (List.ne_nil_of_mem hs)
  rw [← h.lst e he]
  exact (h.ch.last he s hs).2
theorem Wk.lo {l : List Slot} {z n : Int} (h : Wk l z n) : ∀ s ∈ l, z ≤ slo s := fun s hs => by
  obtain ⟨e, he⟩ := exHead (List.ne_nil_of_mem hs)
  obtain ⟨l', rfl⟩ : ∃ l', l = e :: l' := by
    cases l with
    | nil => cases hs
    | cons x y => exact ⟨y, by rw [Option.some.inj he]⟩
  rw [← h.fst e rfl]
  exact (h.ch.first s hs).1
end Ink

namespace Ink
end Ink

namespace Ink
end Ink
namespace Ink
end Ink
namespace Ink
theorem Ch.at {R : Slot → Slot → Prop} : ∀ {l : List Slot} {i : Nat} {a b : Slot}, Ch R l → l[i]? = some a → l[i + 1]? = some b → R a b
  | [], _, _, _, _, e, _ => by simp at e
  | [_], i, _, _, _, _, e => by simp at e
  | x :: y :: r, 0, a, b, h, e, e' => by
    simp at e e'
    cases h with
    | cons h1 h2 => rw [← e, ← e']; exact h1
  | x :: y :: r, i + 1, a, b, h, e, e' => by
    cases h with
    | cons h1 h2 => exact Ch.at (l := y :: r) (i := i) h2 (by simpa using e) (by simpa using e')
end Ink

namespace Ink
section
variable (wd : Int → Int) (nr : Int → Int → Int)
end
variable {wd : Int → Int} {nr : Int → Int → Int}
/-! bars -/
inductive Bar
  | rule (t a n : Nat)
  | near (a : Nat)
def barOf (ev : List (Int × Bar)) (p : Int) : Option Bar := (ev.find? fun e => decide (e.1 = p)).map (·.2)
theorem barOf_app (ev ew : List (Int × Bar)) (p : Int) : barOf (ev ++ ew) p = (barOf ev p).or (barOf ew p) := by
  unfold barOf
  rw [List.find?_append]
  cases ev.find? fun e => decide (e.1 = p) <;> rfl
theorem barOf_one (q : Int) (b : Bar) (p : Int) : barOf [(q, b)] p = if q = p then some b else none := by
  unfold barOf
  by_cases h : q = p
  · rw [if_pos h]; simp [h]
  · rw [if_neg h]; simp [h]
end Ink

namespace Ink
section
variable (wd : Int → Int) (nr : Int → Int → Int) (sh : List Int)
end
variable {wd : Int → Int} {nr : Int → Int → Int} {sh : List Int}
end Ink

namespace Ink
variable {wd : Int → Int} {nr : Int → Int → Int} {sh : List Int}
end Ink

namespace L2
inductive Ex2 {α0 α1 : Type} (p : α0 → α1 → Prop) : Prop
  | intro (a0 : α0) (a1 : α1) (h : p a0 a1) : Ex2 p
inductive Ex3 {α0 α1 α2 : Type} (p : α0 → α1 → α2 → Prop) : Prop
  | intro (a0 : α0) (a1 : α1) (a2 : α2) (h : p a0 a1 a2) : Ex3 p
inductive Ex4 {α0 α1 α2 α3 : Type} (p : α0 → α1 → α2 → α3 → Prop) : Prop
  | intro (a0 : α0) (a1 : α1) (a2 : α2) (a3 : α3) (h : p a0 a1 a2 a3) : Ex4 p
inductive Ex5 {α0 α1 α2 α3 α4 : Type} (p : α0 → α1 → α2 → α3 → α4 → Prop) : Prop
  | intro (a0 : α0) (a1 : α1) (a2 : α2) (a3 : α3) (a4 : α4) (h : p a0 a1 a2 a3 a4) : Ex5 p
inductive Ex6 {α0 α1 α2 α3 α4 α5 : Type} (p : α0 → α1 → α2 → α3 → α4 → α5 → Prop) : Prop
  | intro (a0 : α0) (a1 : α1) (a2 : α2) (a3 : α3) (a4 : α4) (a5 : α5) (h : p a0 a1 a2 a3 a4 a5) : Ex6 p
inductive And3 (p0 p1 p2 : Prop) : Prop
  | intro (h0 : p0) (h1 : p1) (h2 : p2) : And3 p0 p1 p2
inductive And4 (p0 p1 p2 p3 : Prop) : Prop
  | intro (h0 : p0) (h1 : p1) (h2 : p2) (h3 : p3) : And4 p0 p1 p2 p3
inductive And5 (p0 p1 p2 p3 p4 : Prop) : Prop
  | intro (h0 : p0) (h1 : p1) (h2 : p2) (h3 : p3) (h4 : p4) : And5 p0 p1 p2 p3 p4
inductive And6 (p0 p1 p2 p3 p4 p5 : Prop) : Prop
  | intro (h0 : p0) (h1 : p1) (h2 : p2) (h3 : p3) (h4 : p4) (h5 : p5) : And6 p0 p1 p2 p3 p4 p5
inductive And7 (p0 p1 p2 p3 p4 p5 p6 : Prop) : Prop
  | intro (h0 : p0) (h1 : p1) (h2 : p2) (h3 : p3) (h4 : p4) (h5 : p5) (h6 : p6) : And7 p0 p1 p2 p3 p4 p5 p6
inductive And8 (p0 p1 p2 p3 p4 p5 p6 p7 : Prop) : Prop
  | intro (h0 : p0) (h1 : p1) (h2 : p2) (h3 : p3) (h4 : p4) (h5 : p5) (h6 : p6) (h7 : p7) : And8 p0 p1 p2 p3 p4 p5 p6 p7
end L2

namespace Ink
open PySem L2
/-! what stands in the abstract heap -/
abbrev iv (ns : List Int) : List V := ns.map V.int
def IsT (H : Hp) (v : V) (ns : List Int) : Prop := ∃ a, v = .ref a ∧ H a = some (.tup (iv ns))
def IsL (H : Hp) (v : V) (ns : List Int) : Prop := ∃ a, v = .ref a ∧ H a = some (.lst (iv ns))
def IsRule (H : Hp) (v : V) (r : Rule) : Prop := Ex5 fun a b t h g => And6 (v = .ref a) (H a = some (.tup [b, t, h, g])) (IsT H b r.b) (IsT H t r.t) (IsT H h r.a) (IsT H g r.g)
def IsP (H : Hp) (v : V) (d : Nat × Nat) : Prop := ∃ a, v = .ref a ∧ H a = some (.tup [.int (d.1 : Int), .int (d.2 : Int)])
def IsS (H : Hp) (v : V) (d : Slot) : Prop := ∃ a, v = .ref a ∧ H a = some (.tup [.int d.1, .int d.2.1, .int d.2.2])
def LstOf {α : Type} (R : Hp → V → α → Prop) (H : Hp) (v : V) (ds : List α) : Prop := Ex2 fun a xs => And3 (v = .ref a) (H a = some (.lst xs)) (Paired (R H) xs ds)
abbrev IsRules := LstOf IsRule
abbrev IsSlots := LstOf IsS
/-- kept wherever the tuples are kept -/
def Tps (H H' : Hp) : Prop := ∀ b xs, H b = some (.tup xs) → H' b = some (.tup xs)
theorem tps_of {H H' : Hp} (s : Same H H') : Tps H H' := fun b xs e => s b _ e
theorem Tps.refl (H : Hp) : Tps H H := fun _ _ e => e
theorem Tps.trans {H H1 H2 : Hp} (a : Tps H H1) (b : Tps H1 H2) : Tps H H2 := fun x xs e => b x xs (a x xs e)
theorem Tps.lst {H : Hp} {p : Addr} {xs : List V} {o : HO} (h : H p = some (.lst xs)) : Tps H (upd H p o) := fun b ys e => by
  have : b ≠ p := fun q => by rw [q, h] at e; cases e
  rw [upd_ne this]; exact e
theorem Tps.new {H : Hp} {p : Addr} {o : HO} (h : H p = none) : Tps H (upd H p o) := fun b ys e => by
  rw [upd_ne (ne_of_none e h)]; exact e
theorem same_new {H : Hp} {p : Addr} {o : HO} (h : H p = none) : Same H (upd H p o) := fun b u e => by rw [upd_ne (ne_of_none e h)]; exact e
theorem same_off {H H' : Hp} {p : Addr} {o : HO} (s : Same H H') (h : H p = none) : Same H (upd H' p o) := fun b u e => by rw [upd_ne (ne_of_none e h)]; exact s b u e
theorem IsT.tps {H H' : Hp} {v : V} {ns : List Int} (h : IsT H v ns) (t : Tps H H') : IsT H' v ns := let ⟨a, e, q⟩ := h; ⟨a, e, t a _ q⟩
theorem IsRule.tps {H H' : Hp} {v : V} {r : Rule} (h : IsRule H v r) (t : Tps H H') : IsRule H' v r :=
  let ⟨a, b, x, y, g, e, q, h1, h2, h3, h4⟩ := h; ⟨a, b, x, y, g, e, t a _ q, h1.tps t, h2.tps t, h3.tps t, h4.tps t⟩
theorem IsP.tps {H H' : Hp} {v : V} {d : Nat × Nat} (h : IsP H v d) (t : Tps H H') : IsP H' v d := let ⟨a, e, q⟩ := h; ⟨a, e, t a _ q⟩
theorem IsS.tps {H H' : Hp} {v : V} {d : Slot} (h : IsS H v d) (t : Tps H H') : IsS H' v d := let ⟨a, e, q⟩ := h; ⟨a, e, t a _ q⟩
/-- a relation that hangs on tuples alone -/
def TpsR {α : Type} (R : Hp → V → α → Prop) : Prop := ∀ (H H' : Hp) (v : V) (d : α), R H v d → Tps H H' → R H' v d
theorem tR : TpsR IsRule := fun _ _ _ _ h t => h.tps t
theorem tS : TpsR IsS := fun _ _ _ _ h t => h.tps t
theorem tT : TpsR IsT := fun _ _ _ _ h t => h.tps t
section
variable {α : Type} {R : Hp → V → α → Prop}
theorem pr_tps (t : TpsR R) {H H' : Hp} {xs : List V} {ds : List α} (h : Paired (R H) xs ds) (k : Tps H H') : Paired (R H') xs ds := Paired.imp' (fun _ _ q => t _ _ _ _ q k) h
theorem LstOf.same (t : TpsR R) {H H' : Hp} {v : V} {ds : List α} (h : LstOf R H v ds) (s : Same H H') : LstOf R H' v ds :=
  let ⟨a, xs, e, q, p⟩ := h; ⟨a, xs, e, s a _ q, pr_tps t p (tps_of s)⟩
end
theorem IsL.same {H H' : Hp} {v : V} {ns : List Int} (h : IsL H v ns) (s : Same H H') : IsL H' v ns := let ⟨a, e, q⟩ := h; ⟨a, e, s a _ q⟩
theorem pr_len {α β : Type} {F : α → β → Prop} {xs : List α} {ds : List β} (h : Paired F xs ds) : xs.length = ds.length := Paired.length h
theorem pr_get {α β : Type} {F : α → β → Prop} : ∀ {xs : List α} {ds : List β} {i : Nat} {x : α}, Paired F xs ds → xs[i]? = some x → ∃ d, ds[i]? = some d ∧ F x d
  | _, _, _, _, .nil, e => by simp at e
  | _, _, 0, _, .cons r _, e => ⟨_, rfl, by simp at e; exact e ▸ r⟩
  | _, _, i + 1, x, .cons _ t, e => by
    obtain ⟨d, h1, h2⟩ := pr_get (i := i) (x := x) t (by simpa using e)
    exact ⟨d, by simpa using h1, h2⟩
theorem pr_app {α β : Type} {F : α → β → Prop} : ∀ {xs ys : List α} {ds es : List β}, Paired F xs ds → Paired F ys es → Paired F (xs ++ ys) (ds ++ es)
  | _, _, _, _, .nil, h => h
  | _, _, _, _, .cons r t, h => .cons r (pr_app t h)
theorem at_iv {ns : List Int} {i : Nat} {x : V} (h : (iv ns)[i]? = some x) : ∃ n, ns[i]? = some n ∧ x = .int n := by
  rw [List.getElem?_map] at h
  cases e : ns[i]? with
  | none => rw [e] at h; cases h
  | some n => rw [e] at h; exact ⟨n, rfl, (Option.some.inj h).symm⟩
theorem atI_iv {ns : List Int} {i : Nat} {n : Int} (h : ns[i]? = some n) : atI (iv ns) (i : Int) = some (.int n) := atI_nat (by rw [List.getElem?_map, h]; rfl)
theorem small {n : Nat} (h : n ≤ 100000) : n < sizeLine := Nat.lt_of_le_of_lt h (by decide)
theorem small' {n : Nat} (h : n ≤ 100000) : n ≤ sizeLine := Nat.le_of_lt (small h)
/-- a module's whole number -/
theorem pe_gint {X : Cx} {x : Str} {i : Int} {pos : Pos} (hg : Gl X x) (hm : ∃ t, X.mg x = some (.int i t)) (hd : (x == ("__debug__" : Str)) = false := by decide) : PE X (.Name x pos) (tC (.int i)) :=
  let ⟨t, e⟩ := hm; pe_glob hg e ⟨t, rfl⟩ hd
theorem units30 {A : Around} {k : Nat} (hr : Room k A) : A.units + 30 < cLine := by have := hr.un; omega
/-- a def of the text: its address, how it is bound and named -/
structure Dn (K : PySem.W.Frag) (mg : Str → Option Value) (x : Str) (st : Stmt) (ps : List Str) (f : Addr) (fd : FuncData) : Prop where
  F : Fun K x x st f fd
  b : Binds K fd ps []
  m : mg x = some (.ref f)
/-- == of a made tuple of whole numbers with another -/
theorem eqT {K : PySem.W.Frag} {H : Hp} {a b : Addr} {ns ms : List Int} (ne : a ≠ b) (ha : H a = some (.tup (iv ns))) (hb : H b = some (.tup (iv ms))) : EqV K H 1 (.ref a) (.ref b) (decide (ns = ms)) := by
  have e := EqV.tup (K := K) (n := 0) (e := fun j => (ns.getD j 0) == (ms.getD j 0)) ne (SqT.of ha) (SqT.of hb) fun j x y hx hy => by
    obtain ⟨n, en, rfl⟩ := at_iv hx
    obtain ⟨m, em, rfl⟩ := at_iv hy
    have e1 : ns.getD j 0 = n := by rw [List.getD_eq_getElem?_getD, en]; rfl
    have e2 : ms.getD j 0 = m := by rw [List.getD_eq_getElem?_getD, em]; rfl
    rw [e1, e2]
    exact .int n m
  have q : ((List.range (min (iv ns).length (iv ms).length)).all (fun j => (ns.getD j 0) == (ms.getD j 0)) && (iv ns).length == (iv ms).length) = decide (ns = ms) := by
    rw [Bool.eq_iff_iff]
    simp only [List.length_map, Bool.and_eq_true, List.all_eq_true, List.mem_range, beq_iff_eq, decide_eq_true_eq]
    constructor
    · rintro ⟨h1, h2⟩
      refine List.ext_getElem h2 fun i h3 h4 => ?_
      have := h1 i (by omega)
      rw [List.getD_eq_getElem?_getD, List.getD_eq_getElem?_getD, List.getElem?_eq_getElem h3, List.getElem?_eq_getElem h4] at this
      exact this
    · rintro rfl
      exact ⟨fun _ _ => rfl, rfl⟩
  rw [q] at e
  exact e
end Ink
namespace Ink
open PySem L2
theorem iv_len (l : List Int) : (iv l).length = l.length := List.length_map _
theorem iv_app (l m : List Int) : iv (l ++ m) = iv l ++ iv m := List.map_append
end Ink
namespace Ink
open PySem L2
theorem take_snoc {α : Type} {l : List α} {i : Nat} {x : α} (h : l[i]? = some x) : l.take (i + 1) = l.take i ++ [x] := by
  rw [List.take_add_one, h]; rfl
end Ink

namespace L2
open PySem PySem.Spec PyProof.Rows
theorem PI.or {X : Cx} {tg e : Expr} {wi wi' : TI} (h : PI X tg e wi) (h' : PI X tg e wi') : PI X tg e (fun σ H R => wi σ H R ∨ wi' σ H R) := fun pins s σ H R I q => q.elim (h pins s σ H R I) (h' pins s σ H R I)
end L2
namespace Ink
open PySem L2
/-! the law's own -/
inductive SpCellAtI (K : PySem.W.Frag) (vs : List V) (H : Hp) (Q : VK) (E_ : XK) : Prop
  | mk (a ns : _) (k : Int) (z0 : vs = [.ref a, .int k]) (z1 : 0 ≤ k) (z2 : SqL K H a (iv ns)) (z3 : ∀ c : Int, Q (.int c) H) : SpCellAtI K vs H Q E_
def spCellAt (K : PySem.W.Frag) : Sp := fun vs H Q E => SpCellAtI K vs H Q E
def IsCaseV (H : Hp) (v : V) (ps : List (List Rule)) (vw vn : V) : Prop := Ex4 fun a vp b xs => And5 (v = .ref a) (H a = some (.tup [vp, vw, vn])) (vp = .ref b) (H b = some (.lst xs)) (Paired (IsRules H) xs ps)
theorem prR_same {H H' : Hp} {xs : List V} {ps : List (List Rule)} (h : Paired (IsRules H) xs ps) (s : Same H H') : Paired (IsRules H') xs ps := Paired.imp' (fun _ _ q => q.same tR s) h
theorem IsCaseV.same {H H' : Hp} {v vw vn : V} {ps : List (List Rule)} (h : IsCaseV H v ps vw vn) (s : Same H H') : IsCaseV H' v ps vw vn :=
  let ⟨a, vp, b, xs, e, q, e2, q2, p⟩ := h; ⟨a, vp, b, xs, e, s a _ q, e2, s b _ q2, prR_same p s⟩
inductive SpWholeI (vs : List V) (H : Hp) (Q : VK) (E_ : XK) : Prop
  | mk (i : _) (z0 : vs = [.int i]) (z1 : Q (.bl true) H) : SpWholeI  vs H Q E_
def spWhole : Sp := fun vs H Q E => SpWholeI  vs H Q E
inductive SpMixI (vs : List V) (H : Hp) (Q : VK) (E_ : XK) : Prop
  | mk (c k : _) (z0 : vs = [.int c, .int k]) (z1 : ∀ m : Int, 0 ≤ m → m < 2147483647 → Q (.int m) H) : SpMixI  vs H Q E_
def spMix : Sp := fun vs H Q E => SpMixI  vs H Q E
/-- a list of passes: each a list of its own, none of them the list itself -/
def IsPasses (H : Hp) (v : V) (ps : List (List Rule)) : Prop := Ex2 fun a xs => And3 (v = .ref a) (H a = some (.lst xs)) (Paired (fun x rs => x ≠ .ref a ∧ IsRules H x rs) xs ps)
theorem IsPasses.same {H H' : Hp} {v : V} {ps : List (List Rule)} (h : IsPasses H v ps) (s : Same H H') : IsPasses H' v ps :=
  let ⟨a, xs, e, q, p⟩ := h; ⟨a, xs, e, s a _ q, Paired.imp' (fun _ _ z => ⟨z.1, z.2.same tR s⟩) p⟩
inductive SpLawI (K : PySem.W.Frag) (vs : List V) (H : Hp) (Q : VK) (E_ : XK) : Prop
  | mk (a : Addr) (ns : List Int) (z0 : vs = [.ref a]) (z1 : SqL K H a (iv ns)) (z2 : ns.length ≤ 63) (z3 : ∀ H', Q (.bl true) H') : SpLawI K vs H Q E_
def spLaw (K : PySem.W.Frag) : Sp := fun vs H Q E => SpLawI K vs H Q E
end Ink
namespace Ink
open PySem L2
end Ink
namespace Ink
open PySem L2
theorem IsS.t {H : Hp} {v : V} {d : Slot} (h : IsS H v d) : IsT H v [d.1, d.2.1, d.2.2] := h
theorem IsP.t {H : Hp} {v : V} {d : Nat × Nat} (h : IsP H v d) : IsT H v [(d.1 : Int), (d.2 : Int)] := h
end Ink
namespace Ink
open PySem L2
def IntVals {κ : Type} [DecidableEq κ] (kvs : List (κ × V)) : Prop := ∀ k v, valV kvs k = some v → ∃ i, v = .int i
def IsW (H : Hp) (v : V) (kvs : List (Key × V)) : Prop := ∃ a, v = .ref a ∧ H a = some (.dK kvs) ∧ IntVals kvs
def IsN (H : Hp) (v : V) (kvs : List (List Key × V)) : Prop := ∃ a, v = .ref a ∧ H a = some (.dT kvs) ∧ IntVals kvs
theorem IsW.same {H H' : Hp} {v : V} {kvs : List (Key × V)} (h : IsW H v kvs) (s : Same H H') : IsW H' v kvs := let ⟨a, e, q, i⟩ := h; ⟨a, e, s a _ q, i⟩
theorem IsN.same {H H' : Hp} {v : V} {kvs : List (List Key × V)} (h : IsN H v kvs) (s : Same H H') : IsN H' v kvs := let ⟨a, e, q, i⟩ := h; ⟨a, e, s a _ q, i⟩
def IsCase (H : Hp) (v : V) (ps : List (List Rule)) (kw : List (Key × V)) (kn : List (List Key × V)) : Prop := Ex2 fun vw vn => And3 (IsCaseV H v ps vw vn) (IsW H vw kw) (IsN H vn kn)
theorem IsCase.same {H H' : Hp} {v : V} {ps : List (List Rule)} {kw : List (Key × V)} {kn : List (List Key × V)} (h : IsCase H v ps kw kn) (s : Same H H') : IsCase H' v ps kw kn :=
  let ⟨vw, vn, c, w, n⟩ := h; ⟨vw, vn, c.same s, w.same s, n.same s⟩
end Ink
namespace Ink
open PySem L2
end Ink
namespace Ink
open PySem L2
end Ink
namespace Ink
open PySem L2
/-- two lists, each the other's copy -/
def Cp (H : Hp) (x y : V) : Prop := Ex3 fun a b zs => And6 (x = .ref a) (y = .ref b) (a ≠ b) (H a = some (.lst zs)) (H b = some (.lst zs)) (∀ z ∈ zs, ∃ q, z = .ref q)
theorem Cp.same {H H' : Hp} {x y : V} (h : Cp H x y) (s : Same H H') : Cp H' x y :=
  let ⟨a, b, zs, e1, e2, ne, h1, h2, h3⟩ := h; ⟨a, b, zs, e1, e2, ne, s _ _ h1, s _ _ h2, h3⟩
end Ink
namespace Ink
open PySem L2
/-- y is a new copy of the list x of the heap Hb -/
def Cq (Hb H : Hp) (D : Addr) (x y : V) : Prop := Ex3 fun a b zs => And7 (x = .ref a) (y = .ref b) (b ≠ D) (Hb a = some (.lst zs)) (Hb b = none) (H b = some (.lst zs)) (∀ z ∈ zs, ∃ q, z = .ref q)
theorem Cq.step {Hb H : Hp} {D l : Addr} {x y : V} {o o' : HO} (h : Cq Hb H D x y) (hl : H l = none) : Cq Hb (upd (upd H l o) D o') D x y := by
  obtain ⟨a, b, zs, e1, e2, n, h1, h2, h3, h4⟩ := h
  exact ⟨a, b, zs, e1, e2, n, h1, h2, by rw [upd_ne n, upd_ne (ne_of_none h3 hl)]; exact h3, h4⟩
theorem Cq.same {Hb H H' : Hp} {D : Addr} {x y : V} (h : Cq Hb H D x y) (s : Same H H') : Cq Hb H' D x y := by
  obtain ⟨a, b, zs, e1, e2, n, h1, h2, h3, h4⟩ := h
  exact ⟨a, b, zs, e1, e2, n, h1, h2, s _ _ h3, h4⟩
theorem Cq.cp {Hb H : Hp} {D : Addr} {x y : V} (h : Cq Hb H D x y) (s : Same Hb H) : Cp H x y := by
  obtain ⟨a, b, zs, e1, e2, n, h1, h2, h3, h4⟩ := h
  exact ⟨a, b, zs, e1, e2, ne_of_none h1 h2, s _ _ h1, h3, h4⟩
end Ink
namespace Ink
open PySem L2
def IsBar (H : Hp) (v : V) : Bar → Prop
  | .rule t a n => ∃ q, v = .ref q ∧ H q = some (.tup [.str "rule", .int (t : Int), .int (a : Int), .int (n : Int)])
  | .near a => ∃ q, v = .ref q ∧ H q = some (.tup [.str "near", .int (a : Int)])
theorem tBar : TpsR IsBar := fun _ _ _ b h t => match b, h with
  | .rule _ _ _, ⟨q, e, h⟩ => ⟨q, e, t q _ h⟩
  | .near _, ⟨q, e, h⟩ => ⟨q, e, t q _ h⟩
/-- the dict holds the first bar of each place -/
def BR (H : Hp) (kvs : List (Key × V)) (ev : List (Int × Bar)) : Prop := ∀ p : Int, (barOf ev p = none ∧ valV kvs (Sum.inl p) = none) ∨ ∃ b v, barOf ev p = some b ∧ valV kvs (Sum.inl p) = some v ∧ IsBar H v b
theorem BR.tps {H H' : Hp} {kvs : List (Key × V)} {ev : List (Int × Bar)} (h : BR H kvs ev) (t : Tps H H') : BR H' kvs ev := fun p => (h p).imp id fun ⟨b, v, h1, h2, h3⟩ => ⟨b, v, h1, h2, tBar _ _ _ _ h3 t⟩
theorem BR.old {H : Hp} {kvs : List (Key × V)} {ev : List (Int × Bar)} {q : Int} {b : Bar} {v : V} (h : BR H kvs ev) (hv : valV kvs (Sum.inl q) = some v) : BR H kvs (ev ++ [(q, b)]) := fun p => by
  rw [barOf_app, barOf_one]
  rcases h p with ⟨h1, h2⟩ | ⟨b', v', h1, h2, h3⟩
  · have : q ≠ p := fun z => by rw [z, h2] at hv; cases hv
    rw [h1, if_neg this]; exact .inl ⟨rfl, h2⟩
  · rw [h1]; exact .inr ⟨b', v', rfl, h2, h3⟩
theorem BR.new {H : Hp} {kvs : List (Key × V)} {ev : List (Int × Bar)} {q : Int} {b : Bar} {v : V} (h : BR H kvs ev) (hv : valV kvs (Sum.inl q) = none) (hb : IsBar H v b) : BR H (putK kvs (Sum.inl q) v) (ev ++ [(q, b)]) := fun p => by
  rw [barOf_app, barOf_one, valV_put]
  by_cases e : p = q
  · subst e
    rcases h p with ⟨h1, _⟩ | ⟨b', v', _, h2, _⟩
    · rw [h1, if_pos rfl, if_pos rfl]; exact .inr ⟨b, v, rfl, rfl, hb⟩
    · rw [hv] at h2; cases h2
  · rw [if_neg (fun z => e (Sum.inl.inj z)), if_neg (fun z => e z.symm)]
    rcases h p with ⟨h1, h2⟩ | ⟨b', v', h1, h2, h3⟩
    · rw [h1]; exact .inl ⟨rfl, h2⟩
    · rw [h1]; exact .inr ⟨b', v', rfl, h2, h3⟩
/-- the keys: whole numbers from 1 to n, each once -/
def KeysIn (n : Nat) (kvs : List (Key × V)) : Prop := (kvs.map (·.1)).Nodup ∧ ∀ k ∈ kvs.map (·.1), ∃ i : Nat, k = Sum.inl (i : Int) ∧ 1 ≤ i ∧ i ≤ n
theorem nodup_filter_len (a : Key) : ∀ {ks : List Key}, ks.Nodup → ks.length ≤ (ks.filter fun k => decide (k ≠ a)).length + 1
  | [], _ => Nat.zero_le _
  | k :: ks, nd => by
    rw [List.nodup_cons] at nd
    by_cases e : k = a
    · have : ks.filter (fun k => decide (k ≠ a)) = ks := List.filter_eq_self.mpr fun x hx => decide_eq_true fun q => nd.1 (by rw [e, ← q]; exact hx)
      rw [List.filter_cons_of_neg (by simp [e]), this]; exact Nat.le_refl _
    · have := nodup_filter_len a nd.2
      rw [List.filter_cons_of_pos (by simp [e])]
      simp only [List.length_cons]; omega
theorem keys_len : ∀ {n : Nat} {ks : List Key}, ks.Nodup → (∀ k ∈ ks, ∃ i : Nat, k = Sum.inl (i : Int) ∧ 1 ≤ i ∧ i ≤ n) → ks.length ≤ n := by
  intro n
  induction n with
  | zero =>
    intro ks _ h
    cases ks with
    | nil => exact Nat.le_refl _
    | cons k ks => obtain ⟨i, _, h1, h2⟩ := h k List.mem_cons_self; omega
  | succ n ih =>
    intro ks nd h
    have h1 := nodup_filter_len (Sum.inl ((n + 1 : Nat) : Int)) nd
    have h2 := ih (ks := ks.filter fun k => decide (k ≠ Sum.inl ((n + 1 : Nat) : Int))) (List.Pairwise.filter _ nd) fun k hk => by
      rw [List.mem_filter] at hk
      obtain ⟨i, e, h1, h2⟩ := h k hk.1
      refine ⟨i, e, h1, ?_⟩
      have : i ≠ n + 1 := fun q => of_decide_eq_true hk.2 (by rw [e, q])
      omega
    omega
theorem KeysIn.len {n : Nat} {kvs : List (Key × V)} (h : KeysIn n kvs) : kvs.length ≤ n := by
  have := keys_len h.1 h.2
  rw [List.length_map] at this; exact this
/-- all but q stays -/
def SameX (q : Addr) (H H' : Hp) : Prop := ∀ b o, b ≠ q → H b = some o → H' b = some o
theorem SameX.refl (q : Addr) (H : Hp) : SameX q H H := fun _ _ _ e => e
theorem SameX.trans {q : Addr} {H H1 H2 : Hp} (a : SameX q H H1) (b : SameX q H1 H2) : SameX q H H2 := fun x o n e => b x o n (a x o n e)
theorem SameX.of {q : Addr} {H H1 : Hp} (a : Same H H1) : SameX q H H1 := fun x o _ e => a x o e
theorem SameX.upd {q : Addr} {H : Hp} {o : HO} : SameX q H (upd H q o) := fun _ _ n e => by rw [upd_ne n]; exact e
theorem SameX.same {q : Addr} {H C H' : Hp} (h : SameX q C H') (s : Same H C) (hq : H q = none) : Same H H' := fun b o e => h b o (ne_of_none e hq) (s b o e)
theorem SameX.tps {q : Addr} {H H' : Hp} {kvs : List (Key × V)} (h : SameX q H H') (hq : H q = some (.dK kvs)) : Tps H H' := fun b xs e => h b _ (fun z => by rw [z, hq] at e; cases e) e
theorem SameX.slots {q : Addr} {H H' : Hp} {kvs : List (Key × V)} {v : V} {sl : List Slot} (h : SameX q H H') (hq : H q = some (.dK kvs)) (hs : IsSlots H v sl) : IsSlots H' v sl := by
  obtain ⟨a, xs, e, h1, h2⟩ := hs
  exact ⟨a, xs, e, h a _ (fun z => by rw [z, hq] at h1; cases h1) h1, pr_tps tS h2 (h.tps hq)⟩
end Ink
namespace Ink
open PySem L2
theorem SameX.new {q : Addr} {H H' : Hp} (h : SameX q H H') {p : Addr} (hp : H' p = none) (hq : H' q ≠ none) : H p = none := by
  cases e : H p with
  | none => rfl
  | some o =>
    by_cases z : p = q
    · rw [z] at hp; exact absurd hp hq
    · rw [h p o z e] at hp; cases hp
end Ink
namespace Ink
end Ink
namespace Ink
open PySem L2
end Ink
namespace Ink
open PySem L2
end Ink
namespace Ink
end Ink
namespace Ink
open PySem L2
end Ink
namespace Ink
open PySem L2
end Ink
namespace Ink
end Ink
namespace Ink
open PySem L2
def stockL (s : Int) (m : Nat) : List Int := (List.range m).map fun (k : Nat) => s * (k : Int) + s / 50
def StockOk (ns : List Int) : Prop := Ex2 fun s m => And3 ((s = 1 ∨ s = 197)) (m ≤ 5) (ns = stockL s m)
structure WOk (kvs : List (Key × V)) : Prop where
  i : AllI kvs
  l : AllL (kvs.map (·.1))
  n : (kvs.map (·.1)).Nodup
structure NOk (st : List Int) (kvs : List (List Key × V)) : Prop where
  i : AllI kvs
  l : ∀ kv ∈ kvs, ∃ a b, a ∈ st ∧ b ∈ st ∧ kv.1 = [Sum.inl a, Sum.inl b]
  n : (kvs.map (·.1)).Nodup
theorem NOk.all {st : List Int} {kvs : List (List Key × V)} (h : NOk st kvs) : ∀ kv ∈ kvs, AllL kv.1 := fun kv m k hk => by
  obtain ⟨a, b, _, _, e⟩ := h.l kv m
  rw [e] at hk
  rcases List.mem_cons.mp hk with rfl | hk
  · exact ⟨a, rfl⟩
  · exact ⟨b, List.mem_singleton.mp hk⟩
/-! the hashes of the pairs of a stock all differ -/
def hK (k : List Key) : Int := reduceHash (Builtin.Tuple.tupleHashOf (k.map fun k => match k with | .inl i => hashInt i | .inr _ => 0))
def pairsL (l : List Int) : List (List Key) := (l.map fun a => l.map fun b => [Sum.inl a, Sum.inl b]).flatten
theorem hash1 : ((pairsL [0, 1, 2, 3, 4]).map hK).Nodup := by decide +kernel
theorem hash197 : ((pairsL [3, 200, 397, 594, 791]).map hK).Nodup := by decide +kernel
theorem inj_of {α β : Type} {f : α → β} : ∀ {l : List α}, (l.map f).Nodup → ∀ a ∈ l, ∀ b ∈ l, f a = f b → a = b
  | [], _, a, h, _, _, _ => by cases h
  | x :: l, nd, a, ha, b, hb, e => by
    rw [List.map_cons, List.nodup_cons] at nd
    rcases List.mem_cons.mp ha with q1 | q1
    · rcases List.mem_cons.mp hb with q2 | q2
      · rw [q1, q2]
      · exact absurd (List.mem_map.mpr ⟨b, q2, by rw [← e, q1]⟩) nd.1
    · rcases List.mem_cons.mp hb with q2 | q2
      · exact absurd (List.mem_map.mpr ⟨a, q1, by rw [e, q2]⟩) nd.1
      · exact inj_of nd.2 a q1 b q2 e
theorem nodup_inj {α β : Type} {f : α → β} : ∀ {l : List α}, l.Nodup → (∀ a ∈ l, ∀ b ∈ l, f a = f b → a = b) → (l.map f).Nodup
  | [], _, _ => List.nodup_nil
  | x :: l, nd, h => by
    rw [List.nodup_cons] at nd
    rw [List.map_cons, List.nodup_cons]
    refine ⟨fun hm => ?_, nodup_inj nd.2 fun a ha b hb => h a (List.mem_cons_of_mem _ ha) b (List.mem_cons_of_mem _ hb)⟩
    obtain ⟨b, hb, e⟩ := List.mem_map.mp hm
    exact nd.1 (h b (List.mem_cons_of_mem _ hb) x List.mem_cons_self e ▸ hb)
theorem mem_pairsL {l : List Int} {a b : Int} (ha : a ∈ l) (hb : b ∈ l) : ([Sum.inl a, Sum.inl b] : List Key) ∈ pairsL l := List.mem_flatten.mpr ⟨_, List.mem_map.mpr ⟨a, ha, rfl⟩, List.mem_map.mpr ⟨b, hb, rfl⟩⟩
theorem stock_in {st : List Int} (h : StockOk st) : (∀ a ∈ st, a ∈ ([0, 1, 2, 3, 4] : List Int)) ∨ ∀ a ∈ st, a ∈ ([3, 200, 397, 594, 791] : List Int) := by
  obtain ⟨s, m, hs, hm, rfl⟩ := h
  rcases hs with rfl | rfl
  · refine .inl fun a ha => ?_
    unfold stockL at ha
    obtain ⟨k, hk, rfl⟩ := List.mem_map.mp ha
    rw [List.mem_range] at hk
    have : k < 5 := by omega
    match k, this with
    | 0, _ => decide
    | 1, _ => decide
    | 2, _ => decide
    | 3, _ => decide
    | 4, _ => decide
  · refine .inr fun a ha => ?_
    unfold stockL at ha
    obtain ⟨k, hk, rfl⟩ := List.mem_map.mp ha
    rw [List.mem_range] at hk
    have : k < 5 := by omega
    match k, this with
    | 0, _ => decide
    | 1, _ => decide
    | 2, _ => decide
    | 3, _ => decide
    | 4, _ => decide
theorem NOk.hash {st : List Int} {kvs : List (List Key × V)} (h : NOk st kvs) (hs : StockOk st) : HashOk kvs := by
  have e : HashOk kvs ↔ ((kvs.map (·.1)).map hK).Nodup := by
    unfold HashOk; rw [List.map_map]; rfl
  rw [e]
  refine nodup_inj h.n fun a ha b hb q => ?_
  obtain ⟨p, hp, rfl⟩ := List.mem_map.mp ha
  obtain ⟨p', hp', rfl⟩ := List.mem_map.mp hb
  obtain ⟨a1, a2, m1, m2, e1⟩ := h.l p hp
  obtain ⟨b1, b2, n1, n2, e2⟩ := h.l p' hp'
  rw [e1, e2] at q ⊢
  rcases stock_in hs with hin | hin
  · exact inj_of hash1 _ (mem_pairsL (hin _ m1) (hin _ m2)) _ (mem_pairsL (hin _ n1) (hin _ n2)) q
  · exact inj_of hash197 _ (mem_pairsL (hin _ m1) (hin _ m2)) _ (mem_pairsL (hin _ n1) (hin _ n2)) q
end Ink
namespace Ink
open PySem L2
/-- what the lists of the passes hold -/
def Conts (H : Hp) : List V → List (List V) → Prop := Paired fun x zs => ∃ a, x = .ref a ∧ H a = some (.lst zs) ∧ ∀ z ∈ zs, ∃ q, z = .ref q
theorem Conts.same {H H' : Hp} {xs : List V} {zss : List (List V)} (h : Conts H xs zss) (s : Same H H') : Conts H' xs zss := Paired.imp' (fun _ _ ⟨a, e, q, r⟩ => ⟨a, e, s a _ q, r⟩) h
structure IsCopy (B H : Hp) (t : Addr) (zss : List (List V)) (kw : List (Key × V)) (kn : List (List Key × V)) (row : List Int) : Prop where
  ex : ∃ D w n l ys, H t = some (.tup [.ref D, .ref w, .ref n, .ref l]) ∧ H D = some (.lst ys) ∧ Paired (fun (zs : List V) y => ∃ b, y = .ref b ∧ B b = none ∧ H b = some (.lst zs) ∧ ∀ z ∈ zs, ∃ q, z = .ref q) zss ys ∧ H w = some (.dK kw) ∧ H n = some (.dT kn) ∧ H l = some (.lst (iv row)) ∧ B D = none ∧ B w = none ∧ B n = none ∧ B l = none
theorem IsCopy.same {B H H' : Hp} {t : Addr} {zss : List (List V)} {kw : List (Key × V)} {kn : List (List Key × V)} {row : List Int} (c : IsCopy B H t zss kw kn row) (s : Same H H') : IsCopy B H' t zss kw kn row := by
  obtain ⟨D, w, n, l, ys, h1, h2, h3, h4, h5, h6, h7⟩ := c.ex
  exact ⟨D, w, n, l, ys, s _ _ h1, s _ _ h2, Paired.imp' (fun _ _ zz1 => by obtain ⟨b, e, q, r, z⟩ := zz1; exact ⟨b, e, q, s _ _ r, z⟩) h3, s _ _ h4, s _ _ h5, s _ _ h6, h7⟩
end Ink
namespace Ink
open PySem L2
end Ink
namespace Ink
open PySem L2
end Ink

namespace Ink
open PySem L2
/-! ### texts by their signs -/
abbrev cp (x : Str) : List Nat := x.cps.toList
theorem str_ext {x y : Str} (h : cp x = cp y) : x = y := by
  cases x; cases y
  simp only [Str.mk.injEq]
  exact Array.toList_inj.mp h
theorem cp_app (x y : Str) : cp (x ++ y) = cp x ++ cp y := PyProof.Rows.cps_toList_append x y
theorem cp_empty : cp Str.empty = [] := rfl
def sx (n : Int) : Str := Str.ofString (toString n)
def glue (c : List Nat) : List (List Nat) → List Nat
  | [] => []
  | [p] => p
  | p :: q :: r => p ++ c ++ glue c (q :: r)
theorem foldl_glue (c : Str) : ∀ (ps : List Str) (acc : Array Nat), (ps.foldl (fun acc p => acc ++ c.cps ++ p.cps) acc).toList = acc.toList ++ (ps.map fun p => cp c ++ cp p).flatten
  | [], acc => by simp
  | p :: ps, acc => by
    rw [List.foldl_cons, foldl_glue c ps]
    simp [cp, List.append_assoc]
theorem glue_cons (c : List Nat) (p : List Nat) (ps : List (List Nat)) : glue c (p :: ps) = p ++ (ps.map fun q => c ++ q).flatten := by
  induction ps generalizing p with
  | nil => simp [glue]
  | cons q r ih => rw [glue, ih]; simp [List.append_assoc]
theorem cp_join (c : Str) (ps : List Str) : cp (Txt.join c ps) = glue (cp c) (ps.map cp) := by
  cases ps with
  | nil => rfl
  | cons p ps =>
    show ((List.drop 1 (p :: ps)).foldl (fun acc p => acc ++ c.cps ++ p.cps) p.cps).toList = _
    rw [List.map_cons, glue_cons]
    show ((ps).foldl (fun acc p => acc ++ c.cps ++ p.cps) p.cps).toList = _
    rw [foldl_glue, List.map_map]
    rfl
/-! ### a text is split in one way -/
theorem glue_inj {c : Nat} : ∀ {ps qs : List (List Nat)}, (∀ p ∈ ps, c ∉ p) → (∀ q ∈ qs, c ∉ q) → ps ≠ [] → qs ≠ [] → glue [c] ps = glue [c] qs → ps = qs
  | [], _, _, _, h, _, _ => absurd rfl h
  | _, [], _, _, _, h, _ => absurd rfl h
  | [p], [q], _, _, _, _, e => by simpa [glue] using e
  | [p], q :: q2 :: qs, hp, hq, _, _, e => by
    have : c ∈ p := by rw [show p = _ from e]; simp [glue]
    exact absurd this (hp p List.mem_cons_self)
  | p :: p2 :: ps, [q], hp, hq, _, _, e => by
    have : c ∈ q := by rw [← (show _ = q from e)]; simp [glue]
    exact absurd this (hq q List.mem_cons_self)
  | p :: p2 :: ps, q :: q2 :: qs, hp, hq, _, _, e => by
    have e' : p ++ c :: glue [c] (p2 :: ps) = q ++ c :: glue [c] (q2 :: qs) := by simpa [glue, List.append_assoc] using e
    have h : ∀ (p q r s : List Nat), c ∉ p → c ∉ q → p ++ c :: r = q ++ c :: s → p = q ∧ r = s := by
      intro p
      induction p with
      | nil =>
        intro q r s _ hq e
        cases q with
        | nil => exact ⟨rfl, by simpa using e⟩
        | cons d q =>
          rw [List.nil_append, List.cons_append] at e
          exact absurd (List.cons.inj e).1 (fun z => hq (by rw [z]; exact List.mem_cons_self))
      | cons d p ih =>
        intro q r s hp hq e
        cases q with
        | nil =>
          rw [List.nil_append, List.cons_append] at e
          exact absurd (List.cons.inj e).1.symm (fun z => hp (by rw [z]; exact List.mem_cons_self))
        | cons d' q =>
          rw [List.cons_append, List.cons_append] at e
          obtain ⟨e1, e2⟩ := List.cons.inj e
          subst e1
          obtain ⟨rfl, rfl⟩ := ih q r s (fun z => hp (List.mem_cons_of_mem _ z)) (fun z => hq (List.mem_cons_of_mem _ z)) e2
          exact ⟨rfl, rfl⟩
    obtain ⟨rfl, e2⟩ := h p q _ _ (hp p List.mem_cons_self) (hq q List.mem_cons_self) e'
    rw [glue_inj (fun z hz => hp z (List.mem_cons_of_mem _ hz)) (fun z hz => hq z (List.mem_cons_of_mem _ hz)) (by simp) (by simp) e2]
theorem split_of {x : Str} {c : Nat} {ps : List Str} (hne : ps ≠ []) (hf : ∀ p ∈ ps, c ∉ cp p) (e : cp x = glue [c] (ps.map cp)) : Txt.split x ⟨#[c]⟩ = ps := by
  have h1 := StrLaws.join_split x ⟨#[c]⟩
  have h2 := StrLaws.split_free x c
  have h3 : cp x = glue [c] ((Txt.split x ⟨#[c]⟩).map cp) := by
    conv => lhs; rw [← h1]
    rw [← StrLaws.glued_eq_join]
    exact cp_join ⟨#[c]⟩ _
  have hn : Txt.split x ⟨#[c]⟩ ≠ [] := fun z => by
    have := PyProof.Rows.split_pos x ⟨#[c]⟩
    rw [z] at this
    exact absurd this (by decide)
  have := glue_inj (ps := (Txt.split x ⟨#[c]⟩).map cp) (qs := ps.map cp) (fun p hp => by obtain ⟨q, hq, rfl⟩ := List.mem_map.mp hp; exact h2 q hq) (fun p hp => by obtain ⟨q, hq, rfl⟩ := List.mem_map.mp hp; exact hf q hq)
    (by simpa using hn) (by simpa using hne) (h3.symm.trans e)
  have inj : ∀ {l m : List Str}, l.map cp = m.map cp → l = m := by
    intro l
    induction l with
    | nil => intro m h; cases m with | nil => rfl | cons _ _ => cases h
    | cons a l ih =>
      intro m h
      cases m with
      | nil => cases h
      | cons b m => rw [List.map_cons, List.map_cons] at h; obtain ⟨h1, h2⟩ := List.cons.inj h; rw [str_ext h1, ih h2]
  exact inj this
theorem repl_of {x z : Str} {c : Nat} {ps : List Str} (hne : ps ≠ []) (hf : ∀ p ∈ ps, c ∉ cp p) (e : cp x = glue [c] (ps.map cp)) : cp (Txt.replace x ⟨#[c]⟩ z) = glue (cp z) (ps.map cp) := by
  rw [StrLaws.replace_one, split_of hne hf e, ← StrLaws.glued_eq_join]
  exact cp_join z ps
/-! ### numbers as texts -/
def In3 (n : Int) : Prop := 0 ≤ n ∧ n < 1000
theorem sx_free {n : Int} {c : Nat} (h : c ≠ 45 ∧ (c < 48 ∨ 57 < c)) : c ∉ cp (sx n) := PyProof.Rows.int_text_free' c h n
theorem sx_dig {n : Int} (h : In3 n) : ∀ c ∈ cp (sx n), 48 ≤ c ∧ c ≤ 57 := by
  obtain ⟨m, rfl⟩ := Int.eq_ofNat_of_zero_le h.1
  intro c hc
  have hc' : c ∈ (Nat.toDigits 10 m).map Char.toNat := by rw [← PySem.W.KIN.signs_num]; exact hc
  obtain ⟨ch, hch, rfl⟩ := List.mem_map.mp hc'
  exact PyProof.Rows.digit_range (Nat.isDigit_of_mem_toDigits (by decide) (by decide) hch)
theorem sx_len {n : Int} (h : In3 n) : (sx n).length ≤ 3 := PyProof.Rows.toString_length_le h.1 (by decide) h.2
theorem sx_ne {n : Int} (h : In3 n) : cp (sx n) ≠ [] := by
  obtain ⟨m, rfl⟩ := Int.eq_ofNat_of_zero_le h.1
  show (Str.ofString (toString ((m : Nat) : Int))).cps.toList ≠ []
  rw [PySem.W.KIN.signs_num]
  intro e
  have := PySem.toDigits_len_ge 10 m
  rw [List.map_eq_nil_iff.mp e] at this
  exact absurd this (by decide)
theorem log3 {n : Int} (h : In3 n) : n.natAbs.log2 < 1920 := by
  by_cases z : n.natAbs = 0
  · rw [z]; decide
  · exact Nat.lt_of_lt_of_le ((Nat.log2_lt z).mpr (show n.natAbs < 2 ^ 10 by have := h.1; have := h.2; omega)) (by decide)
/-! ### the words of a text -/
theorem step_word {d : List Nat} (hd : ∀ c ∈ d, Unicode.isSpace c = false) : ∀ (st : KWd.St), d.foldl KWd.step st = (st.1, ⟨st.2.cps ++ d.toArray⟩) := by
  induction d with
  | nil => intro st; simp
  | cons c d ih =>
    intro st
    rw [List.foldl_cons, ih (fun c h => hd c (List.mem_cons_of_mem _ h))]
    have : KWd.step st c = (st.1, st.2 ++ ⟨#[c]⟩) := by unfold KWd.step; rw [hd c List.mem_cons_self]; rfl
    rw [this]
    refine Prod.ext rfl (str_ext ?_)
    show ((st.2 ++ ⟨#[c]⟩ : Str).cps ++ d.toArray).toList = (st.2.cps ++ (c :: d).toArray).toList
    simp only [Array.toList_append, List.toList_toArray]
    rw [show (st.2 ++ ⟨#[c]⟩ : Str).cps.toList = st.2.cps.toList ++ [c] from cp_app st.2 ⟨#[c]⟩, List.append_assoc]
    rfl
theorem step_gap (st : KWd.St) : KWd.step st 32 = (KWd.fin st, Str.empty) := by
  unfold KWd.step KWd.fin
  rw [show Unicode.isSpace 32 = true by decide +kernel]
  by_cases h : st.2.length = 0
  · rw [if_pos rfl, if_pos h, if_pos h]
    refine Prod.ext rfl (str_ext ?_)
    have : st.2.cps.toList.length = 0 := by simpa [Str.length] using h
    exact List.eq_nil_of_length_eq_zero this
  · rw [if_pos rfl, if_neg h, if_neg h]
theorem dig_space {c : Nat} (h : 48 ≤ c ∧ c ≤ 57) : Unicode.isSpace c = false := by
  have : c = 48 ∨ c = 49 ∨ c = 50 ∨ c = 51 ∨ c = 52 ∨ c = 53 ∨ c = 54 ∨ c = 55 ∨ c = 56 ∨ c = 57 := by omega
  rcases this with rfl | rfl | rfl | rfl | rfl | rfl | rfl | rfl | rfl | rfl <;> decide +kernel
theorem fin_word {ws : List Str} {n : Int} (h : In3 n) : KWd.fin (ws, ⟨Str.empty.cps ++ (cp (sx n)).toArray⟩) = ws ++ [sx n] := by
  have e : (⟨Str.empty.cps ++ (cp (sx n)).toArray⟩ : Str) = sx n := str_ext (by simp [cp, Str.empty])
  rw [e]
  unfold KWd.fin
  have : ¬ (sx n).length = 0 := fun z => sx_ne h (List.eq_nil_of_length_eq_zero (by simpa [Str.length, cp] using z))
  rw [if_neg this]
def preL (ns : List Int) : List Nat := (ns.map fun n => cp (sx n) ++ [32]).flatten
def postL (ns : List Int) : List Nat := (ns.map fun n => [32] ++ cp (sx n)).flatten
def midL (ns : List Int) : List Nat := glue [32] (ns.map fun n => cp (sx n))
theorem scan_pre {ns : List Int} (h : ∀ n ∈ ns, In3 n) : ∀ ws : List Str, (preL ns).foldl KWd.step (ws, Str.empty) = (ws ++ ns.map sx, Str.empty) := by
  induction ns with
  | nil => intro ws; simp [preL]
  | cons n ns ih =>
    intro ws
    have hn := h n List.mem_cons_self
    rw [show preL (n :: ns) = cp (sx n) ++ ([32] ++ preL ns) by simp [preL], List.foldl_append, step_word (fun c hc => dig_space (sx_dig hn c hc)), List.foldl_append]
    show (preL ns).foldl KWd.step (KWd.step _ 32) = _
    rw [step_gap, fin_word hn, ih (fun m hm => h m (List.mem_cons_of_mem _ hm)), List.append_assoc]
    rfl
theorem scan_post {ns : List Int} (h : ∀ n ∈ ns, In3 n) : ∀ st : KWd.St, KWd.fin ((postL ns).foldl KWd.step st) = KWd.fin st ++ ns.map sx := by
  induction ns with
  | nil => intro st; simp [postL]
  | cons n ns ih =>
    intro st
    have hn := h n List.mem_cons_self
    rw [show postL (n :: ns) = [32] ++ (cp (sx n) ++ postL ns) by simp [postL], List.foldl_append, List.foldl_append]
    show KWd.fin ((postL ns).foldl KWd.step ((cp (sx n)).foldl KWd.step (KWd.step st 32))) = _
    rw [step_gap, step_word (fun c hc => dig_space (sx_dig hn c hc)), ih (fun m hm => h m (List.mem_cons_of_mem _ hm)), fin_word hn, List.append_assoc]
    rfl
theorem words_pre {x : Str} {ns : List Int} (h : ∀ n ∈ ns, In3 n) (e : cp x = preL ns) : Txt.words x = ns.map sx := by
  rw [KWd.words_scan]
  unfold KWd.scan
  rw [show x.cps.toList = preL ns from e, scan_pre h, List.nil_append]
  rfl
theorem words_post {x : Str} {ns : List Int} (h : ∀ n ∈ ns, In3 n) (e : cp x = postL ns) : Txt.words x = ns.map sx := by
  rw [KWd.words_scan]
  unfold KWd.scan
  rw [show x.cps.toList = postL ns from e, scan_post h]
  rfl
theorem mid_cons (n : Int) (ns : List Int) : midL (n :: ns) = cp (sx n) ++ postL ns := by
  unfold midL postL
  rw [List.map_cons, glue_cons, List.map_map]
  rfl
theorem words_mid {x : Str} {ns : List Int} (h : ∀ n ∈ ns, In3 n) (e : cp x = midL ns) : Txt.words x = ns.map sx := by
  cases ns with
  | nil => exact words_pre (ns := []) (fun _ h => nomatch h) e
  | cons n ns =>
    have hn := h n List.mem_cons_self
    rw [KWd.words_scan]
    unfold KWd.scan
    rw [show x.cps.toList = midL (n :: ns) from e, mid_cons, List.foldl_append, step_word (fun c hc => dig_space (sx_dig hn c hc)), scan_post (fun m hm => h m (List.mem_cons_of_mem _ hm))]
    show KWd.fin ([], ⟨Str.empty.cps ++ (cp (sx n)).toArray⟩) ++ _ = _
    rw [fin_word hn]
    rfl
/-! ### a rule written -/
def wrL (r : Rule) : List Nat := preL r.b ++ [91] ++ midL r.t ++ [93] ++ postL r.a ++ [62] ++ midL r.g
structure RIn (r : Rule) : Prop where
  b : ∀ n ∈ r.b, In3 n
  t : ∀ n ∈ r.t, In3 n
  a : ∀ n ∈ r.a, In3 n
  g : ∀ n ∈ r.g, In3 n
  bl : r.b.length ≤ 3
  t1 : 1 ≤ r.t.length
  tl : r.t.length ≤ 4
  al : r.a.length ≤ 3
  g1 : 1 ≤ r.g.length
  gl : r.g.length ≤ 3
theorem free_pre {ns : List Int} {c : Nat} (h : c ≠ 32 ∧ c ≠ 45 ∧ (c < 48 ∨ 57 < c)) : c ∉ preL ns := fun z => by
  unfold preL at z
  obtain ⟨l, hl, hc⟩ := List.mem_flatten.mp z
  obtain ⟨n, _, rfl⟩ := List.mem_map.mp hl
  rcases List.mem_append.mp hc with q | q
  · exact sx_free h.2 q
  · exact h.1 (by simpa using q)
theorem free_post {ns : List Int} {c : Nat} (h : c ≠ 32 ∧ c ≠ 45 ∧ (c < 48 ∨ 57 < c)) : c ∉ postL ns := fun z => by
  unfold postL at z
  obtain ⟨l, hl, hc⟩ := List.mem_flatten.mp z
  obtain ⟨n, _, rfl⟩ := List.mem_map.mp hl
  rcases List.mem_append.mp hc with q | q
  · exact h.1 (by simpa using q)
  · exact sx_free h.2 q
theorem free_mid {ns : List Int} {c : Nat} (h : c ≠ 32 ∧ c ≠ 45 ∧ (c < 48 ∨ 57 < c)) : c ∉ midL ns := by
  cases ns with
  | nil => exact fun z => nomatch z
  | cons n ns =>
    rw [mid_cons]
    exact fun z => (List.mem_append.mp z).elim (sx_free h.2) (free_post h)
def ofL (l : List Nat) : Str := ⟨l.toArray⟩
theorem cp_ofL (l : List Nat) : cp (ofL l) = l := by simp [cp, ofL]
theorem note1 {x : Str} {r : Rule} (e : cp x = wrL r) : cp (Txt.replace x ⟨#[93]⟩ ⟨#[91]⟩) = preL r.b ++ [91] ++ midL r.t ++ [91] ++ postL r.a ++ [62] ++ midL r.g := by
  rw [repl_of (ps := [ofL (preL r.b ++ [91] ++ midL r.t), ofL (postL r.a ++ [62] ++ midL r.g)]) (by simp) (fun p hp => ?_) (by rw [e]; simp [glue, wrL, cp_ofL])]
  · simp [glue, cp_ofL, show cp { cps := #[91] } = [91] from rfl]
  · simp only [List.mem_cons, List.not_mem_nil, or_false] at hp
    rcases hp with rfl | rfl
    · rw [cp_ofL]
      simp only [List.mem_append, not_or]
      exact ⟨⟨free_pre (by decide), by decide⟩, free_mid (by decide)⟩
    · rw [cp_ofL]
      simp only [List.mem_append, not_or]
      exact ⟨⟨free_post (by decide), by decide⟩, free_mid (by decide)⟩
theorem note2 {x : Str} {r : Rule} (e : cp x = wrL r) : cp (Txt.replace (Txt.replace x ⟨#[93]⟩ ⟨#[91]⟩) ⟨#[62]⟩ ⟨#[91]⟩) = preL r.b ++ [91] ++ midL r.t ++ [91] ++ postL r.a ++ [91] ++ midL r.g := by
  have s1 := note1 e
  rw [repl_of (ps := [ofL (preL r.b ++ [91] ++ midL r.t ++ [91] ++ postL r.a), ofL (midL r.g)]) (by simp) (fun p hp => ?_) (by rw [s1]; simp [glue, cp_ofL])]
  · simp [glue, cp_ofL, show cp { cps := #[91] } = [91] from rfl]
  · simp only [List.mem_cons, List.not_mem_nil, or_false] at hp
    rcases hp with rfl | rfl
    · rw [cp_ofL]
      simp only [List.mem_append, not_or]
      exact ⟨⟨⟨⟨free_pre (by decide), by decide⟩, free_mid (by decide)⟩, by decide⟩, free_post (by decide)⟩
    · rw [cp_ofL]
      exact free_mid (by decide)
/-- the four parts of a note come back -/
theorem note_parts {x : Str} {r : Rule} (e : cp x = wrL r) :
    Txt.split (Txt.replace (Txt.replace x ⟨#[93]⟩ ⟨#[91]⟩) ⟨#[62]⟩ ⟨#[91]⟩) ⟨#[91]⟩ = [ofL (preL r.b), ofL (midL r.t), ofL (postL r.a), ofL (midL r.g)] := by
  have s2 := note2 e
  refine split_of (by simp) (fun p hp => ?_) (by rw [s2]; simp [glue, cp_ofL])
  simp only [List.mem_cons, List.not_mem_nil, or_false] at hp
  rcases hp with rfl | rfl | rfl | rfl <;> rw [cp_ofL]
  · exact free_pre (by decide)
  · exact free_mid (by decide)
  · exact free_post (by decide)
  · exact free_mid (by decide)
theorem fig_in {c : Nat} (h : 48 ≤ c ∧ c ≤ 57) : (!(Builtin.Str.occurrences "0123456789" ⟨#[c]⟩ 0 ("0123456789" : Str).length 1).isEmpty) = true := by
  have : c = 48 ∨ c = 49 ∨ c = 50 ∨ c = 51 ∨ c = 52 ∨ c = 53 ∨ c = 54 ∨ c = 55 ∨ c = 56 ∨ c = 57 := by omega
  rcases this with rfl | rfl | rfl | rfl | rfl | rfl | rfl | rfl | rfl | rfl <;> decide +kernel
end Ink

namespace L2
open PySem PySem.Spec PyProof.Rows
theorem pe_gstr {X : Cx} {x c : Str} {pos : Pos} (hg : Gl X x) (hm : ∃ t, X.mg x = some (.str c t)) (hd : (x == ("__debug__" : Str)) = false := by decide) : PE X (.Name x pos) (tC (.str c)) := by
  obtain ⟨t, h⟩ := hm
  exact pe_glob hg h ⟨t, rfl⟩ hd
theorem pi_zip3K {X : Cx} {K : PySem.W.Frag} (hK : X.K = K) {es : List Expr} {x1} {tp : Pos} {a b c : Expr} {ta : TA} {p pos : Pos} (hg : Gl X "zip") (hm : X.mg "zip" = none) (ha : PA X [a, b, c] ta)
    (hs : starEach [a, b, c] X.env = [(false, eval a X.env), (false, eval b X.env), (false, eval c X.env)] := by rfl) (hs2 : starEach [b, c] X.env = [(false, eval b X.env), (false, eval c X.env)] := by rfl) :
    PI X (.Tuple es x1 tp) (.Call (.Name "zip" p) [a, b, c] [] pos) (iZip3 K ta) := by
  subst hK
  exact pi_zip3 hg hm ha hs hs2
end L2
namespace Ink
open PySem L2
theorem cp_len (x : Str) : (cp x).length = x.length := by simp [cp, Str.length]
theorem pre_len {ns : List Int} (h : ∀ n ∈ ns, In3 n) : (preL ns).length ≤ 4 * ns.length := by
  induction ns with
  | nil => simp [preL]
  | cons n ns ih =>
    have h1 := sx_len (h n List.mem_cons_self)
    have h2 := ih fun m hm => h m (List.mem_cons_of_mem _ hm)
    rw [show preL (n :: ns) = cp (sx n) ++ ([32] ++ preL ns) by simp [preL]]
    simp only [List.length_append, List.length_cons, List.length_nil, cp_len]
    omega
theorem post_len {ns : List Int} (h : ∀ n ∈ ns, In3 n) : (postL ns).length ≤ 4 * ns.length := by
  induction ns with
  | nil => simp [postL]
  | cons n ns ih =>
    have h1 := sx_len (h n List.mem_cons_self)
    have h2 := ih fun m hm => h m (List.mem_cons_of_mem _ hm)
    rw [show postL (n :: ns) = [32] ++ (cp (sx n) ++ postL ns) by simp [postL]]
    simp only [List.length_append, List.length_cons, List.length_nil, cp_len]
    omega
theorem mid_len {ns : List Int} (h : ∀ n ∈ ns, In3 n) : (midL ns).length ≤ 4 * ns.length := by
  cases ns with
  | nil => simp [midL, glue]
  | cons n ns =>
    have h1 := sx_len (h n List.mem_cons_self)
    have h2 := post_len fun m hm => h m (List.mem_cons_of_mem _ hm)
    rw [mid_cons, List.length_append, cp_len, List.length_cons]
    omega
theorem wr_len {r : Rule} (h : RIn r) : (wrL r).length ≤ 100 := by
  have h1 := pre_len h.b
  have h2 := mid_len h.t
  have h3 := post_len h.a
  have h4 := mid_len h.g
  have := h.bl; have := h.tl; have := h.al; have := h.gl
  unfold wrL
  simp only [List.length_append, List.length_singleton]
  omega
theorem jok {sep : Str} {ts : List Str} (h : ts.length ≤ 20) (hb : ∀ y ∈ ts, y.length ≤ 10) (hs : sep.length ≤ 10) : JoinOk sep ts = true := by
  unfold JoinOk
  rw [StrLaws.joinFits (B := 10) hb (by have := Nat.mul_le_mul h hs; omega)]
  rfl
theorem glue_nil (ps : List (List Nat)) : glue [] ps = ps.flatten := by
  cases ps with
  | nil => rfl
  | cons p ps => rw [glue_cons]; simp
theorem app_len (x y : Str) : (x ++ y).length = x.length + y.length := by rw [← cp_len, cp_app, List.length_append, cp_len, cp_len]
def pbx (n : Int) : Str := Str.empty ++ sx n ++ (" " : Str)
def pax (n : Int) : Str := Str.empty ++ (" " : Str) ++ sx n
theorem e_len : (Str.empty : Str).length = 0 := rfl
theorem sp_len : (" " : Str).length = 1 := by decide +kernel
theorem cp_sp : cp (" " : Str) = [32] := by decide +kernel
theorem cp_lb : cp ("[" : Str) = [91] := by decide +kernel
theorem cp_rb : cp ("]" : Str) = [93] := by decide +kernel
theorem cp_gt : cp (">" : Str) = [62] := by decide +kernel
theorem cp_no : cp ("" : Str) = [] := by decide +kernel
theorem cp_pbx (n : Int) : cp (pbx n) = cp (sx n) ++ [32] := by unfold pbx; rw [cp_app, cp_app, cp_empty, cp_sp, List.nil_append]
theorem cp_pax (n : Int) : cp (pax n) = [32] ++ cp (sx n) := by unfold pax; rw [cp_app, cp_app, cp_empty, cp_sp, List.nil_append]
theorem pbx_len {n : Int} (h : In3 n) : (pbx n).length ≤ 4 := by have := sx_len h; unfold pbx; rw [app_len, app_len, e_len, sp_len]; omega
theorem pax_len {n : Int} (h : In3 n) : (pax n).length ≤ 4 := by have := sx_len h; unfold pax; rw [app_len, app_len, e_len, sp_len]; omega
theorem join_pbx (ns : List Int) : cp (Txt.join ("" : Str) (ns.map pbx)) = preL ns := by
  rw [cp_join, cp_no, glue_nil, List.map_map]
  unfold preL
  congr 1
  exact List.map_congr_left fun n _ => cp_pbx n
theorem join_pax (ns : List Int) : cp (Txt.join ("" : Str) (ns.map pax)) = postL ns := by
  rw [cp_join, cp_no, glue_nil, List.map_map]
  unfold postL
  congr 1
  exact List.map_congr_left fun n _ => cp_pax n
theorem cp_le {x : Str} {l : List Nat} {k : Nat} (e : cp x = l) (h : l.length ≤ k) : x.length ≤ k := by rw [← cp_len, e]; exact h
theorem note_l1 {x : Str} {r : Rule} (e : cp x = wrL r) (h : RIn r) : (Txt.replace x ⟨#[93]⟩ ⟨#[91]⟩).length ≤ 100 := cp_le (note1 e) (by have := wr_len h; unfold wrL at this; simpa using this)
theorem note_l2 {x : Str} {r : Rule} (e : cp x = wrL r) (h : RIn r) : (Txt.replace (Txt.replace x ⟨#[93]⟩ ⟨#[91]⟩) ⟨#[62]⟩ ⟨#[91]⟩).length ≤ 100 := cp_le (note2 e) (by have := wr_len h; unfold wrL at this; simpa using this)
theorem ofL_len (l : List Nat) : (ofL l).length = l.length := by rw [← cp_len, cp_ofL]
def PartOk (z : Str) (ns : List Int) : Prop := z.length ≤ 1000 ∧ Txt.words z = ns.map sx ∧ (∀ n ∈ ns, In3 n) ∧ ns.length ≤ 10
theorem parts_ok {r : Rule} (h : RIn r) : Paired PartOk [ofL (preL r.b), ofL (midL r.t), ofL (postL r.a), ofL (midL r.g)] [r.b, r.t, r.a, r.g] := by
  have h1 := pre_len h.b
  have h2 := mid_len h.t
  have h3 := post_len h.a
  have h4 := mid_len h.g
  have := h.bl; have := h.tl; have := h.al; have := h.gl
  exact .cons ⟨by rw [ofL_len]; omega, words_pre h.b (cp_ofL _), h.b, by omega⟩ (.cons ⟨by rw [ofL_len]; omega, words_mid h.t (cp_ofL _), h.t, by omega⟩
    (.cons ⟨by rw [ofL_len]; omega, words_post h.a (cp_ofL _), h.a, by omega⟩ (.cons ⟨by rw [ofL_len]; omega, words_mid h.g (cp_ofL _), h.g, by omega⟩ .nil)))
def IsTF (H0 H : Hp) (v : V) (ns : List Int) : Prop := ∃ q, v = .ref q ∧ H0 q = none ∧ H q = some (.tup (iv ns))
theorem IsTF.tps {H0 H H' : Hp} {v : V} {ns : List Int} (h : IsTF H0 H v ns) (t : Tps H H') : IsTF H0 H' v ns := by
  obtain ⟨q, e, n, h⟩ := h
  exact ⟨q, e, n, t q _ h⟩
theorem s_lb : ("[" : Str) = ⟨#[91]⟩ := str_ext cp_lb
theorem s_rb : ("]" : Str) = ⟨#[93]⟩ := str_ext cp_rb
theorem s_gt : (">" : Str) = ⟨#[62]⟩ := str_ext cp_gt
theorem pre_snoc (ns : List Int) (n : Int) : preL (ns ++ [n]) = preL ns ++ (cp (sx n) ++ [32]) := by simp [preL]
theorem post_snoc (ns : List Int) (n : Int) : postL (ns ++ [n]) = postL ns ++ ([32] ++ cp (sx n)) := by simp [postL]
def okp (j : Nat) (m : List Int) : Prop := (∀ n ∈ m, In3 n) ∧ (j = 0 → m.length ≤ 3) ∧ (j = 1 → 1 ≤ m.length ∧ m.length ≤ 4) ∧ (j = 2 → m.length ≤ 3) ∧ (j = 3 → 1 ≤ m.length ∧ m.length ≤ 3)
/-- a rule new in the heap -/
def IsRuleF (H0 H : Hp) (v : V) (r : Rule) : Prop := Ex5 fun a b t h g => And8 (v = .ref a) (H0 a = none) (H a = some (.tup [.ref b, .ref t, .ref h, .ref g])) ((H0 b = none ∧ H0 t = none ∧ H0 h = none ∧ H0 g = none)) (H b = some (.tup (iv r.b))) (H t = some (.tup (iv r.t))) (H h = some (.tup (iv r.a))) (H g = some (.tup (iv r.g)))
theorem IsRuleF.rule {H0 H : Hp} {v : V} {r : Rule} (h : IsRuleF H0 H v r) : IsRule H v r := by
  obtain ⟨a, b, t, h, g, e, _, h1, _, hb, ht, hh, hg⟩ := h
  exact ⟨a, _, _, _, _, e, h1, ⟨b, rfl, hb⟩, ⟨t, rfl, ht⟩, ⟨h, rfl, hh⟩, ⟨g, rfl, hg⟩⟩
inductive SpWideI (vs : List V) (H : Hp) (Q : VK) (E_ : XK) : Prop
  | mk (c : _) (z0 : vs = [.int c]) (z1 : ∀ v r H', Same H H' → IsRule H' v r → RIn r → Q v H') : SpWideI  vs H Q E_
def spWide : Sp := fun vs H Q E => SpWideI  vs H Q E
inductive SpWrittenI (vs : List V) (H : Hp) (Q : VK) (E_ : XK) : Prop
  | mk (v r : _) (z0 : vs = [v]) (z1 : IsRule H v r) (z2 : RIn r) (z3 : ∀ x H', Same H H' → cp x = wrL r → Q (.str x) H') : SpWrittenI  vs H Q E_
def spWritten : Sp := fun vs H Q E => SpWrittenI  vs H Q E
inductive SpSpacedI (vs : List V) (H : Hp) (Q : VK) (E_ : XK) : Prop
  | mk (v ns : _) (z0 : vs = [v]) (z1 : IsT H v ns) (z2 : (∀ n ∈ ns, In3 n)) (z3 : ns.length ≤ 10) (z4 : ∀ x H', Same H H' → cp x = midL ns → Q (.str x) H') : SpSpacedI  vs H Q E_
def spSpaced : Sp := fun vs H Q E => SpSpacedI  vs H Q E
inductive SpShapeInI (vs : List V) (H : Hp) (Q : VK) (E_ : XK) : Prop
  | mk (n : _) (z0 : vs = [.str (sx n)]) (z1 : In3 n) (z2 : ∀ H', Same H H' → Q (.int n) H') : SpShapeInI  vs H Q E_
def spShapeIn : Sp := fun vs H Q E => SpShapeInI  vs H Q E
inductive SpShapesInI (vs : List V) (H : Hp) (Q : VK) (E_ : XK) : Prop
  | mk (z ns : _) (z0 : vs = [.str z]) (z1 : z.length ≤ 1000) (z2 : Txt.words z = ns.map sx) (z3 : (∀ n ∈ ns, In3 n)) (z4 : ns.length ≤ 10) (z5 : ∀ p H', Same H H' → H p = none → H' p = some (.tup (iv ns)) → Q (.ref p) H') : SpShapesInI  vs H Q E_
def spShapesIn : Sp := fun vs H Q E => SpShapesInI  vs H Q E
inductive SpRightI (vs : List V) (H : Hp) (Q : VK) (E_ : XK) : Prop
  | mk (v r : _) (z0 : vs = [v]) (z1 : IsRule H v r) (z2 : RIn r) (z3 : ∀ H', Same H H' → Q (.bl true) H') : SpRightI  vs H Q E_
def spRight : Sp := fun vs H Q E => SpRightI  vs H Q E
inductive SpReadI (vs : List V) (H : Hp) (Q : VK) (E_ : XK) : Prop
  | mk (x r : _) (z0 : vs = [.str x]) (z1 : cp x = wrL r) (z2 : RIn r) (z3 : ∀ v H', Same H H' → IsRuleF H H' v r → Q v H') : SpReadI  vs H Q E_
def spRead : Sp := fun vs H Q E => SpReadI  vs H Q E
inductive SpIsRuleI (vs : List V) (H : Hp) (Q : VK) (E_ : XK) : Prop
  | mk (v r : _) (z0 : vs = [v]) (z1 : IsRule H v r) (z2 : RIn r) (z3 : ∀ H', Same H H' → Q (.bl true) H') : SpIsRuleI  vs H Q E_
def spIsRule : Sp := fun vs H Q E => SpIsRuleI  vs H Q E
end Ink

set_option maxHeartbeats 2000000

namespace W
open PySem PySem.Spec PyProof.Rows L2 Ink
def top (i : Nat) : Stmt := PySem.Challenge.pw_inkmelt_k13_shown.main.body.getD i (.Pass ⟨0, 0, 0, 0⟩)
abbrev s_has_right_numbers : Stmt := top 10
abbrev s_shown : Stmt := top 15
abbrev s_read : Stmt := top 16
abbrev s_spaced : Stmt := top 17
abbrev s_shapes_in : Stmt := top 18
abbrev s_shape_in : Stmt := top 19
abbrev s_law_cell_at : Stmt := top 21
abbrev s_law_whole : Stmt := top 22
abbrev s_law_mix : Stmt := top 23
abbrev s_law_wide : Stmt := top 24
abbrev s_law_written : Stmt := top 25
abbrev s_law_is_rule : Stmt := top 26
abbrev s_law : Stmt := top 27
theorem sc_has_right_numbers : FnScope ["rule"] ["rule"] (defScope s_has_right_numbers) := ⟨rfl, rfl, rfl, by decide +kernel, rfl, by decide +kernel, by decide +kernel⟩
theorem sc_shown : FnScope ["rule", "behind", "take", "ahead", "give"] ["rule"] (defScope s_shown) := ⟨rfl, rfl, rfl, by decide +kernel, rfl, by decide +kernel, by decide +kernel⟩
theorem sc_read : FnScope ["text", "parts", "rule"] ["text"] (defScope s_read) := ⟨rfl, rfl, rfl, by decide +kernel, rfl, by decide +kernel, by decide +kernel⟩
theorem sc_spaced : FnScope ["shapes"] ["shapes"] (defScope s_spaced) := ⟨rfl, rfl, rfl, by decide +kernel, rfl, by decide +kernel, by decide +kernel⟩
theorem sc_shapes_in : FnScope ["part"] ["part"] (defScope s_shapes_in) := ⟨rfl, rfl, rfl, by decide +kernel, rfl, by decide +kernel, by decide +kernel⟩
theorem sc_shape_in : FnScope ["word"] ["word"] (defScope s_shape_in) := ⟨rfl, rfl, rfl, by decide +kernel, rfl, by decide +kernel, by decide +kernel⟩
theorem sc_law_cell_at : FnScope ["script", "k"] ["script", "k"] (defScope s_law_cell_at) := ⟨rfl, rfl, rfl, by decide +kernel, rfl, by decide +kernel, by decide +kernel⟩
theorem sc_law_whole : FnScope ["x"] ["x"] (defScope s_law_whole) := ⟨rfl, rfl, rfl, by decide +kernel, rfl, by decide +kernel, by decide +kernel⟩
theorem sc_law_mix : FnScope ["cell", "k", "number"] ["cell", "k"] (defScope s_law_mix) := ⟨rfl, rfl, rfl, by decide +kernel, rfl, by decide +kernel, by decide +kernel⟩
theorem sc_law_wide : FnScope ["cell", "parts", "k", "least", "most", "many"] ["cell"] (defScope s_law_wide) := ⟨rfl, rfl, rfl, by decide +kernel, rfl, by decide +kernel, by decide +kernel⟩
theorem sc_law_written : FnScope ["rule", "text", "shape"] ["rule"] (defScope s_law_written) := ⟨rfl, rfl, rfl, by decide +kernel, rfl, by decide +kernel, by decide +kernel⟩
theorem sc_law_is_rule : FnScope ["found", "part"] ["found"] (defScope s_law_is_rule) := ⟨rfl, rfl, rfl, by decide +kernel, rfl, by decide +kernel, by decide +kernel⟩
theorem sc_law : FnScope ["script", "rule", "due", "found", "back"] ["script"] (defScope s_law) := ⟨rfl, rfl, rfl, by decide +kernel, rfl, by decide +kernel, by decide +kernel⟩
structure Txt (K : PySem.W.Frag) (mg : Str → Option Value) : Prop where
  c_BEHIND : ∃ t, mg "BEHIND" = some (.int 0 t)
  c_TAKE : ∃ t, mg "TAKE" = some (.int 1 t)
  c_AHEAD : ∃ t, mg "AHEAD" = some (.int 2 t)
  c_GIVE : ∃ t, mg "GIVE" = some (.int 3 t)
  c_MOST_FIGURES : ∃ t, mg "MOST_FIGURES" = some (.int 3 t)
  c_PARTS : ∃ t, mg "PARTS" = some (.int 4 t)
  c_FIGURES : ∃ t, mg "FIGURES" = some (.str "0123456789" t)
  c_LEAST_SHAPES : ∃ a, mg "LEAST_SHAPES" = some (.ref a) ∧ ∀ H, SqT K H a (iv [0, 1, 0, 1])
  c_MOST_SHAPES : ∃ a, mg "MOST_SHAPES" = some (.ref a) ∧ ∀ H, SqT K H a (iv [3, 4, 3, 3])
  n_all : mg "all" = none
  n_bool : mg "bool" = none
  n_int : mg "int" = none
  n_isinstance : mg "isinstance" = none
  n_len : mg "len" = none
  n_range : mg "range" = none
  n_str : mg "str" = none
  n_tuple : mg "tuple" = none
  n_zip : mg "zip" = none
section
variable {P : Program} {w : World} {K : PySem.W.Frag} {mg : Str → Option Value} {base : Heap}
theorem ok_law_mix {f : Addr} {fd : FuncData} (D : Dn K mg "_law_mix" s_law_mix ["cell", "k"] f fd) (T : Txt K mg) :
    FnOk P w K mg base CX0 1 f fd ["cell", "k"] spMix := by
  refine D.F.ok (k := 0) sc_law_mix (fun vs H Q E h => ?_) (fun cdv A outer s H vs Q E hr h => ?_)
  · obtain ⟨c, k, rfl, kq⟩ := h
    rfl
  · obtain ⟨c, k, rfl, kq⟩ := h
    refine ⟨_, (pss_cons (ps_set (i := 2) sc_law_mix.nd rfl (by first | exact Or.inl rfl | exact Or.inr rfl) (pe_op op_mod (pe_op op_add (pe_op op_add (pe_op op_mul (pv 0) pe_int) (pe_op op_mul pe_int (pv 1))) pe_int) pe_int))
       (pss_one (ps_ret (pe_op op_mod (pe_op op_add (pe_op op_add (pe_op op_mul (pv 2) (pv 2)) (pe_op op_mul pe_int (pv 2))) (pv 1)) pe_int)))), ?_⟩
    refine ⟨_, rfl, _, _, rfl, rfl, .inr ⟨(by first | decide | omega), (by first | decide | omega)⟩, _, rfl, _, _, rfl, rfl, .inl ⟨(by first | decide | omega), (by first | decide | omega)⟩, _, _, rfl, rfl, _, _, rfl, rfl, _, _, rfl, rfl, (by first | decide | omega), ?_⟩
    refine ⟨_, rfl, _, rfl, _, _, rfl, rfl, .inl ⟨(by first | decide | omega), (by first | decide | omega)⟩, _, rfl, _, _, rfl, rfl, .inl ⟨(by first | decide | omega), (by first | decide | omega)⟩, _, _, rfl, rfl, _, rfl, _, _, rfl, rfl, _, _, rfl, rfl, (by first | decide | omega), kq _ (by first | decide | omega) (by first | decide | omega)⟩



theorem ok_law_wide {f : Addr} {fd : FuncData} {f_law_mix : Addr} {fd_law_mix : FuncData} (D : Dn K mg "_law_wide" s_law_wide ["cell"] f fd) (T : Txt K mg)
    (D_law_mix : Dn K mg "_law_mix" s_law_mix ["cell", "k"] f_law_mix fd_law_mix) (G_law_mix : FnOk P w K mg base CX0 1 f_law_mix fd_law_mix ["cell", "k"] spMix) :
    FnOk P w K mg base CX0 2 f fd ["cell"] spWide := by
  refine D.F.ok (k := 1) sc_law_wide (fun vs H Q E h => ?_) (fun cdv A outer s H vs Q E hr h => ?_)
  · obtain ⟨c, rfl, kq⟩ := h
    rfl
  · obtain ⟨c, rfl, kq⟩ := h
    have hr_law_mix : Room 1 _ := hr.mono (by decide)
    refine ⟨_, (pss_cons (ps_set (i := 1) sc_law_wide.nd rfl (by first | exact Or.inl rfl | exact Or.inr rfl) (pe_lst pa_nil))
       (pss_cons (ps_for PassesOwn.never rfl (pi_range1 (by rfl) T.n_range (pa_cons pe_int pa_nil)) (pg_name (i := 2) sc_law_wide.nd rfl (by first | exact Or.inl rfl | exact Or.inr rfl))
       (pss_cons (ps_set (i := 3) sc_law_wide.nd rfl (by first | exact Or.inl rfl | exact Or.inr rfl) (pe_op op_mod (pv 2) pe_int))
       (pss_cons (ps_set (i := 4) sc_law_wide.nd rfl (by first | exact Or.inl rfl | exact Or.inr rfl) (pe_ix ix_list0 (pe_lst (pa_cons pe_int (pa_cons pe_int (pa_cons pe_int (pa_cons pe_int pa_nil))))) (pv 2) (fun _ _ => rfl)))
       (pss_cons (ps_set (i := 5) sc_law_wide.nd rfl (by first | exact Or.inl rfl | exact Or.inr rfl) (pe_op op_add (pv 3) (pe_op op_mod (pe_call G_law_mix hr_law_mix (by rfl) D_law_mix.m D_law_mix.F.kp D_law_mix.b .nil pass0 (pa_cons (pv 0) (pa_cons (pv 2) pa_nil))) (pe_op op_sub (pe_op op_add (pv 4) pe_int) (pv 3)))))
       (pss_cons (ps_if (pw_or (pt_cmpR op_eq (pv 2) pe_int (nomark _)) (pw_or1 (pt_cmpR op_eq (pv 2) pe_int (nomark _)))).pt
       (pss_one (ps_set (i := 5) sc_law_wide.nd rfl (by first | exact Or.inl rfl | exact Or.inr rfl) (pe_op op_mod (pe_call G_law_mix hr_law_mix (by rfl) D_law_mix.m D_law_mix.F.kp D_law_mix.b .nil pass0 (pa_cons (pv 0) (pa_cons (pv 2) pa_nil))) pe_int)))
       pss_nil)
       (pss_one (ps_expr (pe_bmZ PySem.F.plainAttrs_list PySem.F.slot_list_append PySem.F.type_list_append mt_append (pv 1) (pa_cons (pe_callTy call_tuple_of0 (by rfl) T.n_tuple boot_tuple (pa_cons (pe_lc ["j"] [0, 2] rfl (pi_range1 (by rfl) T.n_range (pa_cons (pv 5) pa_nil)) (fun _ _ _ _ => ⟨(pg_name (i := 0) (by exact (show (["j", "cell", "k"] : List Str).Nodup by decide +kernel)) rfl (by first | exact Or.inl rfl | exact Or.inr rfl)), pts_nil, (pe_op op_mod (pe_call G_law_mix hr_law_mix (by rfl) D_law_mix.m D_law_mix.F.kp D_law_mix.b .nil pass0 (pa_cons (pv 1) (pa_cons (pe_op op_add (pe_op op_add (pe_op op_mul pe_int (pv 2)) (pv 0)) pe_int) pa_nil))) pe_int)⟩)) pa_nil)) pa_nil)))))))))
       (pss_one (ps_ret (pe_callTy call_tuple_of0 (by rfl) T.n_tuple boot_tuple (pa_cons (pv 1) pa_nil)))))), ?_⟩
    refine ⟨Nat.zero_le _, fun pp hpp => ?_⟩
    have s0 : Same H (upd H pp (.lst [])) := same_new hpp
    refine ⟨4, rfl, by decide, by decide, (let Iv : Nat → L2.St → Hp → Prop := fun i σ H' => Ex6 fun (kv lv mv nv : Option V) (ys : List V) (ms : List (List Int)) => And6 (σ = [some (.int c), some (.ref pp), kv, lv, mv, nv]) (Same H H') (H' pp = some (.lst ys)) (Paired (IsT H') ys ms) (ms.length = i) (∀ j m, ms[j]? = some m → okp j m); for_range (n := 4) Iv
      ⟨none, none, none, none, [], [], rfl, s0, upd_same, .nil, rfl, (fun j m h => nomatch h)⟩ ?_ ?_)⟩
    · rintro i σ H' hi ⟨kv, lv, mv, nv, ys, ms, rfl, s1, hp1, py, hml, hok⟩
      have hyl := pr_len py
      have h4 : i = 0 ∨ i = 1 ∨ i = 2 ∨ i = 3 := by omega
      rcases h4 with rfl | rfl | rfl | rfl
      · refine ⟨_, rfl, _, _, rfl, rfl, (by decide), ?_⟩
        refine ⟨(by show 4 ≤ sizeLine; decide), fun l hl => ⟨_, rfl, l, _, ((0 : Nat) : Int), _, rfl, rfl, SqL.of upd_same, atI_nat rfl, ?_⟩⟩
        refine ⟨_, rfl, _, rfl, _, rfl, _, _, rfl, fun m hm0 hm1 => ⟨_, rfl, _, _, rfl, rfl, _, rfl, _, _, rfl, rfl, _, _, rfl, rfl, (by decide), _, _, rfl, rfl, ?_⟩⟩
        refine ⟨_, rfl, rfl, _, rfl, iteT (iteT ?_)⟩
        refine ⟨_, rfl, _, rfl, _, _, rfl, fun m2 g0 g1 => ⟨_, _, rfl, rfl, (by decide), ?_⟩⟩
        obtain ⟨q, hq⟩ : ∃ q : Nat, m2 % 4 = (q : Int) := Int.eq_ofNat_of_zero_le (by first | decide | omega)
        have s2 := s1.trans (same_new (o := .lst [.int 4, .int 4, .int 4, .int 3]) hl)
        have hp2 := (same_new (o := .lst [.int 4, .int 4, .int 4, .int 3]) hl) _ _ hp1
        have py2 : Paired (IsT (upd H' l (.lst [.int 4, .int 4, .int 4, .int 3]))) ys ms := pr_tps tT py (tps_of (same_new hl))
        generalize (upd H' l (.lst [.int 4, .int 4, .int 4, .int 3])) = HL at s2 hp2 py2 ⊢
        have hql : q ≤ 4 := by omega
        refine ⟨_, rfl, .inl ⟨rfl, _, SqL.of hp2⟩, _, rfl, (q : Int), congrArg (fun z => [V.int z]) hq, (by first | decide | omega), (by first | decide | omega), fun D hD => (let Iv : Nat → List V → L2.St → Hp → Prop := fun j zs τ H2 => Ex2 fun (jv : Option V) (nn : List Int) => And6 (τ = [jv, some (.int c), some (.int (0 + ((0 : Nat) : Int)))]) (Same HL H2) (H2 D = some (.lst zs)) (zs = iv nn) (nn.length = j) (∀ n ∈ nn, In3 n); lc_range (n := q) Iv
          ⟨none, [], rfl, same_new hD, upd_same, rfl, rfl, (fun n h => nomatch h)⟩ (fun j zs τ H2 _ zz1 => by obtain ⟨_, _, _, _, h', _⟩ := zz1; exact h') ?_ ?_)⟩
        · rintro j zs τ H2 hj ⟨jv, nn, rfl, t1, hd1, rfl, hnl, hnn⟩
          refine lcN ?_
          refine ⟨_, rfl, _, rfl, _, _, rfl, rfl, .inl ⟨by decide, by decide⟩, _, rfl, _, _, rfl, rfl, _, _, rfl, rfl, _, _, rfl, fun m3 k0 k1 => ⟨_, _, rfl, rfl, (by decide), hd1, small (by rw [iv_len]; first | decide | omega), _, nn ++ [m3 % 1000], rfl, same_off t1 hD, upd_same, ?_, by rw [List.length_append, hnl]; rfl, fun n hn => ?_⟩⟩
          · rw [iv_app]; rfl
          · rcases List.mem_append.mp hn with z | z
            · exact hnn n z
            · rw [List.mem_singleton.mp z]; exact ⟨(by first | decide | omega), (by first | decide | omega)⟩
        rintro zs τ H2 ⟨jv, nn, rfl, t1, hd1, rfl, hnl, hnn⟩
        have hp3 := t1 _ _ hp2
        refine ⟨D, _, rfl, .inl ⟨SqL.of hd1, fun l2 hl2 => ?_⟩⟩
        have hp4 := same_new (o := .tup (iv nn)) hl2 _ _ hp3
        refine ⟨pp, ys, _, rfl, rfl, hp4, small (by first | decide | omega), ?_⟩
        refine ⟨_, _, _, _, _, ms ++ [nn], rfl, same_off (s2.trans (t1.trans (same_new hl2))) hpp, upd_same, ?_, by rw [List.length_append, hml]; rfl, fun j mm hj => ?_⟩
        · exact pr_app (pr_tps tT py2 (((tps_of t1).trans (Tps.new hl2)).trans (Tps.lst hp4))) (.cons ⟨l2, rfl, by rw [upd_ne (ne_of_none hp3 hl2).symm]; exact upd_same⟩ .nil)
        · rcases Nat.lt_or_ge j ms.length with z | z
          · rw [List.getElem?_append_left z] at hj; exact hok j mm hj
          · have hj1 : j < (ms ++ [nn]).length := (List.getElem?_eq_some_iff.mp hj).1
            rw [List.length_append, List.length_singleton] at hj1
            have ej : j = 0 := by omega
            rw [List.getElem?_append_right z, show j - ms.length = 0 by omega] at hj
            cases hj
            exact ⟨hnn, (fun _ => by omega), (fun _ => ⟨(by first | decide | omega), (by first | decide | omega)⟩), (fun _ => by omega), (fun _ => ⟨(by first | decide | omega), (by first | decide | omega)⟩)⟩
      · refine ⟨_, rfl, _, _, rfl, rfl, (by decide), ?_⟩
        refine ⟨(by show 4 ≤ sizeLine; decide), fun l hl => ⟨_, rfl, l, _, ((1 : Nat) : Int), _, rfl, rfl, SqL.of upd_same, atI_nat rfl, ?_⟩⟩
        refine ⟨_, rfl, _, rfl, _, rfl, _, _, rfl, fun m hm0 hm1 => ⟨_, rfl, _, _, rfl, rfl, _, rfl, _, _, rfl, rfl, _, _, rfl, rfl, (by decide), _, _, rfl, rfl, ?_⟩⟩
        refine ⟨_, rfl, rfl, _, rfl, iteF ?_⟩
        refine ⟨_, rfl, rfl, _, rfl, iteF ?_⟩
        obtain ⟨q, hq0⟩ : ∃ q : Nat, 1 + m % 4 = (q : Int) := Int.eq_ofNat_of_zero_le (by first | decide | omega)
        have hq : (0 + ((1 : Nat) : Int)) % 2 + m % (4 + 1 - (0 + ((1 : Nat) : Int)) % 2) = (q : Int) := by rw [show (4 + 1 - (0 + ((1 : Nat) : Int)) % 2 : Int) = 4 by decide, show ((0 + ((1 : Nat) : Int)) % 2 : Int) = 1 by decide]; exact hq0
        have hq1 : 1 ≤ q ∧ q ≤ 4 := ⟨(by first | decide | omega), (by first | decide | omega)⟩
        have s2 := s1.trans (same_new (o := .lst [.int 4, .int 4, .int 4, .int 3]) hl)
        have hp2 := (same_new (o := .lst [.int 4, .int 4, .int 4, .int 3]) hl) _ _ hp1
        have py2 : Paired (IsT (upd H' l (.lst [.int 4, .int 4, .int 4, .int 3]))) ys ms := pr_tps tT py (tps_of (same_new hl))
        generalize (upd H' l (.lst [.int 4, .int 4, .int 4, .int 3])) = HL at s2 hp2 py2 ⊢
        have hql : q ≤ 4 := by omega
        refine ⟨_, rfl, .inl ⟨rfl, _, SqL.of hp2⟩, _, rfl, (q : Int), congrArg (fun z => [V.int z]) hq, (by first | decide | omega), (by first | decide | omega), fun D hD => (let Iv : Nat → List V → L2.St → Hp → Prop := fun j zs τ H2 => Ex2 fun (jv : Option V) (nn : List Int) => And6 (τ = [jv, some (.int c), some (.int (0 + ((1 : Nat) : Int)))]) (Same HL H2) (H2 D = some (.lst zs)) (zs = iv nn) (nn.length = j) (∀ n ∈ nn, In3 n); lc_range (n := q) Iv
          ⟨none, [], rfl, same_new hD, upd_same, rfl, rfl, (fun n h => nomatch h)⟩ (fun j zs τ H2 _ zz1 => by obtain ⟨_, _, _, _, h', _⟩ := zz1; exact h') ?_ ?_)⟩
        · rintro j zs τ H2 hj ⟨jv, nn, rfl, t1, hd1, rfl, hnl, hnn⟩
          refine lcN ?_
          refine ⟨_, rfl, _, rfl, _, _, rfl, rfl, .inl ⟨by decide, by decide⟩, _, rfl, _, _, rfl, rfl, _, _, rfl, rfl, _, _, rfl, fun m3 k0 k1 => ⟨_, _, rfl, rfl, (by decide), hd1, small (by rw [iv_len]; first | decide | omega), _, nn ++ [m3 % 1000], rfl, same_off t1 hD, upd_same, ?_, by rw [List.length_append, hnl]; rfl, fun n hn => ?_⟩⟩
          · rw [iv_app]; rfl
          · rcases List.mem_append.mp hn with z | z
            · exact hnn n z
            · rw [List.mem_singleton.mp z]; exact ⟨(by first | decide | omega), (by first | decide | omega)⟩
        rintro zs τ H2 ⟨jv, nn, rfl, t1, hd1, rfl, hnl, hnn⟩
        have hp3 := t1 _ _ hp2
        refine ⟨D, _, rfl, .inl ⟨SqL.of hd1, fun l2 hl2 => ?_⟩⟩
        have hp4 := same_new (o := .tup (iv nn)) hl2 _ _ hp3
        refine ⟨pp, ys, _, rfl, rfl, hp4, small (by first | decide | omega), ?_⟩
        refine ⟨_, _, _, _, _, ms ++ [nn], rfl, same_off (s2.trans (t1.trans (same_new hl2))) hpp, upd_same, ?_, by rw [List.length_append, hml]; rfl, fun j mm hj => ?_⟩
        · exact pr_app (pr_tps tT py2 (((tps_of t1).trans (Tps.new hl2)).trans (Tps.lst hp4))) (.cons ⟨l2, rfl, by rw [upd_ne (ne_of_none hp3 hl2).symm]; exact upd_same⟩ .nil)
        · rcases Nat.lt_or_ge j ms.length with z | z
          · rw [List.getElem?_append_left z] at hj; exact hok j mm hj
          · have hj1 : j < (ms ++ [nn]).length := (List.getElem?_eq_some_iff.mp hj).1
            rw [List.length_append, List.length_singleton] at hj1
            have ej : j = 1 := by omega
            rw [List.getElem?_append_right z, show j - ms.length = 0 by omega] at hj
            cases hj
            exact ⟨hnn, (fun _ => by omega), (fun _ => ⟨(by first | decide | omega), (by first | decide | omega)⟩), (fun _ => by omega), (fun _ => ⟨(by first | decide | omega), (by first | decide | omega)⟩)⟩
      · refine ⟨_, rfl, _, _, rfl, rfl, (by decide), ?_⟩
        refine ⟨(by show 4 ≤ sizeLine; decide), fun l hl => ⟨_, rfl, l, _, ((2 : Nat) : Int), _, rfl, rfl, SqL.of upd_same, atI_nat rfl, ?_⟩⟩
        refine ⟨_, rfl, _, rfl, _, rfl, _, _, rfl, fun m hm0 hm1 => ⟨_, rfl, _, _, rfl, rfl, _, rfl, _, _, rfl, rfl, _, _, rfl, rfl, (by decide), _, _, rfl, rfl, ?_⟩⟩
        refine ⟨_, rfl, rfl, _, rfl, iteF ?_⟩
        refine ⟨_, rfl, rfl, _, rfl, iteT ?_⟩
        refine ⟨_, rfl, _, rfl, _, _, rfl, fun m2 g0 g1 => ⟨_, _, rfl, rfl, (by decide), ?_⟩⟩
        obtain ⟨q, hq⟩ : ∃ q : Nat, m2 % 4 = (q : Int) := Int.eq_ofNat_of_zero_le (by first | decide | omega)
        have s2 := s1.trans (same_new (o := .lst [.int 4, .int 4, .int 4, .int 3]) hl)
        have hp2 := (same_new (o := .lst [.int 4, .int 4, .int 4, .int 3]) hl) _ _ hp1
        have py2 : Paired (IsT (upd H' l (.lst [.int 4, .int 4, .int 4, .int 3]))) ys ms := pr_tps tT py (tps_of (same_new hl))
        generalize (upd H' l (.lst [.int 4, .int 4, .int 4, .int 3])) = HL at s2 hp2 py2 ⊢
        have hql : q ≤ 4 := by omega
        refine ⟨_, rfl, .inl ⟨rfl, _, SqL.of hp2⟩, _, rfl, (q : Int), congrArg (fun z => [V.int z]) hq, (by first | decide | omega), (by first | decide | omega), fun D hD => (let Iv : Nat → List V → L2.St → Hp → Prop := fun j zs τ H2 => Ex2 fun (jv : Option V) (nn : List Int) => And6 (τ = [jv, some (.int c), some (.int (0 + ((2 : Nat) : Int)))]) (Same HL H2) (H2 D = some (.lst zs)) (zs = iv nn) (nn.length = j) (∀ n ∈ nn, In3 n); lc_range (n := q) Iv
          ⟨none, [], rfl, same_new hD, upd_same, rfl, rfl, (fun n h => nomatch h)⟩ (fun j zs τ H2 _ zz1 => by obtain ⟨_, _, _, _, h', _⟩ := zz1; exact h') ?_ ?_)⟩
        · rintro j zs τ H2 hj ⟨jv, nn, rfl, t1, hd1, rfl, hnl, hnn⟩
          refine lcN ?_
          refine ⟨_, rfl, _, rfl, _, _, rfl, rfl, .inl ⟨by decide, by decide⟩, _, rfl, _, _, rfl, rfl, _, _, rfl, rfl, _, _, rfl, fun m3 k0 k1 => ⟨_, _, rfl, rfl, (by decide), hd1, small (by rw [iv_len]; first | decide | omega), _, nn ++ [m3 % 1000], rfl, same_off t1 hD, upd_same, ?_, by rw [List.length_append, hnl]; rfl, fun n hn => ?_⟩⟩
          · rw [iv_app]; rfl
          · rcases List.mem_append.mp hn with z | z
            · exact hnn n z
            · rw [List.mem_singleton.mp z]; exact ⟨(by first | decide | omega), (by first | decide | omega)⟩
        rintro zs τ H2 ⟨jv, nn, rfl, t1, hd1, rfl, hnl, hnn⟩
        have hp3 := t1 _ _ hp2
        refine ⟨D, _, rfl, .inl ⟨SqL.of hd1, fun l2 hl2 => ?_⟩⟩
        have hp4 := same_new (o := .tup (iv nn)) hl2 _ _ hp3
        refine ⟨pp, ys, _, rfl, rfl, hp4, small (by first | decide | omega), ?_⟩
        refine ⟨_, _, _, _, _, ms ++ [nn], rfl, same_off (s2.trans (t1.trans (same_new hl2))) hpp, upd_same, ?_, by rw [List.length_append, hml]; rfl, fun j mm hj => ?_⟩
        · exact pr_app (pr_tps tT py2 (((tps_of t1).trans (Tps.new hl2)).trans (Tps.lst hp4))) (.cons ⟨l2, rfl, by rw [upd_ne (ne_of_none hp3 hl2).symm]; exact upd_same⟩ .nil)
        · rcases Nat.lt_or_ge j ms.length with z | z
          · rw [List.getElem?_append_left z] at hj; exact hok j mm hj
          · have hj1 : j < (ms ++ [nn]).length := (List.getElem?_eq_some_iff.mp hj).1
            rw [List.length_append, List.length_singleton] at hj1
            have ej : j = 2 := by omega
            rw [List.getElem?_append_right z, show j - ms.length = 0 by omega] at hj
            cases hj
            exact ⟨hnn, (fun _ => by omega), (fun _ => ⟨(by first | decide | omega), (by first | decide | omega)⟩), (fun _ => by omega), (fun _ => ⟨(by first | decide | omega), (by first | decide | omega)⟩)⟩
      · refine ⟨_, rfl, _, _, rfl, rfl, (by decide), ?_⟩
        refine ⟨(by show 4 ≤ sizeLine; decide), fun l hl => ⟨_, rfl, l, _, ((3 : Nat) : Int), _, rfl, rfl, SqL.of upd_same, atI_nat rfl, ?_⟩⟩
        refine ⟨_, rfl, _, rfl, _, rfl, _, _, rfl, fun m hm0 hm1 => ⟨_, rfl, _, _, rfl, rfl, _, rfl, _, _, rfl, rfl, _, _, rfl, rfl, (by decide), _, _, rfl, rfl, ?_⟩⟩
        refine ⟨_, rfl, rfl, _, rfl, iteF ?_⟩
        refine ⟨_, rfl, rfl, _, rfl, iteF ?_⟩
        obtain ⟨q, hq0⟩ : ∃ q : Nat, 1 + m % 3 = (q : Int) := Int.eq_ofNat_of_zero_le (by first | decide | omega)
        have hq : (0 + ((3 : Nat) : Int)) % 2 + m % (3 + 1 - (0 + ((3 : Nat) : Int)) % 2) = (q : Int) := by rw [show (3 + 1 - (0 + ((3 : Nat) : Int)) % 2 : Int) = 3 by decide, show ((0 + ((3 : Nat) : Int)) % 2 : Int) = 1 by decide]; exact hq0
        have hq1 : 1 ≤ q ∧ q ≤ 3 := ⟨(by first | decide | omega), (by first | decide | omega)⟩
        have s2 := s1.trans (same_new (o := .lst [.int 4, .int 4, .int 4, .int 3]) hl)
        have hp2 := (same_new (o := .lst [.int 4, .int 4, .int 4, .int 3]) hl) _ _ hp1
        have py2 : Paired (IsT (upd H' l (.lst [.int 4, .int 4, .int 4, .int 3]))) ys ms := pr_tps tT py (tps_of (same_new hl))
        generalize (upd H' l (.lst [.int 4, .int 4, .int 4, .int 3])) = HL at s2 hp2 py2 ⊢
        have hql : q ≤ 4 := by omega
        refine ⟨_, rfl, .inl ⟨rfl, _, SqL.of hp2⟩, _, rfl, (q : Int), congrArg (fun z => [V.int z]) hq, (by first | decide | omega), (by first | decide | omega), fun D hD => (let Iv : Nat → List V → L2.St → Hp → Prop := fun j zs τ H2 => Ex2 fun (jv : Option V) (nn : List Int) => And6 (τ = [jv, some (.int c), some (.int (0 + ((3 : Nat) : Int)))]) (Same HL H2) (H2 D = some (.lst zs)) (zs = iv nn) (nn.length = j) (∀ n ∈ nn, In3 n); lc_range (n := q) Iv
          ⟨none, [], rfl, same_new hD, upd_same, rfl, rfl, (fun n h => nomatch h)⟩ (fun j zs τ H2 _ zz1 => by obtain ⟨_, _, _, _, h', _⟩ := zz1; exact h') ?_ ?_)⟩
        · rintro j zs τ H2 hj ⟨jv, nn, rfl, t1, hd1, rfl, hnl, hnn⟩
          refine lcN ?_
          refine ⟨_, rfl, _, rfl, _, _, rfl, rfl, .inl ⟨by decide, by decide⟩, _, rfl, _, _, rfl, rfl, _, _, rfl, rfl, _, _, rfl, fun m3 k0 k1 => ⟨_, _, rfl, rfl, (by decide), hd1, small (by rw [iv_len]; first | decide | omega), _, nn ++ [m3 % 1000], rfl, same_off t1 hD, upd_same, ?_, by rw [List.length_append, hnl]; rfl, fun n hn => ?_⟩⟩
          · rw [iv_app]; rfl
          · rcases List.mem_append.mp hn with z | z
            · exact hnn n z
            · rw [List.mem_singleton.mp z]; exact ⟨(by first | decide | omega), (by first | decide | omega)⟩
        rintro zs τ H2 ⟨jv, nn, rfl, t1, hd1, rfl, hnl, hnn⟩
        have hp3 := t1 _ _ hp2
        refine ⟨D, _, rfl, .inl ⟨SqL.of hd1, fun l2 hl2 => ?_⟩⟩
        have hp4 := same_new (o := .tup (iv nn)) hl2 _ _ hp3
        refine ⟨pp, ys, _, rfl, rfl, hp4, small (by first | decide | omega), ?_⟩
        refine ⟨_, _, _, _, _, ms ++ [nn], rfl, same_off (s2.trans (t1.trans (same_new hl2))) hpp, upd_same, ?_, by rw [List.length_append, hml]; rfl, fun j mm hj => ?_⟩
        · exact pr_app (pr_tps tT py2 (((tps_of t1).trans (Tps.new hl2)).trans (Tps.lst hp4))) (.cons ⟨l2, rfl, by rw [upd_ne (ne_of_none hp3 hl2).symm]; exact upd_same⟩ .nil)
        · rcases Nat.lt_or_ge j ms.length with z | z
          · rw [List.getElem?_append_left z] at hj; exact hok j mm hj
          · have hj1 : j < (ms ++ [nn]).length := (List.getElem?_eq_some_iff.mp hj).1
            rw [List.length_append, List.length_singleton] at hj1
            have ej : j = 3 := by omega
            rw [List.getElem?_append_right z, show j - ms.length = 0 by omega] at hj
            cases hj
            exact ⟨hnn, (fun _ => by omega), (fun _ => ⟨(by first | decide | omega), (by first | decide | omega)⟩), (fun _ => by omega), (fun _ => ⟨(by first | decide | omega), (by first | decide | omega)⟩)⟩
    rintro σ H1 ⟨kv, lv, mv, nv, ys, ms, rfl, s1, hp1, py, hml, hok⟩
    match ms, hml, py, hok with
    | [b, t, a, g], _, py, hok =>
      have o0 := hok 0 b rfl
      have o1 := hok 1 t rfl
      have o2 := hok 2 a rfl
      have o3 := hok 3 g rfl
      cases py with
      | cons k1 py =>
        cases py with
        | cons k2 py =>
          cases py with
          | cons k3 py =>
            cases py with
            | cons k4 py =>
              cases py
              refine ⟨_, rfl, pp, _, rfl, .inl ⟨SqL.of hp1, fun l hl => ?_⟩⟩
              refine kq _ ⟨b, t, a, g⟩ _ (s1.trans (same_new hl)) ⟨l, _, _, _, _, rfl, upd_same, k1.tps (Tps.new hl), k2.tps (Tps.new hl), k3.tps (Tps.new hl), k4.tps (Tps.new hl)⟩ ?_
              exact ⟨o0.1, o1.1, o2.1, o3.1, o0.2.1 rfl, (o1.2.2.1 rfl).1, (o1.2.2.1 rfl).2, o2.2.2.2.1 rfl, (o3.2.2.2.2 rfl).1, (o3.2.2.2.2 rfl).2⟩



theorem ok_law_written {f : Addr} {fd : FuncData} (D : Dn K mg "_law_written" s_law_written ["rule"] f fd) (T : Txt K mg) :
    FnOk P w K mg base CX0 1 f fd ["rule"] spWritten := by
  refine D.F.ok (k := 0) sc_law_written (fun vs H Q E h => ?_) (fun cdv A outer s H vs Q E hr h => ?_)
  · obtain ⟨v, r, rfl, ⟨ar, vb, vt, vh, vg, rfl, har, ⟨ab, rfl, hab⟩, ⟨at', rfl, hat⟩, ⟨ah, rfl, hah⟩, ⟨ag, rfl, hag⟩⟩, rin, kq⟩ := h
    rfl
  · obtain ⟨v, r, rfl, ⟨ar, vb, vt, vh, vg, rfl, har, ⟨ab, rfl, hab⟩, ⟨at', rfl, hat⟩, ⟨ah, rfl, hah⟩, ⟨ag, rfl, hag⟩⟩, rin, kq⟩ := h
    refine ⟨_, (pss_cons (ps_set (i := 1) sc_law_written.nd rfl (by first | exact Or.inl rfl | exact Or.inr rfl) pe_str)
       (pss_cons (ps_for PassesOwn.never rfl (pi_tup0 (pe_ix ix_tup0 (pv 0) pe_int (fun _ _ => rfl))) (pg_name (i := 2) sc_law_written.nd rfl (by first | exact Or.inl rfl | exact Or.inr rfl))
       (pss_one (ps_set (i := 1) sc_law_written.nd rfl (by first | exact Or.inl rfl | exact Or.inr rfl) (pe_op op_add_str (pe_op op_add_str (pv 1) (pe_callTy call_str_int (by rfl) T.n_str boot_str (pa_cons (pv 2) pa_nil))) pe_str))))
       (pss_cons (ps_set (i := 1) sc_law_written.nd rfl (by first | exact Or.inl rfl | exact Or.inr rfl) (pe_op op_add_str (pe_op op_add_str (pe_op op_add_str (pv 1) pe_str) (pe_bm PySem.F.plainAttrs_str PySem.F.slot_str_join PySem.F.type_str_join mt_join pe_str (pa_cons (pe_lc ["shape"] [] rfl (pi_tup0 (pe_ix ix_tup0 (pv 0) pe_int (fun _ _ => rfl))) (fun _ _ _ _ => ⟨(pg_name (i := 0) (by exact (show (["shape"] : List Str).Nodup by decide +kernel)) rfl (by first | exact Or.inl rfl | exact Or.inr rfl)), pts_nil, (pe_callTy call_str_int (by rfl) T.n_str boot_str (pa_cons (pv 0) pa_nil))⟩)) pa_nil))) pe_str))
       (pss_cons (ps_for PassesOwn.never rfl (pi_tup0 (pe_ix ix_tup0 (pv 0) pe_int (fun _ _ => rfl))) (pg_name (i := 2) sc_law_written.nd rfl (by first | exact Or.inl rfl | exact Or.inr rfl))
       (pss_one (ps_set (i := 1) sc_law_written.nd rfl (by first | exact Or.inl rfl | exact Or.inr rfl) (pe_op op_add_str (pe_op op_add_str (pv 1) pe_str) (pe_callTy call_str_int (by rfl) T.n_str boot_str (pa_cons (pv 2) pa_nil))))))
       (pss_one (ps_ret (pe_op op_add_str (pe_op op_add_str (pv 1) pe_str) (pe_bm PySem.F.plainAttrs_str PySem.F.slot_str_join PySem.F.type_str_join mt_join pe_str (pa_cons (pe_lc ["shape"] [] rfl (pi_tup0 (pe_ix ix_tup0 (pv 0) pe_int (fun _ _ => rfl))) (fun _ _ _ _ => ⟨(pg_name (i := 0) (by exact (show (["shape"] : List Str).Nodup by decide +kernel)) rfl (by first | exact Or.inl rfl | exact Or.inr rfl)), pts_nil, (pe_callTy call_str_int (by rfl) T.n_str boot_str (pa_cons (pv 0) pa_nil))⟩)) pa_nil))))))))), ?_⟩
    have bl := rin.bl
    have tl := rin.tl
    have al := rin.al
    have gl := rin.gl
    have l1 : ("[" : Str).length = 1 := by decide +kernel
    have l2 : ("]" : Str).length = 1 := by decide +kernel
    have l3 : (">" : Str).length = 1 := by decide +kernel
    have jk : ∀ ns : List Int, (∀ n ∈ ns, In3 n) → ns.length ≤ 10 → JoinOk (" " : Str) (ns.map sx) = true := fun ns h hl => jok (by rw [List.length_map]; omega) (fun y hy => by obtain ⟨n, hn, rfl⟩ := List.mem_map.mp hy; exact Nat.le_trans (sx_len (h n hn)) (by decide)) (by decide +kernel)
    have jm : ∀ ns : List Int, cp (Txt.join (" " : Str) (ns.map sx)) = midL ns := fun ns => by rw [cp_join, List.map_map, cp_sp]; rfl
    refine ⟨_, rfl, ar, _, ((0 : Nat) : Int), _, rfl, rfl, SqT.of har, atI_nat rfl, ab, rfl, ⟨_, SqT.of hab⟩, (let Iv : Nat → L2.St → Hp → Prop := fun i σ H' => Ex2 fun (sv : Option V) (x : Str) => And3 (σ = [some (.ref ar), some (.str x), sv]) (H = H') (cp x = preL (r.b.take i)); for_tup (xs := iv r.b) Iv
      ⟨none, _, rfl, rfl, cp_no⟩ (fun i σ H' _ zz1 => by obtain ⟨_, _, _, h', _⟩ := zz1; exact h' ▸ SqT.of hab) ?_ ?_)⟩
    · rintro i v σ H' hv ⟨sv, x, rfl, rfl, hx⟩
      obtain ⟨n, hn, rfl⟩ := at_iv hv
      have h3 := rin.b n (List.mem_of_getElem? hn)
      have hl3 := sx_len h3
      have hlx := cp_le hx (Nat.le_trans (pre_len fun m hm => rin.b m (List.mem_of_mem_take hm)) (show _ ≤ 12 by rw [List.length_take]; omega))
      refine ⟨_, rfl, _, rfl, n, rfl, log3 h3, _, _, rfl, rfl, small' (show x.length + (sx n).length ≤ _ by omega), _, _, rfl, rfl, small' (show (x ++ sx n).length + (" " : Str).length ≤ _ by rw [app_len, sp_len]; omega), _, _, rfl, rfl, ?_⟩
      rw [cp_app, cp_app, hx, take_snoc hn, pre_snoc, cp_sp, List.append_assoc]; rfl
    rintro σ H0 ⟨sv, x1, rfl, rfl, e1⟩
    rw [iv_len, List.take_length] at e1
    have g1 := cp_le e1 (Nat.le_trans (pre_len rin.b) (show _ ≤ 12 by omega))
    refine ⟨_, rfl, _, _, rfl, rfl, small' (by rw [l1]; omega), rfl, _, rfl, ar, _, ((1 : Nat) : Int), _, rfl, rfl, SqT.of har, atI_nat rfl, at', rfl, ⟨_, SqT.of hat⟩, fun D hD => (let Iv : Nat → List V → L2.St → Hp → Prop := fun i ys τ H' => ∃ pv, And4 (τ = [pv]) (Same H H') (H' D = some (.lst ys)) (ys = ((r.t.take i).map sx).map V.str); lc_tup (xs := iv r.t) Iv
      ⟨none, rfl, same_new hD, upd_same, rfl⟩ (fun i ys τ H' _ zz1 => by obtain ⟨_, _, s', h', _⟩ := zz1; exact ⟨h', SqT.of (s' _ _ hat)⟩) ?_ ?_)⟩
    · rintro i x ys τ H' hx ⟨pv, rfl, s1, hd1, rfl⟩
      obtain ⟨n, hn, rfl⟩ := at_iv hx
      have hil := (List.getElem?_eq_some_iff.mp hn).1
      refine lcN ?_
      refine ⟨_, rfl, n, rfl, log3 (rin.t n (List.mem_of_getElem? hn)), hd1, small (by rw [List.length_map, List.length_map, List.length_take]; omega), _, rfl, same_off s1 hD, upd_same, ?_⟩
      rw [take_snoc hn, List.map_append, List.map_append]; rfl
    rintro ys τ H1 ⟨pv, rfl, s1, hd1, rfl⟩
    rw [iv_len, List.take_length] at hd1
    have g2 := cp_le (jm r.t) (Nat.le_trans (mid_len rin.t) (show _ ≤ 16 by omega))
    refine ⟨_, D, r.t.map sx, rfl, rfl, SqL.of hd1, jk r.t rin.t (by first | decide | omega), _, _, rfl, rfl, small' (by rw [app_len, l1]; omega), _, _, rfl, rfl, small' (by rw [app_len, app_len, l1, l2]; omega), ?_⟩
    have e2 : cp (x1 ++ ("[" : Str) ++ Txt.join (" " : Str) (r.t.map sx) ++ ("]" : Str)) = preL r.b ++ [91] ++ midL r.t ++ [93] := by rw [cp_app, cp_app, cp_app, e1, cp_lb, jm, cp_rb]
    have g3 : (x1 ++ ("[" : Str) ++ Txt.join (" " : Str) (r.t.map sx) ++ ("]" : Str)).length ≤ 30 := by rw [app_len, app_len, app_len, l1, l2]; omega
    generalize (x1 ++ ("[" : Str) ++ Txt.join (" " : Str) (r.t.map sx) ++ ("]" : Str)) = x2 at e2 g3 ⊢
    refine ⟨_, rfl, ar, _, ((2 : Nat) : Int), _, rfl, rfl, SqT.of (s1 _ _ har), atI_nat rfl, ah, rfl, ⟨_, SqT.of (s1 _ _ hah)⟩, (let Iv : Nat → L2.St → Hp → Prop := fun i σ H' => Ex2 fun (sv : Option V) (x : Str) => And3 (σ = [some (.ref ar), some (.str x), sv]) (H1 = H') (cp x = preL r.b ++ [91] ++ midL r.t ++ [93] ++ postL (r.a.take i)); for_tup (xs := iv r.a) Iv
      ⟨_, _, rfl, rfl, by rw [e2]; simp [postL]⟩ (fun i σ H' _ zz1 => by obtain ⟨_, _, _, h', _⟩ := zz1; exact h' ▸ SqT.of (s1 _ _ hah)) ?_ ?_)⟩
    · rintro i v σ H' hv ⟨sv, x, rfl, rfl, hx⟩
      obtain ⟨n, hn, rfl⟩ := at_iv hv
      have h3 := rin.a n (List.mem_of_getElem? hn)
      have hl3 := sx_len h3
      have q1 := pre_len rin.b
      have q2 := mid_len rin.t
      have q3 := post_len fun m hm => rin.a m (List.mem_of_mem_take (i := i) hm)
      rw [List.length_take] at q3
      have hlx : x.length ≤ 50 := cp_le hx (by simp only [List.length_append, List.length_singleton]; omega)
      refine ⟨_, rfl, _, _, rfl, rfl, small' (by rw [sp_len]; omega), _, rfl, n, rfl, log3 h3, _, _, rfl, rfl, small' (show (x ++ (" " : Str)).length + (sx n).length ≤ _ by rw [app_len, sp_len]; omega), _, _, rfl, rfl, ?_⟩
      rw [cp_app, cp_app, hx, take_snoc hn, post_snoc, cp_sp, ← List.append_assoc, ← List.append_assoc]; rfl
    rintro σ H0 ⟨sv2, x3, rfl, rfl, e3⟩
    rw [iv_len, List.take_length] at e3
    have q1 := pre_len rin.b
    have q2 := mid_len rin.t
    have q3 := post_len rin.a
    have g4 : x3.length ≤ 50 := cp_le e3 (by simp only [List.length_append, List.length_singleton]; omega)
    refine ⟨_, rfl, _, _, rfl, rfl, small' (by rw [l3]; omega), rfl, _, rfl, ar, _, ((3 : Nat) : Int), _, rfl, rfl, SqT.of (s1 _ _ har), atI_nat rfl, ag, rfl, ⟨_, SqT.of (s1 _ _ hag)⟩, fun D hD => (let Iv : Nat → List V → L2.St → Hp → Prop := fun i ys τ H' => ∃ pv, And4 (τ = [pv]) (Same H1 H') (H' D = some (.lst ys)) (ys = ((r.g.take i).map sx).map V.str); lc_tup (xs := iv r.g) Iv
      ⟨none, rfl, same_new hD, upd_same, rfl⟩ (fun i ys τ H' _ zz1 => by obtain ⟨_, _, s', h', _⟩ := zz1; exact ⟨h', SqT.of (s' _ _ (s1 _ _ hag))⟩) ?_ ?_)⟩
    · rintro i x ys τ H' hx ⟨pv, rfl, s1, hd1, rfl⟩
      obtain ⟨n, hn, rfl⟩ := at_iv hx
      have hil := (List.getElem?_eq_some_iff.mp hn).1
      refine lcN ?_
      refine ⟨_, rfl, n, rfl, log3 (rin.g n (List.mem_of_getElem? hn)), hd1, small (by rw [List.length_map, List.length_map, List.length_take]; omega), _, rfl, same_off s1 hD, upd_same, ?_⟩
      rw [take_snoc hn, List.map_append, List.map_append]; rfl
    rintro ys τ H2 ⟨pv, rfl, s2, hd2, rfl⟩
    rw [iv_len, List.take_length] at hd2
    have g5 := cp_le (jm r.g) (Nat.le_trans (mid_len rin.g) (show _ ≤ 12 by omega))
    refine ⟨_, D, r.g.map sx, rfl, rfl, SqL.of hd2, jk r.g rin.g (by first | decide | omega), _, _, rfl, rfl, small' (by rw [app_len, l3]; omega), kq _ _ (s1.trans s2) ?_⟩
    rw [cp_app, cp_app, e3, cp_gt, jm]; rfl



theorem ok_spaced {f : Addr} {fd : FuncData} (D : Dn K mg "spaced" s_spaced ["shapes"] f fd) (T : Txt K mg) :
    FnOk P w K mg base CX0 1 f fd ["shapes"] spSpaced := by
  refine D.F.ok (k := 0) sc_spaced (fun vs H Q E h => ?_) (fun cdv A outer s H vs Q E hr h => ?_)
  · obtain ⟨v, ns, rfl, ⟨a, rfl, ha⟩, hin, hl, kq⟩ := h
    rfl
  · obtain ⟨v, ns, rfl, ⟨a, rfl, ha⟩, hin, hl, kq⟩ := h
    refine ⟨_, (pss_one (ps_ret (pe_bm PySem.F.plainAttrs_str PySem.F.slot_str_join PySem.F.type_str_join mt_join pe_str (pa_cons (pe_lc ["shape"] [] rfl (pi_tup0 (pv 0)) (fun _ _ _ _ => ⟨(pg_name (i := 0) (by exact (show (["shape"] : List Str).Nodup by decide +kernel)) rfl (by first | exact Or.inl rfl | exact Or.inr rfl)), pts_nil, (pe_callTy call_str_int (by rfl) T.n_str boot_str (pa_cons (pv 0) pa_nil))⟩)) pa_nil)))), ?_⟩
    refine ⟨rfl, _, rfl, a, rfl, ⟨_, SqT.of ha⟩, fun D hD => (let Iv : Nat → List V → L2.St → Hp → Prop := fun i ys τ H' => ∃ pv, And4 (τ = [pv]) (Same H H') (H' D = some (.lst ys)) (ys = ((ns.take i).map sx).map V.str); lc_tup (xs := iv ns) Iv
      ⟨none, rfl, same_new hD, upd_same, rfl⟩ (fun i ys τ H' _ zz1 => by obtain ⟨_, _, s', h', _⟩ := zz1; exact ⟨h', SqT.of (s' _ _ ha)⟩) ?_ ?_)⟩
    · rintro i x ys τ H' hx ⟨pv, rfl, s1, hd1, rfl⟩
      obtain ⟨n, hn, rfl⟩ := at_iv hx
      have hil := (List.getElem?_eq_some_iff.mp hn).1
      refine lcN ?_
      refine ⟨_, rfl, n, rfl, log3 (hin n (List.mem_of_getElem? hn)), hd1, small (by rw [List.length_map, List.length_map, List.length_take]; omega), _, rfl, same_off s1 hD, upd_same, ?_⟩
      rw [take_snoc hn, List.map_append, List.map_append]; rfl
    rintro ys τ H1 ⟨pv, rfl, s1, hd1, rfl⟩
    rw [iv_len, List.take_length] at hd1
    refine ⟨_, D, ns.map sx, rfl, rfl, SqL.of hd1, jok (by rw [List.length_map]; omega) (fun y hy => ?_) (by decide), kq _ _ s1 ?_⟩
    · obtain ⟨n, hn, rfl⟩ := List.mem_map.mp hy
      exact Nat.le_trans (sx_len (hin n hn)) (by decide)
    · rw [cp_join, List.map_map]; rfl



theorem ok_shown {f : Addr} {fd : FuncData} {f_spaced : Addr} {fd_spaced : FuncData} (D : Dn K mg "shown" s_shown ["rule"] f fd) (T : Txt K mg)
    (D_spaced : Dn K mg "spaced" s_spaced ["shapes"] f_spaced fd_spaced) (G_spaced : FnOk P w K mg base CX0 1 f_spaced fd_spaced ["shapes"] spSpaced) :
    FnOk P w K mg base CX0 2 f fd ["rule"] spWritten := by
  refine D.F.ok (k := 1) sc_shown (fun vs H Q E h => ?_) (fun cdv A outer s H vs Q E hr h => ?_)
  · obtain ⟨v, r, rfl, ⟨ar, vb, vt, vh, vg, rfl, har, ⟨ab, rfl, hab⟩, ⟨at', rfl, hat⟩, ⟨ah, rfl, hah⟩, ⟨ag, rfl, hag⟩⟩, rin, kq⟩ := h
    rfl
  · obtain ⟨v, r, rfl, ⟨ar, vb, vt, vh, vg, rfl, har, ⟨ab, rfl, hab⟩, ⟨at', rfl, hat⟩, ⟨ah, rfl, hah⟩, ⟨ag, rfl, hag⟩⟩, rin, kq⟩ := h
    have hr_spaced : Room 1 _ := hr.mono (by decide)
    refine ⟨_, (pss_cons (ps_set (i := 1) sc_shown.nd rfl (by first | exact Or.inl rfl | exact Or.inr rfl) (pe_bm PySem.F.plainAttrs_str PySem.F.slot_str_join PySem.F.type_str_join mt_join pe_str (pa_cons (pe_lc ["shape"] [] rfl (pi_tup0 (pe_ix ix_tup0 (pv 0) (pe_gint (by rfl) T.c_BEHIND) (fun _ _ => rfl))) (fun _ _ _ _ => ⟨(pg_name (i := 0) (by exact (show (["shape"] : List Str).Nodup by decide +kernel)) rfl (by first | exact Or.inl rfl | exact Or.inr rfl)), pts_nil, (pe_join (pj_val (pv 0) (pj_lit pj_nil)))⟩)) pa_nil)))
       (pss_cons (ps_set (i := 2) sc_shown.nd rfl (by first | exact Or.inl rfl | exact Or.inr rfl) (pe_call G_spaced hr_spaced (by rfl) D_spaced.m D_spaced.F.kp D_spaced.b .nil pass0 (pa_cons (pe_ix ix_tup0 (pv 0) (pe_gint (by rfl) T.c_TAKE) (fun _ _ => rfl)) pa_nil)))
       (pss_cons (ps_set (i := 3) sc_shown.nd rfl (by first | exact Or.inl rfl | exact Or.inr rfl) (pe_bm PySem.F.plainAttrs_str PySem.F.slot_str_join PySem.F.type_str_join mt_join pe_str (pa_cons (pe_lc ["shape"] [] rfl (pi_tup0 (pe_ix ix_tup0 (pv 0) (pe_gint (by rfl) T.c_AHEAD) (fun _ _ => rfl))) (fun _ _ _ _ => ⟨(pg_name (i := 0) (by exact (show (["shape"] : List Str).Nodup by decide +kernel)) rfl (by first | exact Or.inl rfl | exact Or.inr rfl)), pts_nil, (pe_join (pj_lit (pj_val (pv 0) pj_nil)))⟩)) pa_nil)))
       (pss_cons (ps_set (i := 4) sc_shown.nd rfl (by first | exact Or.inl rfl | exact Or.inr rfl) (pe_call G_spaced hr_spaced (by rfl) D_spaced.m D_spaced.F.kp D_spaced.b .nil pass0 (pa_cons (pe_ix ix_tup0 (pv 0) (pe_gint (by rfl) T.c_GIVE) (fun _ _ => rfl)) pa_nil)))
       (pss_one (ps_ret (pe_join (pj_val (pv 1) (pj_lit (pj_val (pv 2) (pj_lit (pj_val (pv 3) (pj_lit (pj_val (pv 4) pj_nil)))))))))))))), ?_⟩
    have z0 : ("" : Str).length ≤ 10 := by decide +kernel
    refine ⟨rfl, _, rfl, ar, _, ((0 : Nat) : Int), _, rfl, rfl, SqT.of har, atI_nat rfl, ab, rfl, ⟨_, SqT.of hab⟩, fun D hD => (let Iv : Nat → List V → L2.St → Hp → Prop := fun i ys τ H' => ∃ pv, And4 (τ = [pv]) (Same H H') (H' D = some (.lst ys)) (ys = ((r.b.take i).map pbx).map V.str); lc_tup (xs := iv r.b) Iv
      ⟨none, rfl, same_new hD, upd_same, rfl⟩ (fun i ys τ H' _ zz1 => by obtain ⟨_, _, s', h', _⟩ := zz1; exact ⟨h', SqT.of (s' _ _ hab)⟩) ?_ ?_)⟩
    · rintro i x ys τ H' hx ⟨pv, rfl, s1, hd1, rfl⟩
      obtain ⟨n, hn, rfl⟩ := at_iv hx
      have hil := (List.getElem?_eq_some_iff.mp hn).1
      have h3 := rin.b n (List.mem_of_getElem? hn)
      have hl3 := sx_len h3
      have := rin.bl
      refine lcN ?_
      refine ⟨_, rfl, sx n, .inl ⟨n, rfl, log3 h3, rfl⟩, small' (by rw [app_len, e_len]; omega), small' (Nat.le_trans (pbx_len h3) (by decide)), hd1, small (by rw [List.length_map, List.length_map, List.length_take]; omega), _, rfl, same_off s1 hD, upd_same, ?_⟩
      rw [take_snoc hn, List.map_append, List.map_append]; rfl
    rintro ys τ H1 ⟨pv, rfl, s1, hd1, rfl⟩
    rw [iv_len, List.take_length] at hd1
    have bl := rin.bl
    refine ⟨_, D, r.b.map pbx, rfl, rfl, SqL.of hd1, jok (by rw [List.length_map]; omega) (fun y hy => ?_) z0, ?_⟩
    · obtain ⟨n, hn, rfl⟩ := List.mem_map.mp hy
      exact Nat.le_trans (pbx_len (rin.b n hn)) (by decide)
    have eb := join_pbx r.b
    have lb := cp_le eb (Nat.le_trans (pre_len rin.b) (show _ ≤ 12 by omega))
    generalize Txt.join ("" : Str) (r.b.map pbx) = xb at eb lb ⊢
    have tl := rin.tl
    refine ⟨_, rfl, ar, _, ((1 : Nat) : Int), _, rfl, rfl, SqT.of (s1 _ _ har), atI_nat rfl, _, r.t, rfl, ⟨at', rfl, s1 _ _ hat⟩, rin.t, by omega, fun xt H2 s2 et => ?_⟩
    have lt' := cp_le et (Nat.le_trans (mid_len rin.t) (show _ ≤ 16 by omega))
    have s02 := s1.trans s2
    refine ⟨rfl, _, rfl, ar, _, ((2 : Nat) : Int), _, rfl, rfl, SqT.of (s02 _ _ har), atI_nat rfl, ah, rfl, ⟨_, SqT.of (s02 _ _ hah)⟩, fun D' hD' => (let Iv : Nat → List V → L2.St → Hp → Prop := fun i ys τ H' => ∃ pv, And4 (τ = [pv]) (Same H2 H') (H' D' = some (.lst ys)) (ys = ((r.a.take i).map pax).map V.str); lc_tup (xs := iv r.a) Iv
      ⟨none, rfl, same_new hD', upd_same, rfl⟩ (fun i ys τ H' _ zz1 => by obtain ⟨_, _, s', h', _⟩ := zz1; exact ⟨h', SqT.of (s' _ _ (s02 _ _ hah))⟩) ?_ ?_)⟩
    · rintro i x ys τ H' hx ⟨pv, rfl, s3, hd3, rfl⟩
      obtain ⟨n, hn, rfl⟩ := at_iv hx
      have hil := (List.getElem?_eq_some_iff.mp hn).1
      have h3 := rin.a n (List.mem_of_getElem? hn)
      have := rin.al
      refine lcN ?_
      refine ⟨small' (by rw [app_len, e_len, sp_len]; decide), _, rfl, sx n, .inl ⟨n, rfl, log3 h3, rfl⟩, small' (Nat.le_trans (pax_len h3) (by decide)), hd3, small (by rw [List.length_map, List.length_map, List.length_take]; omega), _, rfl, same_off s3 hD', upd_same, ?_⟩
      rw [take_snoc hn, List.map_append, List.map_append]; rfl
    rintro ys τ H3 ⟨pv2, rfl, s3, hd3, rfl⟩
    rw [iv_len, List.take_length] at hd3
    have al := rin.al
    refine ⟨_, D', r.a.map pax, rfl, rfl, SqL.of hd3, jok (by rw [List.length_map]; omega) (fun y hy => ?_) z0, ?_⟩
    · obtain ⟨n, hn, rfl⟩ := List.mem_map.mp hy
      exact Nat.le_trans (pax_len (rin.a n hn)) (by decide)
    have ea := join_pax r.a
    have la := cp_le ea (Nat.le_trans (post_len rin.a) (show _ ≤ 12 by omega))
    generalize Txt.join ("" : Str) (r.a.map pax) = xa at ea la ⊢
    have gl := rin.gl
    have s03 := s02.trans s3
    refine ⟨_, rfl, ar, _, ((3 : Nat) : Int), _, rfl, rfl, SqT.of (s03 _ _ har), atI_nat rfl, _, r.g, rfl, ⟨ag, rfl, s03 _ _ hag⟩, rin.g, by omega, fun xg H4 s4 eg => ?_⟩
    have lg := cp_le eg (Nat.le_trans (mid_len rin.g) (show _ ≤ 12 by omega))
    have l1 : ("[" : Str).length = 1 := by decide +kernel
    have l2 : ("]" : Str).length = 1 := by decide +kernel
    have l3 : (">" : Str).length = 1 := by decide +kernel
    refine ⟨_, rfl, xb, .inr ⟨rfl, small' (by first | decide | omega)⟩, small' (by rw [app_len, e_len]; omega), small' (by rw [app_len, app_len, e_len, l1]; omega), _, rfl, xt, .inr ⟨rfl, small' (by first | decide | omega)⟩, small' (by rw [app_len, app_len, app_len, e_len, l1]; omega), small' (by rw [app_len, app_len, app_len, app_len, e_len, l1, l2]; omega), _, rfl, xa, .inr ⟨rfl, small' (by first | decide | omega)⟩, small' (by rw [app_len, app_len, app_len, app_len, app_len, e_len, l1, l2]; omega), small' (by rw [app_len, app_len, app_len, app_len, app_len, app_len, e_len, l1, l2, l3]; omega), _, rfl, xg, .inr ⟨rfl, small' (by first | decide | omega)⟩, small' (by rw [app_len, app_len, app_len, app_len, app_len, app_len, app_len, e_len, l1, l2, l3]; omega), ?_⟩
    refine kq _ _ (s03.trans s4) ?_
    rw [cp_app, cp_app, cp_app, cp_app, cp_app, cp_app, cp_app, cp_empty, eb, et, ea, eg, cp_lb, cp_rb, cp_gt, List.nil_append]
    rfl



theorem ok_has_right_numbers {f : Addr} {fd : FuncData} (D : Dn K mg "has_right_numbers" s_has_right_numbers ["rule"] f fd) (T : Txt K mg) :
    FnOk P w K mg base CX0 1 f fd ["rule"] spRight := by
  refine D.F.ok (k := 0) sc_has_right_numbers (fun vs H Q E h => ?_) (fun cdv A outer s H vs Q E hr h => ?_)
  · obtain ⟨v, r, rfl, ⟨ar, vb, vt, vh, vg, rfl, har, ⟨ab, rfl, hab⟩, ⟨at', rfl, hat⟩, ⟨ah, rfl, hah⟩, ⟨ag, rfl, hag⟩⟩, rin, kq⟩ := h
    rfl
  · obtain ⟨v, r, rfl, ⟨ar, vb, vt, vh, vg, rfl, har, ⟨ab, rfl, hab⟩, ⟨at', rfl, hat⟩, ⟨ah, rfl, hah⟩, ⟨ag, rfl, hag⟩⟩, rin, kq⟩ := h
    obtain ⟨a_MOST_SHAPES, m_MOST_SHAPES, q_MOST_SHAPES⟩ := T.c_MOST_SHAPES
    obtain ⟨a_LEAST_SHAPES, m_LEAST_SHAPES, q_LEAST_SHAPES⟩ := T.c_LEAST_SHAPES
    refine ⟨_, (pss_one (ps_ret (pe_callB (call_all hr.hd) (by rfl) T.n_all boot_all (pa_cons (pe_lc ["part", "least", "most"] [] rfl (pi_zip3K rfl (by rfl) T.n_zip (pa_cons (pv 0) (pa_cons (pe_glob (v := .ref a_LEAST_SHAPES) (by rfl) m_LEAST_SHAPES rfl) (pa_cons (pe_glob (v := .ref a_MOST_SHAPES) (by rfl) m_MOST_SHAPES rfl) pa_nil)))) (fun _ _ _ _ => ⟨(pg_tupK (K := K) rfl (n := 3) rfl (pgs_cons (pg_name (i := 0) (by exact (show (["part", "least", "most"] : List Str).Nodup by decide +kernel)) rfl (by first | exact Or.inl rfl | exact Or.inr rfl)) (pgs_cons (pg_name (i := 1) (by exact (show (["part", "least", "most"] : List Str).Nodup by decide +kernel)) rfl (by first | exact Or.inl rfl | exact Or.inr rfl)) (pgs_cons (pg_name (i := 2) (by exact (show (["part", "least", "most"] : List Str).Nodup by decide +kernel)) rfl (by first | exact Or.inl rfl | exact Or.inr rfl)) pgs_nil)))), pts_nil, (pe_chain op_le op_le (pv 1) (pe_callB (call_len_seqK (K := K) rfl) (by rfl) T.n_len PySem.boot_len (pa_cons (pv 0) pa_nil)) (pv 2))⟩)) pa_nil)))), ?_⟩
    refine ⟨_, rfl, ar, a_LEAST_SHAPES, a_MOST_SHAPES, _, _, _, rfl, SqT.of har, q_LEAST_SHAPES _, q_MOST_SHAPES _, fun D hD => lc_zip3 (xs := [.ref ab, .ref at', .ref ah, .ref ag]) (ws := iv [0, 1, 0, 1]) (zs := iv [3, 4, 3, 3]) rfl rfl (fun i ys τ H' => Ex3 fun pv lv mv => And4 (τ = [pv, lv, mv]) (Same H H') (H' D = some (.lst ys)) (ys = (List.replicate i true).map V.bl))
      ⟨none, none, none, rfl, same_new hD, upd_same, rfl⟩ (fun i ys τ H' _ zz1 => by obtain ⟨_, _, _, _, s', h', _⟩ := zz1; exact ⟨h', SqT.of (s' _ _ har), q_LEAST_SHAPES _, q_MOST_SHAPES _⟩) ?_ ?_⟩
    · rintro i x w z ys τ H' p hx hw hz ⟨pv, lv, mv, rfl, s1, hd1, rfl⟩ hp
      have s2 : Same H (upd H' p (.tup [x, w, z])) := s1.trans (same_new hp)
      have hd2 : (upd H' p (.tup [x, w, z])) D = some (.lst ((List.replicate i true).map V.bl)) := same_new hp _ _ hd1
      have hi : i < 4 := (List.getElem?_eq_some_iff.mp hx).1
      obtain ⟨am, ms, lo, hi', rfl, rfl, rfl, hm, h1, h2⟩ : ∃ (am : Addr) (ms : List Int) (lo hi' : Int), x = .ref am ∧ w = .int lo ∧ z = .int hi' ∧ H am = some (.tup (iv ms)) ∧ lo ≤ (ms.length : Int) ∧ (ms.length : Int) ≤ hi' := by
        have h4 : i = 0 ∨ i = 1 ∨ i = 2 ∨ i = 3 := by omega
        have := rin.bl; have := rin.t1; have := rin.tl; have := rin.al; have := rin.g1; have := rin.gl
        rcases h4 with rfl | rfl | rfl | rfl
        · cases hx; cases hw; cases hz; exact ⟨ab, r.b, 0, 3, rfl, rfl, rfl, hab, by omega, by omega⟩
        · cases hx; cases hw; cases hz; exact ⟨at', r.t, 1, 4, rfl, rfl, rfl, hat, by omega, by omega⟩
        · cases hx; cases hw; cases hz; exact ⟨ah, r.a, 0, 3, rfl, rfl, rfl, hah, by omega, by omega⟩
        · cases hx; cases hw; cases hz; exact ⟨ag, r.g, 1, 3, rfl, rfl, rfl, hag, by omega, by omega⟩
      refine ⟨p, _, rfl, SqT.of upd_same, rfl, ?_⟩
      refine ⟨_, _, rfl, _, _, rfl, _, _, rfl, rfl, ?_⟩
      refine lcT ?_
      refine ⟨_, rfl, _, rfl, am, _, rfl, .inr (SqT.of (s2 _ _ hm)), _, _, rfl, rfl, _, rfl, ?_⟩
      rw [show decide (lo ≤ ((iv ms).length : Int)) = true from decide_eq_true (by rw [iv_len]; exact h1)]
      refine iteT ?_
      refine ⟨_, rfl, _, _, rfl, rfl, hd2, small (by rw [List.length_map, List.length_replicate]; omega), _, _, _, rfl, same_off s2 hD, upd_same, ?_⟩
      rw [show decide (((iv ms).length : Int) ≤ hi') = true from decide_eq_true (by rw [iv_len]; exact h2), List.replicate_succ', List.map_append]; rfl
    rintro ys τ H1 ⟨pv, lv, mv, rfl, s1, hd1, rfl⟩
    refine ⟨D, _, rfl, SqL.of hd1, ?_⟩
    exact kq _ s1



theorem ok_shape_in {f : Addr} {fd : FuncData} (D : Dn K mg "shape_in" s_shape_in ["word"] f fd) (T : Txt K mg) :
    FnOk P w K mg base CX0 1 f fd ["word"] spShapeIn := by
  refine D.F.ok (k := 0) sc_shape_in (fun vs H Q E h => ?_) (fun cdv A outer s H vs Q E hr h => ?_)
  · obtain ⟨n, rfl, h3, kq⟩ := h
    rfl
  · obtain ⟨n, rfl, h3, kq⟩ := h
    refine ⟨_, (pss_cons (ps_if (pw_or (pt_cmpR op_gt (pe_callB call_len_str (by rfl) T.n_len PySem.boot_len (pa_cons (pv 0) pa_nil)) (pe_gint (by rfl) T.c_MOST_FIGURES) (nomark _)) (pw_or1 (pt_not (pt_val (pe_callB (call_all hr.hd) (by rfl) T.n_all boot_all (pa_cons (pe_lc ["sign"] [] rfl (pi_str (pv 0)) (fun _ _ _ _ => ⟨(pg_name (i := 0) (by exact (show (["sign"] : List Str).Nodup by decide +kernel)) rfl (by first | exact Or.inl rfl | exact Or.inr rfl)), pts_nil, (pe_cmpR op_in_str (pv 0) (by exact pe_gstr (by rfl) T.c_FIGURES) rfl)⟩)) pa_nil)))))).pt
       (pss_one ps_no)
       pss_nil)
       (pss_one (ps_ret (pe_callTy call_int_text (by rfl) T.n_int boot_int (pa_cons (pv 0) pa_nil))))), ?_⟩
    have hl := sx_len h3
    refine ⟨_, rfl, _, rfl, Nat.le_trans hl (by decide), _, _, rfl, rfl, _, rfl, ?_⟩
    rw [show decide ((3 : Int) < ((sx n).length : Int)) = false from decide_eq_false (by first | decide | omega)]
    refine iteF ?_
    refine ⟨_, rfl, sx n, rfl, fun D hD => lc_str (x := sx n) (fun i ys τ H' => ∃ pv, And4 (τ = [pv]) (Same H H') (H' D = some (.lst ys)) (ys = (List.replicate i true).map V.bl))
      ⟨none, rfl, same_new hD, upd_same, rfl⟩ (fun i ys τ H' _ zz1 => by obtain ⟨_, _, _, h', _⟩ := zz1; exact h') ?_ ?_⟩
    · rintro i c ys τ H' hc ⟨pv, rfl, s1, hd1, rfl⟩
      have hm : c ∈ cp (sx n) := List.mem_of_getElem? (i := i) (by rw [Array.getElem?_toList]; exact hc)
      have hi : i < (sx n).cps.size := (Array.getElem?_eq_some_iff.mp hc).1
      have hi2 : (sx n).cps.size ≤ 3 := hl
      have hf := fig_in (sx_dig h3 c hm)
      refine lcN ?_
      refine ⟨_, rfl, _, _, rfl, rfl, hd1, small (by rw [List.length_map, List.length_replicate]; omega), _, rfl, same_off s1 hD, upd_same, ?_⟩
      rw [hf, List.replicate_succ', List.map_append]; rfl
    rintro ys τ H1 ⟨pv, rfl, s1, hd1, rfl⟩
    refine ⟨D, _, rfl, SqL.of hd1, _, rfl, ?_⟩
    rw [show (List.replicate (sx n).cps.size true).all id = true by simp]
    refine iteF ?_
    exact ⟨_, rfl, n, rfl, h3.1, by have := h3.2; omega, kq _ s1⟩



theorem ok_shapes_in {f : Addr} {fd : FuncData} {f_shape_in : Addr} {fd_shape_in : FuncData} (D : Dn K mg "shapes_in" s_shapes_in ["part"] f fd) (T : Txt K mg)
    (D_shape_in : Dn K mg "shape_in" s_shape_in ["word"] f_shape_in fd_shape_in) (G_shape_in : FnOk P w K mg base CX0 1 f_shape_in fd_shape_in ["word"] spShapeIn) :
    FnOk P w K mg base CX0 2 f fd ["part"] spShapesIn := by
  refine D.F.ok (k := 1) sc_shapes_in (fun vs H Q E h => ?_) (fun cdv A outer s H vs Q E hr h => ?_)
  · obtain ⟨z, ns, rfl, hz, hw, hin, hl, kq⟩ := h
    rfl
  · obtain ⟨z, ns, rfl, hz, hw, hin, hl, kq⟩ := h
    have hr_shape_in : Room 1 _ := hr.mono (by decide)
    refine ⟨_, (pss_one (ps_ret (pe_callTy call_tuple_of0 (by rfl) T.n_tuple boot_tuple (pa_cons (pe_lc ["word"] [] rfl (pi_list0 (pe_bm0 PySem.F.plainAttrs_str PySem.F.slot_str_split PySem.F.type_str_split mt_split0 (pv 0))) (fun _ _ _ _ => ⟨(pg_name (i := 0) (by exact (show (["word"] : List Str).Nodup by decide +kernel)) rfl (by first | exact Or.inl rfl | exact Or.inr rfl)), pts_nil, (pe_call G_shape_in hr_shape_in (by rfl) D_shape_in.m D_shape_in.F.kp D_shape_in.b .nil pass0 (pa_cons (pv 0) pa_nil))⟩)) pa_nil)))), ?_⟩
    refine ⟨_, rfl, rfl, z, rfl, rfl, (by first | decide | omega), fun sp hsp => ?_⟩
    rw [hw]
    refine ⟨sp, rfl, ⟨_, SqL.of upd_same⟩, fun D hD => (let Iv : Nat → List V → L2.St → Hp → Prop := fun i ys τ H' => ∃ pv, And4 (τ = [pv]) (Same (upd H sp (.lst ((ns.map sx).map V.str))) H') (H' D = some (.lst ys)) (ys = iv (ns.take i)); lc_list (xs := (ns.map sx).map V.str) Iv
      ⟨none, rfl, same_new hD, upd_same, rfl⟩ (fun i ys τ H' _ zz1 => by obtain ⟨_, _, s', h', _⟩ := zz1; exact ⟨h', SqL.of (s' _ _ upd_same)⟩) ?_ ?_)⟩
    · rintro i x ys τ H' hx ⟨pv, rfl, s1, hd1, rfl⟩
      rw [List.map_map, List.getElem?_map] at hx
      obtain ⟨n, hn, rfl⟩ := Option.map_eq_some_iff.mp hx
      have hil := (List.getElem?_eq_some_iff.mp hn).1
      refine lcN ?_
      refine ⟨_, rfl, n, rfl, hin n (List.mem_of_getElem? hn), fun H2 s2 => ⟨s2 _ _ hd1, small (by rw [iv_len, List.length_take]; omega), _, rfl, same_off (s1.trans s2) hD, upd_same, ?_⟩⟩
      rw [take_snoc hn, iv_app]; rfl
    rintro ys τ H1 ⟨pv, rfl, s1, hd1, rfl⟩
    rw [List.length_map, List.length_map, List.take_length] at hd1
    have s01 := (same_new hsp).trans s1
    exact ⟨D, _, rfl, .inl ⟨SqL.of hd1, fun l hl' => kq l _ (s01.trans (same_new hl')) (s01.free hl') upd_same⟩⟩



theorem ok_read {f : Addr} {fd : FuncData} {f_has_right_numbers : Addr} {fd_has_right_numbers : FuncData} {f_shown : Addr} {fd_shown : FuncData} {f_shapes_in : Addr} {fd_shapes_in : FuncData} (D : Dn K mg "read" s_read ["text"] f fd) (T : Txt K mg)
    (D_has_right_numbers : Dn K mg "has_right_numbers" s_has_right_numbers ["rule"] f_has_right_numbers fd_has_right_numbers) (G_has_right_numbers : FnOk P w K mg base CX0 1 f_has_right_numbers fd_has_right_numbers ["rule"] spRight)
    (D_shown : Dn K mg "shown" s_shown ["rule"] f_shown fd_shown) (G_shown : FnOk P w K mg base CX0 2 f_shown fd_shown ["rule"] spWritten)
    (D_shapes_in : Dn K mg "shapes_in" s_shapes_in ["part"] f_shapes_in fd_shapes_in) (G_shapes_in : FnOk P w K mg base CX0 2 f_shapes_in fd_shapes_in ["part"] spShapesIn) :
    FnOkT P w K mg base CX0 3 f fd ["text"] spRead := by
  refine D.F.okT (k := 2) sc_read (fun vs H Q E h => ?_) (fun cdv A outer s H vs Q E hr h => ?_)
  · obtain ⟨x, r, rfl, hx, rin, kq⟩ := h
    rfl
  · obtain ⟨x, r, rfl, hx, rin, kq⟩ := h
    have hr_has_right_numbers : Room 1 _ := hr.mono (by decide)
    have hr_shown : Room 2 _ := hr.mono (by decide)
    have hr_shapes_in : Room 2 _ := hr.mono (by decide)
    refine ⟨_, (psst_now (pst_set (i := 1) sc_read.nd rfl (by first | exact Or.inl rfl | exact Or.inr rfl) (pet_bm PySem.F.plainAttrs_str PySem.F.slot_str_split PySem.F.type_str_split mt_split1 (pet_repl (pet_repl (pet (pv 0)))) (pa_cons pe_str pa_nil)))
       (pss_cons (ps_if (pt_cmpR op_ne (pe_callB call_len_seq0 (by rfl) T.n_len PySem.boot_len (pa_cons (pv 1) pa_nil)) (pe_gint (by rfl) T.c_PARTS) (nomark _))
       (pss_one ps_no)
       pss_nil)
       (pss_cons (ps_set (i := 2) sc_read.nd rfl (by first | exact Or.inl rfl | exact Or.inr rfl) (pe_callTy call_tuple_of0 (by rfl) T.n_tuple boot_tuple (pa_cons (pe_lc ["part"] [] rfl (pi_list0 (pv 1)) (fun _ _ _ _ => ⟨(pg_name (i := 0) (by exact (show (["part"] : List Str).Nodup by decide +kernel)) rfl (by first | exact Or.inl rfl | exact Or.inr rfl)), pts_nil, (pe_call G_shapes_in hr_shapes_in (by rfl) D_shapes_in.m D_shapes_in.F.kp D_shapes_in.b .nil pass0 (pa_cons (pv 0) pa_nil))⟩)) pa_nil)))
       (pss_cons (ps_if (pt_not (pt_val (pe_call G_has_right_numbers hr_has_right_numbers (by rfl) D_has_right_numbers.m D_has_right_numbers.F.kp D_has_right_numbers.b .nil pass0 (pa_cons (pv 2) pa_nil))))
       (pss_one ps_no)
       pss_nil)
       (pss_cons (ps_if (pt_cmpR op_ne (pe_call G_shown hr_shown (by rfl) D_shown.m D_shown.F.kp D_shown.b .nil pass0 (pa_cons (pv 2) pa_nil)) (pv 0) (nomark _))
       (pss_one ps_no)
       pss_nil)
       (pss_one (ps_ret (pv 2)))))))), ?_⟩
    have hlx := cp_le hx (wr_len rin)
    have hp := note_parts hx
    have n1 := note_l1 hx rin
    have n2 := note_l2 hx rin
    rw [← s_lb, ← s_rb] at n1
    rw [← s_lb, ← s_rb, ← s_gt] at n2 hp
    refine ⟨_, rfl, x, rfl, (by first | decide | omega), _, rfl, (by first | decide | omega), rfl, _, _, rfl, rfl, (by first | decide | omega), (by decide +kernel), (by rw [hp]; exact (show 4 ≤ 100000 by decide)), fun sp hsp => ?_⟩
    rw [hp]
    have PP := parts_ok rin
    have s0 : Same H (upd H sp (.lst ([ofL (preL r.b), ofL (midL r.t), ofL (postL r.a), ofL (midL r.g)].map V.str))) := same_new hsp
    have hsp0 : (upd H sp (.lst ([ofL (preL r.b), ofL (midL r.t), ofL (postL r.a), ofL (midL r.g)].map V.str))) sp = some (.lst ([ofL (preL r.b), ofL (midL r.t), ofL (postL r.a), ofL (midL r.g)].map V.str)) := upd_same
    generalize (upd H sp (.lst ([ofL (preL r.b), ofL (midL r.t), ofL (postL r.a), ofL (midL r.g)].map V.str))) = H0 at s0 hsp0 ⊢
    refine ⟨_, rfl, sp, _, rfl, .inl (SqL.of hsp0), rfl, _, rfl, iteNS rfl ?_⟩
    refine ⟨_, rfl, sp, rfl, ⟨_, SqL.of hsp0⟩, fun D hD => (let Iv : Nat → List V → L2.St → Hp → Prop := fun i ys τ H' => ∃ pv, And4 (τ = [pv]) (Same H0 H') (H' D = some (.lst ys)) (Paired (IsTF H0 H') ys ([r.b, r.t, r.a, r.g].take i)); lc_list (xs := [ofL (preL r.b), ofL (midL r.t), ofL (postL r.a), ofL (midL r.g)].map V.str) Iv
      ⟨none, rfl, same_new hD, upd_same, .nil⟩ (fun i ys τ H' _ zz1 => by obtain ⟨_, _, s', h', _⟩ := zz1; exact ⟨h', SqL.of (s' _ _ hsp0)⟩) ?_ ?_)⟩
    · rintro i v ys τ H' hv ⟨pv, rfl, s1, hd1, py⟩
      rw [List.getElem?_map] at hv
      obtain ⟨z, hz, rfl⟩ := Option.map_eq_some_iff.mp hv
      obtain ⟨ns, hns, h1, h2, h3, h4⟩ := pr_get PP hz
      have hil : i < 4 := (List.getElem?_eq_some_iff.mp hns).1
      have hyl := pr_len py
      rw [List.length_take] at hyl
      refine lcN ?_
      refine ⟨_, rfl, z, ns, rfl, h1, h2, h3, h4, fun q H2 s2 hq hq2 => ?_⟩
      have hd2 := s2 _ _ hd1
      refine ⟨hd2, small (by first | decide | omega), _, rfl, same_off (s1.trans s2) hD, upd_same, ?_⟩
      rw [take_snoc hns]
      have t2 : Tps H2 (upd H2 D (.lst (ys ++ [.ref q]))) := Tps.lst hd2
      exact pr_app (Paired.imp' (fun _ _ k => k.tps ((tps_of s2).trans t2)) py) (.cons ⟨q, rfl, s1.free hq, t2 _ _ hq2⟩ .nil)
    rintro ys τ H1 ⟨pv, rfl, s1, hd1, py⟩
    have py : Paired (IsTF H0 H1) ys [r.b, r.t, r.a, r.g] := py
    cases py with
    | cons k1 py =>
      cases py with
      | cons k2 py =>
        cases py with
        | cons k3 py =>
          cases py with
          | cons k4 py =>
            cases py
            obtain ⟨b, rfl, b0, hb⟩ := k1
            obtain ⟨t, rfl, t0, ht⟩ := k2
            obtain ⟨h, rfl, h0, hh⟩ := k3
            obtain ⟨g, rfl, g0, hg⟩ := k4
            refine ⟨D, _, rfl, .inl ⟨SqL.of hd1, fun l hl => ?_⟩⟩
            have s2 : Same H1 (upd H1 l (.tup [.ref b, .ref t, .ref h, .ref g])) := same_new hl
            have hr' : IsRuleF H (upd H1 l (.tup [.ref b, .ref t, .ref h, .ref g])) (.ref l) r := ⟨l, b, t, h, g, rfl, (s0.trans s1).free hl, upd_same, ⟨s0.free b0, s0.free t0, s0.free h0, s0.free g0⟩, s2 _ _ hb, s2 _ _ ht, s2 _ _ hh, s2 _ _ hg⟩
            have s3 := (s0.trans s1).trans s2
            generalize (upd H1 l (.tup [.ref b, .ref t, .ref h, .ref g])) = H3 at hr' s3 ⊢
            refine ⟨_, rfl, _, r, rfl, hr'.rule, rin, fun H4 s4 => ⟨_, rfl, ?_⟩⟩
            refine iteF ?_
            refine ⟨_, rfl, _, r, rfl, hr'.rule.tps (tps_of s4), rin, fun x' H5 s5 hx' => ?_⟩
            have ex : x' = x := str_ext (hx'.trans hx.symm)
            subst ex
            refine ⟨_, rfl, rfl, _, rfl, iteNS rfl ?_⟩
            refine ⟨_, rfl, kq _ _ (s3.trans (s4.trans s5)) ?_⟩
            obtain ⟨a', b', t', h', g', e, p0, p1, p2, p3, p4, p5, p6⟩ := hr'
            have s45 := s4.trans s5
            exact ⟨a', b', t', h', g', e, p0, s45 _ _ p1, p2, s45 _ _ p3, s45 _ _ p4, s45 _ _ p5, s45 _ _ p6⟩



theorem ok_law_cell_at {f : Addr} {fd : FuncData} (D : Dn K mg "_law_cell_at" s_law_cell_at ["script", "k"] f fd) (T : Txt K mg) :
    FnOk P w K mg base CX0 1 f fd ["script", "k"] (spCellAt K) := by
  refine D.F.ok (k := 0) sc_law_cell_at (fun vs H Q E h => ?_) (fun cdv A outer s H vs Q E hr h => ?_)
  · obtain ⟨a, ns, k, rfl, h0k, hS, kq⟩ := h
    rfl
  · obtain ⟨a, ns, k, rfl, h0k, hS, kq⟩ := h
    refine ⟨_, (pss_cons (ps_if (pt_cmpR op_lt (pv 1) (pe_callB call_len_seq (by rfl) T.n_len PySem.boot_len (pa_cons (pv 0) pa_nil)) (nomark _))
       (pss_one (ps_ret (pe_ix ix_list (pv 0) (pv 1) (fun _ _ => rfl))))
       pss_nil)
       (pss_one (ps_ret pe_int))), ?_⟩
    obtain ⟨n, rfl⟩ := Int.eq_ofNat_of_zero_le h0k
    refine ⟨_, rfl, _, rfl, a, _, rfl, .inl hS, _, _, rfl, rfl, _, rfl, ?_⟩
    refine ite2 (fun h0 => ?_) (fun h0 => ?_)
    · have hk : n < ns.length := by simpa using h0
      exact ⟨_, rfl, _, rfl, a, _, _, _, rfl, rfl, hS, atI_iv (List.getElem?_eq_getElem hk), kq _⟩
    · exact kq 0



theorem ok_law_whole {f : Addr} {fd : FuncData} (D : Dn K mg "_law_whole" s_law_whole ["x"] f fd) (T : Txt K mg) :
    FnOk P w K mg base CX0 1 f fd ["x"] spWhole := by
  refine D.F.ok (k := 0) sc_law_whole (fun vs H Q E h => ?_) (fun cdv A outer s H vs Q E hr h => ?_)
  · obtain ⟨i, rfl, kq⟩ := h
    rfl
  · obtain ⟨i, rfl, kq⟩ := h
    refine ⟨_, (pss_one (ps_ret (pe_and (pe_callB call_isinst0 (by rfl) T.n_isinstance boot_isinstance (pa_cons (pv 0) (pa_cons (pe_bltn (v := .ty "int") (by rfl) T.n_int boot_int rfl) pa_nil))) (pe_one (pe_not (pe_callB call_isinst0 (by rfl) T.n_isinstance boot_isinstance (pa_cons (pv 0) (pa_cons (pe_bltn (v := .ty "bool") (by rfl) T.n_bool boot_bool rfl) pa_nil)))))))), ?_⟩
    refine ⟨_, rfl, _, _, _, true, rfl, .int i, rfl, ⟨_, rfl, iteT ?_⟩⟩
    exact ⟨_, rfl, _, _, _, false, rfl, .int i, rfl, _, rfl, kq⟩



theorem ok_law_is_rule {f : Addr} {fd : FuncData} {f_law_whole : Addr} {fd_law_whole : FuncData} (D : Dn K mg "_law_is_rule" s_law_is_rule ["found"] f fd) (T : Txt K mg)
    (D_law_whole : Dn K mg "_law_whole" s_law_whole ["x"] f_law_whole fd_law_whole) (G_law_whole : FnOk P w K mg base CX0 1 f_law_whole fd_law_whole ["x"] spWhole) :
    FnOk P w K mg base CX0 2 f fd ["found"] spIsRule := by
  refine D.F.ok (k := 1) sc_law_is_rule (fun vs H Q E h => ?_) (fun cdv A outer s H vs Q E hr h => ?_)
  · obtain ⟨v, r, rfl, ⟨ar, vb, vt, vh, vg, rfl, har, ⟨ab, rfl, hab⟩, ⟨at', rfl, hat⟩, ⟨ah, rfl, hah⟩, ⟨ag, rfl, hag⟩⟩, rin, kq⟩ := h
    rfl
  · obtain ⟨v, r, rfl, ⟨ar, vb, vt, vh, vg, rfl, har, ⟨ab, rfl, hab⟩, ⟨at', rfl, hat⟩, ⟨ah, rfl, hah⟩, ⟨ag, rfl, hag⟩⟩, rin, kq⟩ := h
    have hr_law_whole : Room 1 _ := hr.mono (by decide)
    refine ⟨_, (pss_cons (ps_if (pw_or (pt_not (pt_val (pe_callB call_isinst0 (by rfl) T.n_isinstance boot_isinstance (pa_cons (pv 0) (pa_cons (pe_bltn (v := .ty "tuple") (by rfl) T.n_tuple boot_tuple rfl) pa_nil))))) (pw_or1 (pt_cmpR op_ne (pe_callB call_len_seq0 (by rfl) T.n_len PySem.boot_len (pa_cons (pv 0) pa_nil)) pe_int (nomark _)))).pt
       (pss_one (ps_ret pe_bl))
       pss_nil)
       (pss_cons (ps_for PassesOwn.never rfl (pi_tup0 (pv 0)) (pg_name (i := 1) sc_law_is_rule.nd rfl (by first | exact Or.inl rfl | exact Or.inr rfl))
       (pss_one (ps_if (pw_or (pt_not (pt_val (pe_callB call_isinst0 (by rfl) T.n_isinstance boot_isinstance (pa_cons (pv 1) (pa_cons (pe_bltn (v := .ty "tuple") (by rfl) T.n_tuple boot_tuple rfl) pa_nil))))) (pw_or1 (pt_not (pt_val (pe_callB (call_all hr.hd) (by rfl) T.n_all boot_all (pa_cons (pe_lc ["shape"] [] rfl (pi_tup0 (pv 1)) (fun _ _ _ _ => ⟨(pg_name (i := 0) (by exact (show (["shape"] : List Str).Nodup by decide +kernel)) rfl (by first | exact Or.inl rfl | exact Or.inr rfl)), pts_nil, (by exact (pe_call G_law_whole hr_law_whole (by rfl) D_law_whole.m D_law_whole.F.kp D_law_whole.b .nil pass0 (pa_cons (pv 0) pa_nil)))⟩)) pa_nil)))))).pt
       (pss_one (ps_ret pe_bl))
       pss_nil)))
       (pss_one (ps_ret pe_bl)))), ?_⟩
    refine ⟨_, rfl, _, _, _, true, rfl, .tup har, rfl, _, rfl, ?_⟩
    refine iteF ?_
    refine ⟨_, rfl, ar, _, rfl, .inr (SqT.of har), rfl, _, rfl, iteNS rfl ?_⟩
    refine ⟨_, rfl, ar, rfl, ⟨_, SqT.of har⟩, (let Iv : Nat → L2.St → Hp → Prop := fun i σ H' => ∃ pv, σ = [some (.ref ar), pv] ∧ Same H H'; for_tup (xs := [.ref ab, .ref at', .ref ah, .ref ag]) Iv
      ⟨none, rfl, Same.refl _⟩ (fun i σ H' _ zz1 => by obtain ⟨_, _, s'⟩ := zz1; exact SqT.of (s' _ _ har)) ?_ ?_)⟩
    · rintro i x σ H' hx ⟨pv, rfl, s1⟩
      obtain ⟨am, ms, rfl, hm, hml⟩ : ∃ (am : Addr) (ms : List Int), x = .ref am ∧ H am = some (.tup (iv ms)) ∧ ms.length ≤ 10 := by
        have hi : i < 4 := (List.getElem?_eq_some_iff.mp hx).1
        have h4 : i = 0 ∨ i = 1 ∨ i = 2 ∨ i = 3 := by omega
        have := rin.bl; have := rin.tl; have := rin.al; have := rin.gl
        rcases h4 with rfl | rfl | rfl | rfl
        · cases hx; exact ⟨ab, r.b, rfl, hab, by omega⟩
        · cases hx; exact ⟨at', r.t, rfl, hat, by omega⟩
        · cases hx; exact ⟨ah, r.a, rfl, hah, by omega⟩
        · cases hx; exact ⟨ag, r.g, rfl, hag, by omega⟩
      have hm1 := s1 _ _ hm
      refine ⟨_, rfl, _, _, _, true, rfl, .tup hm1, rfl, _, rfl, ?_⟩
      refine iteF ?_
      refine ⟨_, rfl, am, rfl, ⟨_, SqT.of hm1⟩, fun D hD => (let Iv : Nat → List V → L2.St → Hp → Prop := fun i ys τ H2 => ∃ pv, And4 (τ = [pv]) (Same H' H2) (H2 D = some (.lst ys)) (ys = (List.replicate i true).map V.bl); lc_tup (xs := iv ms) Iv
        ⟨none, rfl, same_new hD, upd_same, rfl⟩ (fun i ys τ H2 _ zz1 => by obtain ⟨_, _, s', h', _⟩ := zz1; exact ⟨h', SqT.of (s' _ _ hm1)⟩) ?_ ?_)⟩
      · rintro j y ys τ H2 hy ⟨pv2, rfl, s2, hd2, rfl⟩
        obtain ⟨n, hn, rfl⟩ := at_iv hy
        have hil := (List.getElem?_eq_some_iff.mp hn).1
        refine lcN ?_
        refine ⟨_, rfl, n, rfl, hd2, small (by rw [List.length_map, List.length_replicate]; omega), _, rfl, same_off s2 hD, upd_same, ?_⟩
        rw [List.replicate_succ', List.map_append]; rfl
      rintro ys τ H2 ⟨pv2, rfl, s2, hd2, rfl⟩
      refine ⟨D, _, rfl, SqL.of hd2, _, rfl, ?_⟩
      rw [show (List.replicate (iv ms).length true).all id = true by simp]
      refine iteF ?_
      exact ⟨_, rfl, s1.trans s2⟩
    rintro σ H1 ⟨pv, rfl, s1⟩
    exact kq _ s1



theorem ok_law {f : Addr} {fd : FuncData} {f_law_wide : Addr} {fd_law_wide : FuncData} {f_law_written : Addr} {fd_law_written : FuncData} {f_shown : Addr} {fd_shown : FuncData} {f_read : Addr} {fd_read : FuncData} {f_law_cell_at : Addr} {fd_law_cell_at : FuncData} {f_law_is_rule : Addr} {fd_law_is_rule : FuncData} (D : Dn K mg "law" s_law ["script"] f fd) (T : Txt K mg)
    (D_law_wide : Dn K mg "_law_wide" s_law_wide ["cell"] f_law_wide fd_law_wide) (G_law_wide : FnOk P w K mg base CX0 2 f_law_wide fd_law_wide ["cell"] spWide)
    (D_law_written : Dn K mg "_law_written" s_law_written ["rule"] f_law_written fd_law_written) (G_law_written : FnOk P w K mg base CX0 1 f_law_written fd_law_written ["rule"] spWritten)
    (D_shown : Dn K mg "shown" s_shown ["rule"] f_shown fd_shown) (G_shown : FnOk P w K mg base CX0 2 f_shown fd_shown ["rule"] spWritten)
    (D_read : Dn K mg "read" s_read ["text"] f_read fd_read) (G_read : FnOkT P w K mg base CX0 3 f_read fd_read ["text"] spRead)
    (D_law_cell_at : Dn K mg "_law_cell_at" s_law_cell_at ["script", "k"] f_law_cell_at fd_law_cell_at) (G_law_cell_at : FnOk P w K mg base CX0 1 f_law_cell_at fd_law_cell_at ["script", "k"] (spCellAt K))
    (D_law_is_rule : Dn K mg "_law_is_rule" s_law_is_rule ["found"] f_law_is_rule fd_law_is_rule) (G_law_is_rule : FnOk P w K mg base CX0 2 f_law_is_rule fd_law_is_rule ["found"] spIsRule) :
    FnOk P w K mg base CX0 4 f fd ["script"] (spLaw K) := by
  refine D.F.ok (k := 3) sc_law (fun vs H Q E h => ?_) (fun cdv A outer s H vs Q E hr h => ?_)
  · obtain ⟨a, ns, rfl, hS, hlen, kq⟩ := h
    rfl
  · obtain ⟨a, ns, rfl, hS, hlen, kq⟩ := h
    have hr_law_wide : Room 2 _ := hr.mono (by decide)
    have hr_law_written : Room 1 _ := hr.mono (by decide)
    have hr_shown : Room 2 _ := hr.mono (by decide)
    have hr_read : Room 3 _ := hr.mono (by decide)
    have hr_law_cell_at : Room 1 _ := hr.mono (by decide)
    have hr_law_is_rule : Room 2 _ := hr.mono (by decide)
    refine ⟨_, (pss_consM (psm_set (i := 1) sc_law.nd rfl (by first | exact Or.inl rfl | exact Or.inr rfl) (pem_call G_law_wide hr_law_wide (by rfl) D_law_wide.m D_law_wide.F.kp D_law_wide.b .nil pass0 (pam_first (pem_call G_law_cell_at hr_law_cell_at (by rfl) D_law_cell_at.m D_law_cell_at.F.kp D_law_cell_at.b .nil pass0 (pam_cons (pv 0) (pam_first pem_int pa_nil))) pa_nil)))
       (psst_cons (ps_set (i := 2) sc_law.nd rfl (by first | exact Or.inl rfl | exact Or.inr rfl) (pe_call G_law_written hr_law_written (by rfl) D_law_written.m D_law_written.F.kp D_law_written.b .nil pass0 (pa_cons (pv 1) pa_nil)))
       (psst_cons (ps_set (i := 3) sc_law.nd rfl (by first | exact Or.inl rfl | exact Or.inr rfl) (pe_call G_shown hr_shown (by rfl) D_shown.m D_shown.F.kp D_shown.b .nil pass0 (pa_cons (pv 1) pa_nil)))
       (psst_cons (ps_if (pw_or (pt_not (pt_val (pe_callB call_isinst0 (by rfl) T.n_isinstance boot_isinstance (pa_cons (pv 3) (pa_cons (pe_bltn (v := .ty "str") (by rfl) T.n_str boot_str rfl) pa_nil))))) (pw_or1 (pt_cmpR op_ne (pv 3) (pv 2) (nomark _)))).pt
       (pss_one (ps_ret pe_bl))
       pss_nil)
       (psst_now (pst_set (i := 4) sc_law.nd rfl (by first | exact Or.inl rfl | exact Or.inr rfl) (pet_call G_read hr_read (by rfl) D_read.m D_read.F.kp D_read.b .nil pass0 (pa_cons (pv 2) pa_nil)))
       (pss_one (ps_ret (pe_and (pe_call G_law_is_rule hr_law_is_rule (by rfl) D_law_is_rule.m D_law_is_rule.F.kp D_law_is_rule.b .nil pass0 (pa_cons (pv 4) pa_nil)) (pe_one (pe_cmpR (op_eqS0 (units30 hr)) (pv 4) (pv 1) (nomark _))))))))))), ?_⟩
    refine ⟨_, rfl, a, ns, 0, rfl, Int.le_refl _, hS, fun cell => ⟨cell, rfl, fun v r H1 s1 hr' rin => ?_⟩⟩
    obtain ⟨ar, vb, vt, vh, vg, rfl, har, ⟨ab, rfl, hab⟩, ⟨at', rfl, hat⟩, ⟨ah, rfl, hah⟩, ⟨ag, rfl, hag⟩⟩ := id hr'
    refine ⟨_, rfl, _, r, rfl, hr', rin, fun x H2 s2 hx => ?_⟩
    refine ⟨_, rfl, _, r, rfl, hr'.tps (tps_of s2), rin, fun x' H3 s3 hx' => ?_⟩
    have ex : x' = x := str_ext (hx'.trans hx.symm)
    subst ex
    refine ⟨_, rfl, _, _, _, true, rfl, .str x', rfl, _, rfl, ?_⟩
    refine iteF ?_
    refine ⟨_, rfl, _, rfl, rfl, _, rfl, iteNS rfl ?_⟩
    refine ⟨_, rfl, x', r, rfl, hx, rin, fun v H4 s4 hf => ?_⟩
    have s24 := (s2.trans s3).trans s4
    refine ⟨_, rfl, _, r, rfl, hf.rule, rin, fun H5 s5 => ?_⟩
    obtain ⟨ar2, b2, t2, h2, g2, rfl, p0, p1, ⟨q1, q2, q3, q4⟩, pb, pt, ph, pg⟩ := hf
    have ne : ar2 ≠ ar := fun z => by rw [z, (s2.trans s3) _ _ har] at p0; cases p0
    have nb : b2 ≠ ab := fun z => by rw [z, (s2.trans s3) _ _ hab] at q1; cases q1
    have nt : t2 ≠ at' := fun z => by rw [z, (s2.trans s3) _ _ hat] at q2; cases q2
    have nh : h2 ≠ ah := fun z => by rw [z, (s2.trans s3) _ _ hah] at q3; cases q3
    have ng : g2 ≠ ag := fun z => by rw [z, (s2.trans s3) _ _ hag] at q4; cases q4
    have s25 := s24.trans s5
    refine ⟨_, rfl, iteT ?_⟩
    refine ⟨_, rfl, _, rfl, 2, ar2, ar, _, rfl, rfl, ne, (by decide), EqV.tup (e := fun _ => true) ne (SqT.of (s5 _ _ p1)) (SqT.of (s25 _ _ har)) (fun j x y hx hy => ?_), kq _⟩
    have hj : j < 4 := (List.getElem?_eq_some_iff.mp hx).1
    have h4 : j = 0 ∨ j = 1 ∨ j = 2 ∨ j = 3 := by omega
    have tt : ∀ l : List Int, decide (l = l) = true := fun l => decide_eq_true rfl
    rcases h4 with rfl | rfl | rfl | rfl
    · cases hx; cases hy; have z := eqT (K := K0) nb (s5 _ _ pb) (s25 _ _ hab); rwa [tt] at z
    · cases hx; cases hy; have z := eqT (K := K0) nt (s5 _ _ pt) (s25 _ _ hat); rwa [tt] at z
    · cases hx; cases hy; have z := eqT (K := K0) nh (s5 _ _ ph) (s25 _ _ hah); rwa [tt] at z
    · cases hx; cases hy; have z := eqT (K := K0) ng (s5 _ _ pg) (s25 _ _ hag); rwa [tt] at z



end
end W

namespace W
open PySem PySem.Spec PyProof.Rows L2 Ink
theorem len1 {us : List Value} (h : us.length = 1) : ∃ a0, us = [a0] :=
  match us, h with | [a0], _ => ⟨a0, rfl⟩
theorem len2 {us : List Value} (h : us.length = 2) : ∃ a0 a1, us = [a0, a1] :=
  match us, h with | [a0, a1], _ => ⟨a0, a1, rfl⟩
theorem dn_law_mix {K : PySem.W.Frag} {h : Heap} {mg : Str → Option Value} (X : K.In h) (G : h.Ns mainGlobals mg) {f : Addr} {oc : Value} {od an : Option Addr} {sl : Array (Option Value)} {kV dc pm cd ct : Value} (a : PySem.W.nsIn K mainGlobals "_law_mix" = some (some (.ref f))) (l : K.lookup f = some ⟨oc, od, .func (PySem.W.fnOf "_law_mix" "_law_mix" (defArgs s_law_mix) (defBody s_law_mix) (defScope s_law_mix) .none kV dc pm an cd ct), sl⟩) (c : PySem.W.codeIn K cd "_law_mix" = true) (k : PySem.W.keepIn K (.ref f) = true) : Dn K mg "_law_mix" s_law_mix ["cell", "k"] f (PySem.W.fnOf "_law_mix" "_law_mix" (defArgs s_law_mix) (defBody s_law_mix) (defScope s_law_mix) .none kV dc pm an cd ct) := by
  have F := fun_mk (st := s_law_mix) l c k
  exact ⟨F, F.binds (ps := ["cell", "k"]) fun _ _ _ _ _ _ us hl => (by obtain ⟨a0, a1, rfl⟩ := len2 hl; rfl), PySem.W.mg_of X G a⟩
theorem dn_law_wide {K : PySem.W.Frag} {h : Heap} {mg : Str → Option Value} (X : K.In h) (G : h.Ns mainGlobals mg) {f : Addr} {oc : Value} {od an : Option Addr} {sl : Array (Option Value)} {kV dc pm cd ct : Value} (a : PySem.W.nsIn K mainGlobals "_law_wide" = some (some (.ref f))) (l : K.lookup f = some ⟨oc, od, .func (PySem.W.fnOf "_law_wide" "_law_wide" (defArgs s_law_wide) (defBody s_law_wide) (defScope s_law_wide) .none kV dc pm an cd ct), sl⟩) (c : PySem.W.codeIn K cd "_law_wide" = true) (k : PySem.W.keepIn K (.ref f) = true) : Dn K mg "_law_wide" s_law_wide ["cell"] f (PySem.W.fnOf "_law_wide" "_law_wide" (defArgs s_law_wide) (defBody s_law_wide) (defScope s_law_wide) .none kV dc pm an cd ct) := by
  have F := fun_mk (st := s_law_wide) l c k
  exact ⟨F, F.binds (ps := ["cell"]) fun _ _ _ _ _ _ us hl => (by obtain ⟨a0, rfl⟩ := len1 hl; rfl), PySem.W.mg_of X G a⟩
theorem dn_law_written {K : PySem.W.Frag} {h : Heap} {mg : Str → Option Value} (X : K.In h) (G : h.Ns mainGlobals mg) {f : Addr} {oc : Value} {od an : Option Addr} {sl : Array (Option Value)} {kV dc pm cd ct : Value} (a : PySem.W.nsIn K mainGlobals "_law_written" = some (some (.ref f))) (l : K.lookup f = some ⟨oc, od, .func (PySem.W.fnOf "_law_written" "_law_written" (defArgs s_law_written) (defBody s_law_written) (defScope s_law_written) .none kV dc pm an cd ct), sl⟩) (c : PySem.W.codeIn K cd "_law_written" = true) (k : PySem.W.keepIn K (.ref f) = true) : Dn K mg "_law_written" s_law_written ["rule"] f (PySem.W.fnOf "_law_written" "_law_written" (defArgs s_law_written) (defBody s_law_written) (defScope s_law_written) .none kV dc pm an cd ct) := by
  have F := fun_mk (st := s_law_written) l c k
  exact ⟨F, F.binds (ps := ["rule"]) fun _ _ _ _ _ _ us hl => (by obtain ⟨a0, rfl⟩ := len1 hl; rfl), PySem.W.mg_of X G a⟩
theorem dn_spaced {K : PySem.W.Frag} {h : Heap} {mg : Str → Option Value} (X : K.In h) (G : h.Ns mainGlobals mg) {f : Addr} {oc : Value} {od an : Option Addr} {sl : Array (Option Value)} {kV dc pm cd ct : Value} (a : PySem.W.nsIn K mainGlobals "spaced" = some (some (.ref f))) (l : K.lookup f = some ⟨oc, od, .func (PySem.W.fnOf "spaced" "spaced" (defArgs s_spaced) (defBody s_spaced) (defScope s_spaced) .none kV dc pm an cd ct), sl⟩) (c : PySem.W.codeIn K cd "spaced" = true) (k : PySem.W.keepIn K (.ref f) = true) : Dn K mg "spaced" s_spaced ["shapes"] f (PySem.W.fnOf "spaced" "spaced" (defArgs s_spaced) (defBody s_spaced) (defScope s_spaced) .none kV dc pm an cd ct) := by
  have F := fun_mk (st := s_spaced) l c k
  exact ⟨F, F.binds (ps := ["shapes"]) fun _ _ _ _ _ _ us hl => (by obtain ⟨a0, rfl⟩ := len1 hl; rfl), PySem.W.mg_of X G a⟩
theorem dn_shown {K : PySem.W.Frag} {h : Heap} {mg : Str → Option Value} (X : K.In h) (G : h.Ns mainGlobals mg) {f : Addr} {oc : Value} {od an : Option Addr} {sl : Array (Option Value)} {kV dc pm cd ct : Value} (a : PySem.W.nsIn K mainGlobals "shown" = some (some (.ref f))) (l : K.lookup f = some ⟨oc, od, .func (PySem.W.fnOf "shown" "shown" (defArgs s_shown) (defBody s_shown) (defScope s_shown) .none kV dc pm an cd ct), sl⟩) (c : PySem.W.codeIn K cd "shown" = true) (k : PySem.W.keepIn K (.ref f) = true) : Dn K mg "shown" s_shown ["rule"] f (PySem.W.fnOf "shown" "shown" (defArgs s_shown) (defBody s_shown) (defScope s_shown) .none kV dc pm an cd ct) := by
  have F := fun_mk (st := s_shown) l c k
  exact ⟨F, F.binds (ps := ["rule"]) fun _ _ _ _ _ _ us hl => (by obtain ⟨a0, rfl⟩ := len1 hl; rfl), PySem.W.mg_of X G a⟩
theorem dn_has_right_numbers {K : PySem.W.Frag} {h : Heap} {mg : Str → Option Value} (X : K.In h) (G : h.Ns mainGlobals mg) {f : Addr} {oc : Value} {od an : Option Addr} {sl : Array (Option Value)} {kV dc pm cd ct : Value} (a : PySem.W.nsIn K mainGlobals "has_right_numbers" = some (some (.ref f))) (l : K.lookup f = some ⟨oc, od, .func (PySem.W.fnOf "has_right_numbers" "has_right_numbers" (defArgs s_has_right_numbers) (defBody s_has_right_numbers) (defScope s_has_right_numbers) .none kV dc pm an cd ct), sl⟩) (c : PySem.W.codeIn K cd "has_right_numbers" = true) (k : PySem.W.keepIn K (.ref f) = true) : Dn K mg "has_right_numbers" s_has_right_numbers ["rule"] f (PySem.W.fnOf "has_right_numbers" "has_right_numbers" (defArgs s_has_right_numbers) (defBody s_has_right_numbers) (defScope s_has_right_numbers) .none kV dc pm an cd ct) := by
  have F := fun_mk (st := s_has_right_numbers) l c k
  exact ⟨F, F.binds (ps := ["rule"]) fun _ _ _ _ _ _ us hl => (by obtain ⟨a0, rfl⟩ := len1 hl; rfl), PySem.W.mg_of X G a⟩
theorem dn_shape_in {K : PySem.W.Frag} {h : Heap} {mg : Str → Option Value} (X : K.In h) (G : h.Ns mainGlobals mg) {f : Addr} {oc : Value} {od an : Option Addr} {sl : Array (Option Value)} {kV dc pm cd ct : Value} (a : PySem.W.nsIn K mainGlobals "shape_in" = some (some (.ref f))) (l : K.lookup f = some ⟨oc, od, .func (PySem.W.fnOf "shape_in" "shape_in" (defArgs s_shape_in) (defBody s_shape_in) (defScope s_shape_in) .none kV dc pm an cd ct), sl⟩) (c : PySem.W.codeIn K cd "shape_in" = true) (k : PySem.W.keepIn K (.ref f) = true) : Dn K mg "shape_in" s_shape_in ["word"] f (PySem.W.fnOf "shape_in" "shape_in" (defArgs s_shape_in) (defBody s_shape_in) (defScope s_shape_in) .none kV dc pm an cd ct) := by
  have F := fun_mk (st := s_shape_in) l c k
  exact ⟨F, F.binds (ps := ["word"]) fun _ _ _ _ _ _ us hl => (by obtain ⟨a0, rfl⟩ := len1 hl; rfl), PySem.W.mg_of X G a⟩
theorem dn_shapes_in {K : PySem.W.Frag} {h : Heap} {mg : Str → Option Value} (X : K.In h) (G : h.Ns mainGlobals mg) {f : Addr} {oc : Value} {od an : Option Addr} {sl : Array (Option Value)} {kV dc pm cd ct : Value} (a : PySem.W.nsIn K mainGlobals "shapes_in" = some (some (.ref f))) (l : K.lookup f = some ⟨oc, od, .func (PySem.W.fnOf "shapes_in" "shapes_in" (defArgs s_shapes_in) (defBody s_shapes_in) (defScope s_shapes_in) .none kV dc pm an cd ct), sl⟩) (c : PySem.W.codeIn K cd "shapes_in" = true) (k : PySem.W.keepIn K (.ref f) = true) : Dn K mg "shapes_in" s_shapes_in ["part"] f (PySem.W.fnOf "shapes_in" "shapes_in" (defArgs s_shapes_in) (defBody s_shapes_in) (defScope s_shapes_in) .none kV dc pm an cd ct) := by
  have F := fun_mk (st := s_shapes_in) l c k
  exact ⟨F, F.binds (ps := ["part"]) fun _ _ _ _ _ _ us hl => (by obtain ⟨a0, rfl⟩ := len1 hl; rfl), PySem.W.mg_of X G a⟩
theorem dn_read {K : PySem.W.Frag} {h : Heap} {mg : Str → Option Value} (X : K.In h) (G : h.Ns mainGlobals mg) {f : Addr} {oc : Value} {od an : Option Addr} {sl : Array (Option Value)} {kV dc pm cd ct : Value} (a : PySem.W.nsIn K mainGlobals "read" = some (some (.ref f))) (l : K.lookup f = some ⟨oc, od, .func (PySem.W.fnOf "read" "read" (defArgs s_read) (defBody s_read) (defScope s_read) .none kV dc pm an cd ct), sl⟩) (c : PySem.W.codeIn K cd "read" = true) (k : PySem.W.keepIn K (.ref f) = true) : Dn K mg "read" s_read ["text"] f (PySem.W.fnOf "read" "read" (defArgs s_read) (defBody s_read) (defScope s_read) .none kV dc pm an cd ct) := by
  have F := fun_mk (st := s_read) l c k
  exact ⟨F, F.binds (ps := ["text"]) fun _ _ _ _ _ _ us hl => (by obtain ⟨a0, rfl⟩ := len1 hl; rfl), PySem.W.mg_of X G a⟩
theorem dn_law_cell_at {K : PySem.W.Frag} {h : Heap} {mg : Str → Option Value} (X : K.In h) (G : h.Ns mainGlobals mg) {f : Addr} {oc : Value} {od an : Option Addr} {sl : Array (Option Value)} {kV dc pm cd ct : Value} (a : PySem.W.nsIn K mainGlobals "_law_cell_at" = some (some (.ref f))) (l : K.lookup f = some ⟨oc, od, .func (PySem.W.fnOf "_law_cell_at" "_law_cell_at" (defArgs s_law_cell_at) (defBody s_law_cell_at) (defScope s_law_cell_at) .none kV dc pm an cd ct), sl⟩) (c : PySem.W.codeIn K cd "_law_cell_at" = true) (k : PySem.W.keepIn K (.ref f) = true) : Dn K mg "_law_cell_at" s_law_cell_at ["script", "k"] f (PySem.W.fnOf "_law_cell_at" "_law_cell_at" (defArgs s_law_cell_at) (defBody s_law_cell_at) (defScope s_law_cell_at) .none kV dc pm an cd ct) := by
  have F := fun_mk (st := s_law_cell_at) l c k
  exact ⟨F, F.binds (ps := ["script", "k"]) fun _ _ _ _ _ _ us hl => (by obtain ⟨a0, a1, rfl⟩ := len2 hl; rfl), PySem.W.mg_of X G a⟩
theorem dn_law_whole {K : PySem.W.Frag} {h : Heap} {mg : Str → Option Value} (X : K.In h) (G : h.Ns mainGlobals mg) {f : Addr} {oc : Value} {od an : Option Addr} {sl : Array (Option Value)} {kV dc pm cd ct : Value} (a : PySem.W.nsIn K mainGlobals "_law_whole" = some (some (.ref f))) (l : K.lookup f = some ⟨oc, od, .func (PySem.W.fnOf "_law_whole" "_law_whole" (defArgs s_law_whole) (defBody s_law_whole) (defScope s_law_whole) .none kV dc pm an cd ct), sl⟩) (c : PySem.W.codeIn K cd "_law_whole" = true) (k : PySem.W.keepIn K (.ref f) = true) : Dn K mg "_law_whole" s_law_whole ["x"] f (PySem.W.fnOf "_law_whole" "_law_whole" (defArgs s_law_whole) (defBody s_law_whole) (defScope s_law_whole) .none kV dc pm an cd ct) := by
  have F := fun_mk (st := s_law_whole) l c k
  exact ⟨F, F.binds (ps := ["x"]) fun _ _ _ _ _ _ us hl => (by obtain ⟨a0, rfl⟩ := len1 hl; rfl), PySem.W.mg_of X G a⟩
theorem dn_law_is_rule {K : PySem.W.Frag} {h : Heap} {mg : Str → Option Value} (X : K.In h) (G : h.Ns mainGlobals mg) {f : Addr} {oc : Value} {od an : Option Addr} {sl : Array (Option Value)} {kV dc pm cd ct : Value} (a : PySem.W.nsIn K mainGlobals "_law_is_rule" = some (some (.ref f))) (l : K.lookup f = some ⟨oc, od, .func (PySem.W.fnOf "_law_is_rule" "_law_is_rule" (defArgs s_law_is_rule) (defBody s_law_is_rule) (defScope s_law_is_rule) .none kV dc pm an cd ct), sl⟩) (c : PySem.W.codeIn K cd "_law_is_rule" = true) (k : PySem.W.keepIn K (.ref f) = true) : Dn K mg "_law_is_rule" s_law_is_rule ["found"] f (PySem.W.fnOf "_law_is_rule" "_law_is_rule" (defArgs s_law_is_rule) (defBody s_law_is_rule) (defScope s_law_is_rule) .none kV dc pm an cd ct) := by
  have F := fun_mk (st := s_law_is_rule) l c k
  exact ⟨F, F.binds (ps := ["found"]) fun _ _ _ _ _ _ us hl => (by obtain ⟨a0, rfl⟩ := len1 hl; rfl), PySem.W.mg_of X G a⟩
theorem dn_law {K : PySem.W.Frag} {h : Heap} {mg : Str → Option Value} (X : K.In h) (G : h.Ns mainGlobals mg) {f : Addr} {oc : Value} {od an : Option Addr} {sl : Array (Option Value)} {kV dc pm cd ct : Value} (a : PySem.W.nsIn K mainGlobals "law" = some (some (.ref f))) (l : K.lookup f = some ⟨oc, od, .func (PySem.W.fnOf "law" "law" (defArgs s_law) (defBody s_law) (defScope s_law) .none kV dc pm an cd ct), sl⟩) (c : PySem.W.codeIn K cd "law" = true) (k : PySem.W.keepIn K (.ref f) = true) : Dn K mg "law" s_law ["script"] f (PySem.W.fnOf "law" "law" (defArgs s_law) (defBody s_law) (defScope s_law) .none kV dc pm an cd ct) := by
  have F := fun_mk (st := s_law) l c k
  exact ⟨F, F.binds (ps := ["script"]) fun _ _ _ _ _ _ us hl => (by obtain ⟨a0, rfl⟩ := len1 hl; rfl), PySem.W.mg_of X G a⟩
theorem all_mk {l : PySem.W.OpenLaw} {w : World} {K : PySem.W.Frag} {h : Heap} {mg : Str → Option Value} {fa : Addr} (X : K.In h) (G : h.Ns mainGlobals mg) (hfa : mg "law" = some (.ref fa))
    {f0 : Addr} {oc0 : Value} {od0 an0 : Option Addr} {sl0 : Array (Option Value)} {kV0 dc0 pm0 cd0 ct0 : Value} (a0 : PySem.W.nsIn K mainGlobals "_law_mix" = some (some (.ref f0))) (l0 : K.lookup f0 = some ⟨oc0, od0, .func (PySem.W.fnOf "_law_mix" "_law_mix" (defArgs s_law_mix) (defBody s_law_mix) (defScope s_law_mix) .none kV0 dc0 pm0 an0 cd0 ct0), sl0⟩) (c0 : PySem.W.codeIn K cd0 "_law_mix" = true) (k0 : PySem.W.keepIn K (.ref f0) = true)
    {f1 : Addr} {oc1 : Value} {od1 an1 : Option Addr} {sl1 : Array (Option Value)} {kV1 dc1 pm1 cd1 ct1 : Value} (a1 : PySem.W.nsIn K mainGlobals "_law_wide" = some (some (.ref f1))) (l1 : K.lookup f1 = some ⟨oc1, od1, .func (PySem.W.fnOf "_law_wide" "_law_wide" (defArgs s_law_wide) (defBody s_law_wide) (defScope s_law_wide) .none kV1 dc1 pm1 an1 cd1 ct1), sl1⟩) (c1 : PySem.W.codeIn K cd1 "_law_wide" = true) (k1 : PySem.W.keepIn K (.ref f1) = true)
    {f2 : Addr} {oc2 : Value} {od2 an2 : Option Addr} {sl2 : Array (Option Value)} {kV2 dc2 pm2 cd2 ct2 : Value} (a2 : PySem.W.nsIn K mainGlobals "_law_written" = some (some (.ref f2))) (l2 : K.lookup f2 = some ⟨oc2, od2, .func (PySem.W.fnOf "_law_written" "_law_written" (defArgs s_law_written) (defBody s_law_written) (defScope s_law_written) .none kV2 dc2 pm2 an2 cd2 ct2), sl2⟩) (c2 : PySem.W.codeIn K cd2 "_law_written" = true) (k2 : PySem.W.keepIn K (.ref f2) = true)
    {f3 : Addr} {oc3 : Value} {od3 an3 : Option Addr} {sl3 : Array (Option Value)} {kV3 dc3 pm3 cd3 ct3 : Value} (a3 : PySem.W.nsIn K mainGlobals "spaced" = some (some (.ref f3))) (l3 : K.lookup f3 = some ⟨oc3, od3, .func (PySem.W.fnOf "spaced" "spaced" (defArgs s_spaced) (defBody s_spaced) (defScope s_spaced) .none kV3 dc3 pm3 an3 cd3 ct3), sl3⟩) (c3 : PySem.W.codeIn K cd3 "spaced" = true) (k3 : PySem.W.keepIn K (.ref f3) = true)
    {f4 : Addr} {oc4 : Value} {od4 an4 : Option Addr} {sl4 : Array (Option Value)} {kV4 dc4 pm4 cd4 ct4 : Value} (a4 : PySem.W.nsIn K mainGlobals "shown" = some (some (.ref f4))) (l4 : K.lookup f4 = some ⟨oc4, od4, .func (PySem.W.fnOf "shown" "shown" (defArgs s_shown) (defBody s_shown) (defScope s_shown) .none kV4 dc4 pm4 an4 cd4 ct4), sl4⟩) (c4 : PySem.W.codeIn K cd4 "shown" = true) (k4 : PySem.W.keepIn K (.ref f4) = true)
    {f5 : Addr} {oc5 : Value} {od5 an5 : Option Addr} {sl5 : Array (Option Value)} {kV5 dc5 pm5 cd5 ct5 : Value} (a5 : PySem.W.nsIn K mainGlobals "has_right_numbers" = some (some (.ref f5))) (l5 : K.lookup f5 = some ⟨oc5, od5, .func (PySem.W.fnOf "has_right_numbers" "has_right_numbers" (defArgs s_has_right_numbers) (defBody s_has_right_numbers) (defScope s_has_right_numbers) .none kV5 dc5 pm5 an5 cd5 ct5), sl5⟩) (c5 : PySem.W.codeIn K cd5 "has_right_numbers" = true) (k5 : PySem.W.keepIn K (.ref f5) = true)
    {f6 : Addr} {oc6 : Value} {od6 an6 : Option Addr} {sl6 : Array (Option Value)} {kV6 dc6 pm6 cd6 ct6 : Value} (a6 : PySem.W.nsIn K mainGlobals "shape_in" = some (some (.ref f6))) (l6 : K.lookup f6 = some ⟨oc6, od6, .func (PySem.W.fnOf "shape_in" "shape_in" (defArgs s_shape_in) (defBody s_shape_in) (defScope s_shape_in) .none kV6 dc6 pm6 an6 cd6 ct6), sl6⟩) (c6 : PySem.W.codeIn K cd6 "shape_in" = true) (k6 : PySem.W.keepIn K (.ref f6) = true)
    {f7 : Addr} {oc7 : Value} {od7 an7 : Option Addr} {sl7 : Array (Option Value)} {kV7 dc7 pm7 cd7 ct7 : Value} (a7 : PySem.W.nsIn K mainGlobals "shapes_in" = some (some (.ref f7))) (l7 : K.lookup f7 = some ⟨oc7, od7, .func (PySem.W.fnOf "shapes_in" "shapes_in" (defArgs s_shapes_in) (defBody s_shapes_in) (defScope s_shapes_in) .none kV7 dc7 pm7 an7 cd7 ct7), sl7⟩) (c7 : PySem.W.codeIn K cd7 "shapes_in" = true) (k7 : PySem.W.keepIn K (.ref f7) = true)
    {f8 : Addr} {oc8 : Value} {od8 an8 : Option Addr} {sl8 : Array (Option Value)} {kV8 dc8 pm8 cd8 ct8 : Value} (a8 : PySem.W.nsIn K mainGlobals "read" = some (some (.ref f8))) (l8 : K.lookup f8 = some ⟨oc8, od8, .func (PySem.W.fnOf "read" "read" (defArgs s_read) (defBody s_read) (defScope s_read) .none kV8 dc8 pm8 an8 cd8 ct8), sl8⟩) (c8 : PySem.W.codeIn K cd8 "read" = true) (k8 : PySem.W.keepIn K (.ref f8) = true)
    {f9 : Addr} {oc9 : Value} {od9 an9 : Option Addr} {sl9 : Array (Option Value)} {kV9 dc9 pm9 cd9 ct9 : Value} (a9 : PySem.W.nsIn K mainGlobals "_law_cell_at" = some (some (.ref f9))) (l9 : K.lookup f9 = some ⟨oc9, od9, .func (PySem.W.fnOf "_law_cell_at" "_law_cell_at" (defArgs s_law_cell_at) (defBody s_law_cell_at) (defScope s_law_cell_at) .none kV9 dc9 pm9 an9 cd9 ct9), sl9⟩) (c9 : PySem.W.codeIn K cd9 "_law_cell_at" = true) (k9 : PySem.W.keepIn K (.ref f9) = true)
    {f10 : Addr} {oc10 : Value} {od10 an10 : Option Addr} {sl10 : Array (Option Value)} {kV10 dc10 pm10 cd10 ct10 : Value} (a10 : PySem.W.nsIn K mainGlobals "_law_whole" = some (some (.ref f10))) (l10 : K.lookup f10 = some ⟨oc10, od10, .func (PySem.W.fnOf "_law_whole" "_law_whole" (defArgs s_law_whole) (defBody s_law_whole) (defScope s_law_whole) .none kV10 dc10 pm10 an10 cd10 ct10), sl10⟩) (c10 : PySem.W.codeIn K cd10 "_law_whole" = true) (k10 : PySem.W.keepIn K (.ref f10) = true)
    {f11 : Addr} {oc11 : Value} {od11 an11 : Option Addr} {sl11 : Array (Option Value)} {kV11 dc11 pm11 cd11 ct11 : Value} (a11 : PySem.W.nsIn K mainGlobals "_law_is_rule" = some (some (.ref f11))) (l11 : K.lookup f11 = some ⟨oc11, od11, .func (PySem.W.fnOf "_law_is_rule" "_law_is_rule" (defArgs s_law_is_rule) (defBody s_law_is_rule) (defScope s_law_is_rule) .none kV11 dc11 pm11 an11 cd11 ct11), sl11⟩) (c11 : PySem.W.codeIn K cd11 "_law_is_rule" = true) (k11 : PySem.W.keepIn K (.ref f11) = true)
    {f12 : Addr} {oc12 : Value} {od12 an12 : Option Addr} {sl12 : Array (Option Value)} {kV12 dc12 pm12 cd12 ct12 : Value} (a12 : PySem.W.nsIn K mainGlobals "law" = some (some (.ref f12))) (l12 : K.lookup f12 = some ⟨oc12, od12, .func (PySem.W.fnOf "law" "law" (defArgs s_law) (defBody s_law) (defScope s_law) .none kV12 dc12 pm12 an12 cd12 ct12), sl12⟩) (c12 : PySem.W.codeIn K cd12 "law" = true) (k12 : PySem.W.keepIn K (.ref f12) = true)
    {t_BEHIND : _} (x_BEHIND : PySem.W.nsIn K mainGlobals "BEHIND" = some (some (.int 0 t_BEHIND)))
    {t_TAKE : _} (x_TAKE : PySem.W.nsIn K mainGlobals "TAKE" = some (some (.int 1 t_TAKE)))
    {t_AHEAD : _} (x_AHEAD : PySem.W.nsIn K mainGlobals "AHEAD" = some (some (.int 2 t_AHEAD)))
    {t_GIVE : _} (x_GIVE : PySem.W.nsIn K mainGlobals "GIVE" = some (some (.int 3 t_GIVE)))
    {t_MOST_FIGURES : _} (x_MOST_FIGURES : PySem.W.nsIn K mainGlobals "MOST_FIGURES" = some (some (.int 3 t_MOST_FIGURES)))
    {t_PARTS : _} (x_PARTS : PySem.W.nsIn K mainGlobals "PARTS" = some (some (.int 4 t_PARTS)))
    {t_FIGURES : _} (x_FIGURES : PySem.W.nsIn K mainGlobals "FIGURES" = some (some (.str "0123456789" t_FIGURES)))
    {t_LEAST_SHAPES : Addr} {o_LEAST_SHAPES : Obj} (x_LEAST_SHAPES : PySem.W.nsIn K mainGlobals "LEAST_SHAPES" = some (some (.ref t_LEAST_SHAPES))) (y_LEAST_SHAPES : K.lookup t_LEAST_SHAPES = some o_LEAST_SHAPES) {k0_LEAST_SHAPES k1_LEAST_SHAPES k2_LEAST_SHAPES k3_LEAST_SHAPES n_LEAST_SHAPES : Nat} (w_LEAST_SHAPES : o_LEAST_SHAPES.cls = .type "tuple" ∧ o_LEAST_SHAPES.data = .seq #[.int 0 k0_LEAST_SHAPES, .int 1 k1_LEAST_SHAPES, .int 0 k2_LEAST_SHAPES, .int 1 k3_LEAST_SHAPES] n_LEAST_SHAPES)
    {t_MOST_SHAPES : Addr} {o_MOST_SHAPES : Obj} (x_MOST_SHAPES : PySem.W.nsIn K mainGlobals "MOST_SHAPES" = some (some (.ref t_MOST_SHAPES))) (y_MOST_SHAPES : K.lookup t_MOST_SHAPES = some o_MOST_SHAPES) {k0_MOST_SHAPES k1_MOST_SHAPES k2_MOST_SHAPES k3_MOST_SHAPES n_MOST_SHAPES : Nat} (w_MOST_SHAPES : o_MOST_SHAPES.cls = .type "tuple" ∧ o_MOST_SHAPES.data = .seq #[.int 3 k0_MOST_SHAPES, .int 4 k1_MOST_SHAPES, .int 3 k2_MOST_SHAPES, .int 3 k3_MOST_SHAPES] n_MOST_SHAPES)
    (z_all : PySem.W.nsIn K mainGlobals "all" = some none)
    (z_bool : PySem.W.nsIn K mainGlobals "bool" = some none)
    (z_int : PySem.W.nsIn K mainGlobals "int" = some none)
    (z_isinstance : PySem.W.nsIn K mainGlobals "isinstance" = some none)
    (z_len : PySem.W.nsIn K mainGlobals "len" = some none)
    (z_range : PySem.W.nsIn K mainGlobals "range" = some none)
    (z_str : PySem.W.nsIn K mainGlobals "str" = some none)
    (z_tuple : PySem.W.nsIn K mainGlobals "tuple" = some none)
    (z_zip : PySem.W.nsIn K mainGlobals "zip" = some none) :
    ∃ fd : FuncData, (∀ (s : Shared) (v : Value), BindsTo s fd ⟨[v], []⟩ [("script", v)]) ∧ ∀ base : Heap, K.In base → base.Ns mainGlobals mg → FnOk l.prog w K mg base CX0 4 fa fd ["script"] (spLaw K) := by
  have e := hfa.symm.trans (PySem.W.mg_of X G a12)
  cases e
  have T : Txt K mg := ⟨⟨_, PySem.W.mg_of X G x_BEHIND⟩, ⟨_, PySem.W.mg_of X G x_TAKE⟩, ⟨_, PySem.W.mg_of X G x_AHEAD⟩, ⟨_, PySem.W.mg_of X G x_GIVE⟩, ⟨_, PySem.W.mg_of X G x_MOST_FIGURES⟩, ⟨_, PySem.W.mg_of X G x_PARTS⟩, ⟨_, PySem.W.mg_of X G x_FIGURES⟩, ⟨_, PySem.W.mg_of X G x_LEAST_SHAPES, fun H => .inr ⟨_, _, _, y_LEAST_SHAPES, w_LEAST_SHAPES.1, w_LEAST_SHAPES.2, (by show 4 ≤ sizeLine; decide), .cons ⟨_, rfl⟩ (.cons ⟨_, rfl⟩ (.cons ⟨_, rfl⟩ (.cons ⟨_, rfl⟩ (.nil))))⟩⟩, ⟨_, PySem.W.mg_of X G x_MOST_SHAPES, fun H => .inr ⟨_, _, _, y_MOST_SHAPES, w_MOST_SHAPES.1, w_MOST_SHAPES.2, (by show 4 ≤ sizeLine; decide), .cons ⟨_, rfl⟩ (.cons ⟨_, rfl⟩ (.cons ⟨_, rfl⟩ (.cons ⟨_, rfl⟩ (.nil))))⟩⟩, PySem.W.mg_none_of X G z_all, PySem.W.mg_none_of X G z_bool, PySem.W.mg_none_of X G z_int, PySem.W.mg_none_of X G z_isinstance, PySem.W.mg_none_of X G z_len, PySem.W.mg_none_of X G z_range, PySem.W.mg_none_of X G z_str, PySem.W.mg_none_of X G z_tuple, PySem.W.mg_none_of X G z_zip⟩
  have D0 := dn_law_mix X G a0 l0 c0 k0
  have D1 := dn_law_wide X G a1 l1 c1 k1
  have D2 := dn_law_written X G a2 l2 c2 k2
  have D3 := dn_spaced X G a3 l3 c3 k3
  have D4 := dn_shown X G a4 l4 c4 k4
  have D5 := dn_has_right_numbers X G a5 l5 c5 k5
  have D6 := dn_shape_in X G a6 l6 c6 k6
  have D7 := dn_shapes_in X G a7 l7 c7 k7
  have D8 := dn_read X G a8 l8 c8 k8
  have D9 := dn_law_cell_at X G a9 l9 c9 k9
  have D10 := dn_law_whole X G a10 l10 c10 k10
  have D11 := dn_law_is_rule X G a11 l11 c11 k11
  have D12 := dn_law X G a12 l12 c12 k12
  refine ⟨PySem.W.fnOf "law" "law" (defArgs s_law) (defBody s_law) (defScope s_law) .none kV12 dc12 pm12 an12 cd12 ct12, fun s v => .of_eq rfl, fun base _ _ => ?_⟩
  have G0 := ok_law_mix (P := l.prog) (w := w) (base := base) D0 T 
  have G1 := ok_law_wide (P := l.prog) (w := w) (base := base) D1 T D0 G0
  have G2 := ok_law_written (P := l.prog) (w := w) (base := base) D2 T 
  have G3 := ok_spaced (P := l.prog) (w := w) (base := base) D3 T 
  have G4 := ok_shown (P := l.prog) (w := w) (base := base) D4 T D3 G3
  have G5 := ok_has_right_numbers (P := l.prog) (w := w) (base := base) D5 T 
  have G6 := ok_shape_in (P := l.prog) (w := w) (base := base) D6 T 
  have G7 := ok_shapes_in (P := l.prog) (w := w) (base := base) D7 T D6 G6
  have G8 := ok_read (P := l.prog) (w := w) (base := base) D8 T D5 G5 D4 G4 D7 G7
  have G9 := ok_law_cell_at (P := l.prog) (w := w) (base := base) D9 T 
  have G10 := ok_law_whole (P := l.prog) (w := w) (base := base) D10 T 
  have G11 := ok_law_is_rule (P := l.prog) (w := w) (base := base) D11 T D10 G10
  have G12 := ok_law (P := l.prog) (w := w) (base := base) D12 T D1 G1 D2 G2 D4 G4 D8 G8 D9 G9 D11 G11
  exact G12
theorem walk {l : PySem.W.OpenLaw} {q : Program} {loose : List Str} {XP : (Str → Option Value) → Heap → Prop} {YP : World → Heap → Prop} {d : DefRec} {K : Params → PySem.W.Frag} (hn : l.most = some 63) (hdf : d.params.defaults = [])
    (hY : ∀ (w : World) (h : Heap), YP w h → (K w.params).In h)
    (F : ∀ (w : World) (mg : Str → Option Value) (fa : Addr) (h : Heap), (K w.params).In h → h.Ns mainGlobals mg → mg d.name = some (.ref fa) →
      ∃ fd : FuncData, (∀ (s : Shared) (u : Value), BindsTo s fd ⟨[u], []⟩ [("script", u)]) ∧ ∀ base : Heap, (K w.params).In base → base.Ns mainGlobals mg → FnOk l.prog w (K w.params) mg base CX0 4 fa fd ["script"] (spLaw (K w.params))) :
    PySem.W.WalkO q loose XP YP l.row.toRowW d [] (fun f vs => PySem.call f vs) :=
  L2.walk_of (n := 63) (k := 4) (x := "script") (CX := fun _ => CX0) (sp := fun w => spLaw (K w.params)) hn (by decide) hdf ⟨rfl, by decide, by decide⟩ hY F (fun _ _ a ns hl _ hS => ⟨a, ns, rfl, hS, hl, fun _ => rfl⟩) fun _ _ _ _ _ z => z
end W
open PySem PySem.W PyProof.Rows
set_option maxRecDepth 100000 in
set_option maxHeartbeats 0 in
theorem PySem.Challenge.cw_inkmelt_k13_shown_holds : PySem.Challenge.rw_inkmelt_k13_shown.Holds := by
  w_on; o_law; k_head; (case hw => w_witness2)
  k_fill
  refine W.walk (l := PySem.Challenge.rw_inkmelt_k13_shown) rfl rfl (fun w h Y => PySem.W.kIn_of Y) ?F
  case F =>
    intro w mg fa h KX G hmg
    refine' W.all_mk KX G hmg ?a0 ?l0 ?c0 ?k0 ?a1 ?l1 ?c1 ?k1 ?a2 ?l2 ?c2 ?k2 ?a3 ?l3 ?c3 ?k3 ?a4 ?l4 ?c4 ?k4 ?a5 ?l5 ?c5 ?k5 ?a6 ?l6 ?c6 ?k6 ?a7 ?l7 ?c7 ?k7 ?a8 ?l8 ?c8 ?k8 ?a9 ?l9 ?c9 ?k9 ?a10 ?l10 ?c10 ?k10 ?a11 ?l11 ?c11 ?k11 ?a12 ?l12 ?c12 ?k12 ?x_BEHIND ?x_TAKE ?x_AHEAD ?x_GIVE ?x_MOST_FIGURES ?x_PARTS ?x_FIGURES ?x_LEAST_SHAPES ?y_LEAST_SHAPES ?w_LEAST_SHAPES ?x_MOST_SHAPES ?y_MOST_SHAPES ?w_MOST_SHAPES ?z_all ?z_bool ?z_int ?z_isinstance ?z_len ?z_range ?z_str ?z_tuple ?z_zip
    (case a0 => k_is)
    (case l0 => k_is)
    (case c0 => k_is)
    (case k0 => k_is)
    (case a1 => k_is)
    (case l1 => k_is)
    (case c1 => k_is)
    (case k1 => k_is)
    (case a2 => k_is)
    (case l2 => k_is)
    (case c2 => k_is)
    (case k2 => k_is)
    (case a3 => k_is)
    (case l3 => k_is)
    (case c3 => k_is)
    (case k3 => k_is)
    (case a4 => k_is)
    (case l4 => k_is)
    (case c4 => k_is)
    (case k4 => k_is)
    (case a5 => k_is)
    (case l5 => k_is)
    (case c5 => k_is)
    (case k5 => k_is)
    (case a6 => k_is)
    (case l6 => k_is)
    (case c6 => k_is)
    (case k6 => k_is)
    (case a7 => k_is)
    (case l7 => k_is)
    (case c7 => k_is)
    (case k7 => k_is)
    (case a8 => k_is)
    (case l8 => k_is)
    (case c8 => k_is)
    (case k8 => k_is)
    (case a9 => k_is)
    (case l9 => k_is)
    (case c9 => k_is)
    (case k9 => k_is)
    (case a10 => k_is)
    (case l10 => k_is)
    (case c10 => k_is)
    (case k10 => k_is)
    (case a11 => k_is)
    (case l11 => k_is)
    (case c11 => k_is)
    (case k11 => k_is)
    (case a12 => k_is)
    (case l12 => k_is)
    (case c12 => k_is)
    (case k12 => k_is)
    (case x_BEHIND => k_is)
    (case x_TAKE => k_is)
    (case x_AHEAD => k_is)
    (case x_GIVE => k_is)
    (case x_MOST_FIGURES => k_is)
    (case x_PARTS => k_is)
    (case x_FIGURES => k_is)
    (case x_LEAST_SHAPES => k_is)
    (case y_LEAST_SHAPES => k_is)
    (case w_LEAST_SHAPES => exact ⟨rfl, rfl⟩)
    (case x_MOST_SHAPES => k_is)
    (case y_MOST_SHAPES => k_is)
    (case w_MOST_SHAPES => exact ⟨rfl, rfl⟩)
    (case z_all => k_is)
    (case z_bool => k_is)
    (case z_int => k_is)
    (case z_isinstance => k_is)
    (case z_len => k_is)
    (case z_range => k_is)
    (case z_str => k_is)
    (case z_tuple => k_is)
    (case z_zip => k_is)

