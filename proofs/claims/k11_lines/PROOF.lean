import PyProof.Rows.All
import Wide.All
import OpenK.AllK
import Wide.FinOn
import Lean
import PyProof.EqAt
import PyProof.EqKinds
import PyProof.TupleCall
import PySem.Challenge.RW_inkmelt_k11_lines
set_option Elab.async false
set_option linter.all false
set_option maxRecDepth 100000
namespace L2
open PySem PySem.Spec PyProof.Rows
noncomputable abbrev Key := Sum Int Str
noncomputable def keyIs : Key → Value → Bool
  | .inl k,v => Value.isInt k v
  | .inr x,v => Value.isStrOf x v
noncomputable def keyH (w : World) : Key → Int
  | .inl k => hashInt k
  | .inr x => hashStr w x
theorem keyIs_shape : ∀ {k : Key} {v : Value},keyIs k v = true → (∃ i t,k = Sum.inl i ∧ v = Value.int i t) ∨ (∃ x t,k = Sum.inr x ∧ v = Value.str x t)
  | .inl i,v,h => by
    obtain ⟨t,e⟩ := Value.isInt_shape (k := i) (v := v) h
    exact .inl ⟨i,t,rfl,e⟩
  | .inr x,v,h => by
    obtain ⟨t,e⟩ := Value.isStrOf_shape (x := x) (v := v) h
    exact .inr ⟨x,t,rfl,e⟩
theorem keyIs_int (i : Int) (t : Tok) : keyIs (.inl i) (.int i t) = true := by simp [keyIs,Value.isInt]
theorem keyIs_str (x : Str) (t : Tok) : keyIs (.inr x) (.str x t) = true := by simp [keyIs,Value.isStrOf]
theorem key_ll (a b : Int) : decide ((Sum.inl a : Key) = Sum.inl b) = (a == b) := by
  by_cases e : a = b
  · subst e; simp
  · have h : ¬ (Sum.inl a : Key) = Sum.inl b := fun q => e (Sum.inl.inj q)
    rw [decide_eq_false h]
    exact (beq_eq_false_iff_ne.mpr e).symm
theorem key_rr (a b : Str) : decide ((Sum.inr a : Key) = Sum.inr b) = decide (a = b) := by
  by_cases e : a = b
  · subst e; simp
  · have h : ¬ (Sum.inr a : Key) = Sum.inr b := fun q => e (Sum.inr.inj q)
    rw [decide_eq_false h,decide_eq_false e]
theorem key_lr (a : Int) (b : Str) : decide ((Sum.inl a : Key) = Sum.inr b) = false := decide_eq_false (fun q => nomatch q)
theorem key_rl (a : Str) (b : Int) : decide ((Sum.inr a : Key) = Sum.inl b) = false := decide_eq_false (fun q => nomatch q)
noncomputable def mixKind (prog : Program) (w : World) : PySem.KeyKind prog w Key where
  is := keyIs
  hash := keyH w
  inj := fun v a b ha hb => by
    rcases keyIs_shape ha with ⟨i,t,rfl,rfl⟩ | ⟨x,t,rfl,rfl⟩
    · rcases keyIs_shape hb with ⟨j,u,rfl,e⟩ | ⟨y,u,rfl,e⟩
      · injection e with e1 _; rw [e1]
      · exact nomatch e
    · rcases keyIs_shape hb with ⟨j,u,rfl,e⟩ | ⟨y,u,rfl,e⟩
      · exact nomatch e
      · injection e with e1 _; rw [e1]
  byValue := fun k v h => by
    rcases keyIs_shape h with ⟨i,t,rfl,rfl⟩ | ⟨x,t,rfl,rfl⟩ <;> rfl
  pyHash := fun hv h => by
    rcases keyIs_shape hv with ⟨i,t,rfl,rfl⟩ | ⟨x,t,rfl,rfl⟩
    · exact wpAny_pyHash_int h
    · exact wpAny_pyHash_str h
  eqBool := fun hu hv h => by
    rcases keyIs_shape hu with ⟨i,t,rfl,rfl⟩ | ⟨x,t,rfl,rfl⟩
    · rcases keyIs_shape hv with ⟨j,u,rfl,rfl⟩ | ⟨y,u,rfl,rfl⟩
      · rw [key_ll] at h; exact wpAny_eqBool_int h
      · rw [key_lr] at h; exact SeqAt.EqAt.int_str i t y u _ _ _ _ h
    · rcases keyIs_shape hv with ⟨j,u,rfl,rfl⟩ | ⟨y,u,rfl,rfl⟩
      · rw [key_rl] at h; exact SeqAt.EqAt.str_int x t j u _ _ _ _ h
      · rw [key_rr] at h; exact wpAny_eqBool_str h
  «strs» := fun k x t v h => by
    rcases keyIs_shape h with ⟨i,u,rfl,e⟩ | ⟨y,u,rfl,e⟩
    · exact nomatch e
    · injection e with e1 _
      subst e1
      cases v <;> rfl
theorem mixKind_int (prog : Program) (w : World) (i : Int) (t : Tok) : (mixKind prog w).is (.inl i) (.int i t) = true := keyIs_int i t
theorem mixKind_str (prog : Program) (w : World) (x : Str) (t : Tok) : (mixKind prog w).is (.inr x) (.str x t) = true := keyIs_str x t
end L2
namespace L2
open PySem PySem.Spec PyProof.Rows
inductive V where
  | non | bl (b : Bool) | int (i : Int) | str (x : Str) | byt (b : Array UInt8) | flt (b : UInt64) | ref (a : Addr) | ty (n : String)
  deriving DecidableEq
noncomputable def RelV : V → Value → Prop
  | .non,u => u = Value.none
  | .bl b,u => u = Value.bool b
  | .int i,u => ∃ t,u = Value.int i t
  | .str x,u => ∃ t,u = Value.str x t
  | .byt b,u => ∃ t,u = Value.bytes b t
  | .flt b,u => ∃ t,u = Value.float b t
  | .ref a,u => u = Value.ref a
  | .ty n,u => u = Value.type n
noncomputable abbrev Vals : List V → List Value → Prop := Paired RelV
theorem Vals.length {xs : List V} {us : List Value} (r : Vals xs us) : xs.length = us.length := Paired.length r
theorem Vals.get : ∀ {xs : List V} {us : List Value} {i : Nat} {x : V},Vals xs us → xs[i]? = some x → ∃ u,us[i]? = some u ∧ RelV x u
  | _,_,_,_,.nil,e => by simp at e
  | _,_,0,_,.cons r _,e => by simp at e; subst e; exact ⟨_,rfl,r⟩
  | _,_,i + 1,x,.cons _ t,e => by
    obtain ⟨u,h1,h2⟩ := Vals.get (i := i) (x := x) t (by simpa using e)
    exact ⟨u,by simpa using h1,h2⟩
theorem Vals.set {x : V} {u : Value} (r : RelV x u) : ∀ {xs : List V} {us : List Value} (i : Nat),Vals xs us → Vals (xs.set i x) (us.set i u)
  | _,_,_,.nil => .nil
  | _,_,0,.cons _ t => .cons r t
  | _,_,i + 1,.cons q t => .cons q (Vals.set r i t)
theorem Vals.append : ∀ {xs ys : List V} {us ws : List Value},Vals xs us → Vals ys ws → Vals (xs ++ ys) (us ++ ws) := by
  intro xs ys us ws h g
  induction h with
  | nil => exact g
  | cons r t ih => exact .cons r ih
theorem Vals.take : ∀ {xs : List V} {us : List Value} (n : Nat),Vals xs us → Vals (xs.take n) (us.take n)
  | _,_,0,_ => .nil
  | _,_,_ + 1,.nil => .nil
  | _,_,n + 1,.cons r t => .cons r (Vals.take n t)
theorem Vals.drop : ∀ {xs : List V} {us : List Value} (n : Nat),Vals xs us → Vals (xs.drop n) (us.drop n)
  | _,_,0,r => r
  | _,_,_ + 1,.nil => .nil
  | _,_,n + 1,.cons _ t => Vals.drop n t
noncomputable def RelO : Option V → Option Value → Prop
  | some v,some u => RelV v u
  | none,none => True
  | _,_ => False
noncomputable def KV {κ : Type} : List (κ × V) → List (κ × Value) → Prop := Paired fun (p : κ × V) (q : κ × Value) => p.1 = q.1 ∧ RelV p.2 q.2
noncomputable def kV : Key → V
  | .inl i => .int i
  | .inr x => .str x
inductive HO where
    | lst (xs : List V)
    | tup (xs : List V)
    | dK (kvs : List (Key × V)) | dT (kvs : List (List Key × V))
    | set (S : Int → Bool) (n : Nat)
    | ins (C dx : Addr) (fs : List (Str × V))
    | own (x : Addr)
    | xd (fs : List (Str × V))
    | met (f x : Addr)
    | rng (lo hi : Int)
    | frz (o : Obj) (u : HO)
    | tbl (ps : Array Value)
    | ext (φ : Heap → Prop)
noncomputable abbrev Hp := Addr → Option HO
noncomputable def upd (H : Hp) (a : Addr) (o : HO) : Hp := fun b => if b = a then some o else H b
theorem upd_same {H : Hp} {a : Addr} {o : HO} : upd H a o a = some o := by unfold upd; rw [if_pos rfl]
theorem upd_ne {H : Hp} {a b : Addr} {o : HO} (h : b ≠ a) : upd H a o b = H b := by unfold upd; rw [if_neg h]
theorem ne_of {H : Hp} {a b : Addr} {o u : HO} (h : H a = some o) (h' : H b = some u) (d : o ≠ u) : a ≠ b := by
  intro e; subst e; rw [h] at h'; exact d (Option.some.inj h')
theorem ne_of_none {H : Hp} {a b : Addr} {o : HO} (h : H a = some o) (h' : H b = none) : a ≠ b := by
  intro e; subst e; rw [h] at h'; cases h'
section
variable (P : Program) (w : World)
noncomputable def ObjOk (H : Hp) (h : Heap) (a : Addr) : HO → Prop
  | .lst xs => xs.length ≤ sizeLine ∧ ∃ (its : List Value) (n : Nat),Vals xs its ∧ h.get? a = some { cls := .type "list",data := .seq its.toArray n }
  | .tup xs => xs.length ≤ sizeLine ∧ ∃ its : List Value,Vals xs its ∧ IsTup h a its.toArray
  | .dK kvs => kvs.length ≤ sizeLine ∧ (a == sysModules) = false ∧ ∃ vs,KV kvs vs ∧ h.DictOf (mixKind P w) a vs
  | .dT kvs => kvs.length ≤ sizeLine ∧ (a == sysModules) = false ∧ ∃ xs : List (List Key × Addr × Value),
      Paired (fun (p : List Key × V) (q : List Key × Addr × Value) => p.1 = q.1 ∧ H q.2.1 = some (.tup (p.1.map kV)) ∧ RelV p.2 q.2.2) kvs xs ∧
      ∃ o es ep,h.get? a = some o ∧ o.ExactDict ∧ o.data = .dict es ep ∧ es.toList = xs.map (entryOfKey (tupleKind (mixKind P w))) ∧ (xs.map (·.1)).Nodup
  | .set S n => h.SetOf (intKind P w) a S n
  | .ins C dx fs => H dx = some (.own a) ∧ fs.length ≤ 1000 ∧ dx ≠ a ∧ h.get? a = some (PySem.W.instObj C dx) ∧
      ∃ mA,h.Ns1 dx mA ∧ (∀ f,RelO (fs.lookup f) (mA f)) ∧ PySem.Within mA (fs.map (·.1))
  | .own _ => ∃ o,h.get? a = some o
  | .xd fs => ∃ mA,h.Ns1 a mA ∧ ∀ f,RelO (fs.lookup f) (mA f)
  | .rng lo hi => ∃ t u v,h.get? a = some { cls := .type "range",data := .fields #[.int lo t,.int hi u,.int 1 v] }
  | .frz o u => h.get? a = some o ∧ ObjOk H h a u
  | .tbl ps => h.get? a = some { cls := .none,data := .fields ps }
  | .met f x => h.get? a = some (PySem.W.methodObj (.ref f) (.ref x))
  | .ext φ => φ h ∧ (∃ o,h.get? a = some o) ∧ ∀ h1 h2 : Heap,φ h1 → (∀ o,h1.get? a = some o → h2.get? a = some o) → φ h2
noncomputable def HOk (H : Hp) (h : Heap) : Prop := ∀ a o,H a = some o → ObjOk P w H h a o
end
section
variable {P : Program} {w : World} {H H' : Hp} {h h' : Heap} {a : Addr} {o : HO}
theorem ObjOk.lt (x : ObjOk P w H h a o) : a < h.objs.size := by
  cases o with
  | lst xs => obtain ⟨_,_,_,_,e⟩ := x; exact Heap.lt_size e
  | tup xs => obtain ⟨_,_,_,p⟩ := x; exact p.lt
  | dK kvs => obtain ⟨_,_,_,_,o,_,_,e,_⟩ := x; exact Heap.lt_size e
  | dT kvs => obtain ⟨_,_,_,_,o,_,_,e,_⟩ := x; exact Heap.lt_size e
  | set S n => obtain ⟨o,_,_,_,e,_⟩ := x; exact Heap.lt_size e
  | ins C dx fs => obtain ⟨_,_,_,e,_⟩ := x; exact Heap.lt_size e
  | own y => obtain ⟨_,e⟩ := x; exact Heap.lt_size e
  | xd fs => obtain ⟨_,⟨_,_,_,e,_⟩,_⟩ := x; exact Heap.lt_size e
  | rng lo hi => obtain ⟨_,_,_,e⟩ := x; exact Heap.lt_size e
  | frz ob u => obtain ⟨e,_⟩ := x; exact Heap.lt_size e
  | tbl ps => exact Heap.lt_size (show h.get? a = some _ from x)
  | met f y => exact Heap.lt_size (show h.get? a = some _ from x)
  | ext φ => obtain ⟨_,⟨_,e⟩,_⟩ := x; exact Heap.lt_size e
theorem Paired.mapP {α β : Type} {F G : α → β → Prop} : ∀ {l₁ : List α} {l₂ : List β},Paired F l₁ l₂ → (∀ a b,F a b → G a b) → Paired G l₁ l₂ := by
  intro l₁ l₂ h f
  induction h with
  | nil => exact .nil
  | cons r t ih => exact .cons (f _ _ r) ih
theorem Paired.imp' {α β : Type} {F G : α → β → Prop} (f : ∀ a b,F a b → G a b) {l₁ : List α} {l₂ : List β} (r : Paired F l₁ l₂) : Paired G l₁ l₂ := Paired.mapP r f
theorem ObjOk.stay (x : ObjOk P w H h a o) (k : ∀ b u,(b = a ∨ H b = some (.own a)) → h.get? b = some u → h'.get? b = some u)
    (ho : ∀ b,H b = some (.own a) → H' b = some (.own a)) (ht : ∀ b xs,H b = some (.tup xs) → H' b = some (.tup xs)) : ObjOk P w H' h' a o := by
  induction o with
  | lst xs => obtain ⟨z,its,n,r,e⟩ := x; exact ⟨z,its,n,r,k _ _ (.inl rfl) e⟩
  | tup xs => obtain ⟨z,its,r,ob,e,c⟩ := x; exact ⟨z,its,r,ob,k _ _ (.inl rfl) e,c⟩
  | dK kvs => obtain ⟨z,y,vs,r,ob,es,ep,e,c⟩ := x; exact ⟨z,y,vs,r,ob,es,ep,k _ _ (.inl rfl) e,c⟩
  | dT kvs =>
    obtain ⟨z,y,xs,r,ob,es,ep,e,c⟩ := x
    exact ⟨z,y,xs,Paired.mapP r fun p q z => ⟨z.1,ht _ _ z.2.1,z.2.2⟩,ob,es,ep,k _ _ (.inl rfl) e,c⟩
  | set S n => obtain ⟨ob,es,ep,t,e,c⟩ := x; exact ⟨ob,es,ep,t,k _ _ (.inl rfl) e,c⟩
  | ins C dx fs =>
    obtain ⟨d,z,ne,e,mA,⟨od,es,ep,e2,c⟩,r⟩ := x
    exact ⟨ho _ d,z,ne,k _ _ (.inl rfl) e,mA,⟨od,es,ep,k _ _ (.inr d) e2,c⟩,r⟩
  | own y => obtain ⟨ob,e⟩ := x; exact ⟨ob,k _ _ (.inl rfl) e⟩
  | xd fs => obtain ⟨mA,⟨od,es,ep,e,c⟩,r⟩ := x; exact ⟨mA,⟨od,es,ep,k _ _ (.inl rfl) e,c⟩,r⟩
  | rng lo hi => obtain ⟨t,u,v,e⟩ := x; exact ⟨t,u,v,k _ _ (.inl rfl) e⟩
  | frz ob u ih => obtain ⟨e,q⟩ := x; exact ⟨k _ _ (.inl rfl) e,ih q⟩
  | tbl ps =>
    have e : h.get? a = some { cls := .none,data := .fields ps } := x
    show h'.get? a = some { cls := .none,data := .fields ps }
    exact k a _ (.inl rfl) e
  | met f y =>
    have e : h.get? a = some (PySem.W.methodObj (.ref f) (.ref y)) := x
    show h'.get? a = some (PySem.W.methodObj (.ref f) (.ref y))
    exact k a _ (.inl rfl) e
  | ext φ => obtain ⟨p,⟨o,e⟩,st⟩ := x; exact ⟨st _ _ p fun o q => k _ _ (.inl rfl) q,⟨o,k _ _ (.inl rfl) e⟩,st⟩
theorem HOk.lt (x : HOk P w H h) (e : H a = some o) : a < h.objs.size := (x a o e).lt
theorem HOk.fresh (x : HOk P w H h) (e : h.objs.size ≤ a) : H a = none := by
  cases q : H a with
  | none => rfl
  | some u => exact absurd (Nat.lt_of_lt_of_le (x.lt q) e) (Nat.lt_irrefl _)
theorem HOk.kept (x : HOk P w H h) (k : ∀ b u,h.get? b = some u → h'.get? b = some u) : HOk P w H h' := fun a o e =>
  (x a o e).stay (fun b u _ q => k b u q) (fun _ q => q) fun _ _ q => q
theorem HOk.laid (x : HOk P w H h) (k : ∀ b u,h.get? b = some u → h'.get? b = some u) (hp : h.objs.size ≤ a) (new : ObjOk P w (upd H a o) h' a o) : HOk P w (upd H a o) h' := fun b u e => by
  have hn := x.fresh hp
  by_cases hb : b = a
  · subst hb; rw [upd_same] at e; cases e; exact new
  · rw [upd_ne hb] at e
    exact (x b u e).stay (fun c v _ q => k c v q) (fun c q => by rw [upd_ne (ne_of_none q hn)]; exact q) fun c xs q => by rw [upd_ne (ne_of_none q hn)]; exact q
end
noncomputable def Rd (H : Hp) (a : Addr) (u : HO) : Prop := H a = some u ∨ ∃ o,H a = some (.frz o u)
theorem Rd.ok {P : Program} {w : World} {H : Hp} {h : Heap} {a : Addr} {u : HO} (r : Rd H a u) (x : HOk P w H h) : ObjOk P w H h a u := by
  rcases r with r | ⟨o,r⟩
  · exact x a u r
  · obtain ⟨_,q⟩ := x a _ r
    exact q
noncomputable def Mut : Option HO → Prop
  | some (.lst _) => True
  | some (.dK _) => True
  | some (.dT _) => True
  | some (.set _ _) => True
  | some (.ins _ _ _) => True
  | some (.ext _) => True
  | _ => False
section
variable {P : Program} {w : World} {H : Hp} {h h' : Heap} {x e : Addr} {o' : HO}
theorem HOk.write (ok : HOk P w H h) (mu : Mut (H x)) (he : e = x ∨ H e = some (.own x)) (k : ∀ b u,b ≠ e → h.get? b = some u → h'.get? b = some u) (heo : ∃ u,h'.get? e = some u)
    (new : ObjOk P w (upd H x o') h' x o') : HOk P w (upd H x o') h' := fun b u q => by
  have nown : ∀ c y,H c = some (.own y) → c ≠ x := fun c y r z => by subst z; rw [r] at mu; exact mu
  have ntup : ∀ c xs,H c = some (.tup xs) → c ≠ x := fun c xs r z => by subst z; rw [r] at mu; exact mu
  by_cases hb : b = x
  · subst hb; rw [upd_same] at q; cases q; exact new
  · rw [upd_ne hb] at q
    by_cases hbe : b = e
    · have q' : H b = some (.own x) := by
        rcases he with z | z
        · exact absurd (hbe.trans z) hb
        · rw [hbe]; exact z
      rw [q] at q'; cases q'
      obtain ⟨v,hv⟩ := heo
      exact ⟨v,by rw [hbe]; exact hv⟩
    · refine (ok b u q).stay (fun c v hc r => k c v ?_ r) (fun c r => by rw [upd_ne (nown c b r)]; exact r) fun c xs r => by rw [upd_ne (ntup c xs r)]; exact r
      rcases hc with rfl | hc
      · exact hbe
      · rintro rfl
        rcases he with z | z
        · exact nown c b hc z
        · rw [hc] at z; cases z; exact hb rfl
end
structure Un (fs ex : List Addr) (H H' : Hp) (h h' : Heap) : Prop where
  keep : ∀ b o,h.get? b = some o → H b = none → b ∉ fs → b ∉ ex → h'.get? b = some o
  slot : ∀ b o,h.get? b = some o → H b = none → b ∈ fs → b ∉ ex → ∃ sl,h'.get? b = some { o with slots := sl }
  free : ∀ b o,h.get? b = some o → H b = none → b ∉ ex → H' b = none
  there : ∀ b o,h.get? b = some o → b ∉ ex → ∃ o',h'.get? b = some o'
  tups : ∀ b xs,H b = some (.tup xs) → H' b = some (.tup xs)
  frzs : ∀ b o u,H b = some (.frz o u) → H' b = some (.frz o u)
  tbls : ∀ b ps,H b = some (.tbl ps) → ∃ more,H' b = some (.tbl (ps ++ more))
section
variable {fs fs' ex ex' : List Addr} {H H1 H2 : Hp} {h h1 h2 h' : Heap} {a x e : Addr} {o : HO}
theorem Un.any (u : Un fs ex H H1 h h1) {b : Addr} {ob : Obj} (q : h.get? b = some ob) (n : H b = none) (hx : b ∉ ex) : ∃ sl,h1.get? b = some { ob with slots := sl } := by
  by_cases hb : b ∈ fs
  · exact u.slot b ob q n hb hx
  · exact ⟨ob.slots,u.keep b ob q n hb hx⟩
theorem Un.kept (k : ∀ b u,h.get? b = some u → h'.get? b = some u) : Un fs ex H H h h' :=
  ⟨fun b ob q _ _ _ => k b ob q,fun b ob q _ _ _ => ⟨ob.slots,k b ob q⟩,fun _ _ _ n _ => n,fun b ob q _ => ⟨ob,k b ob q⟩,fun _ _ q => q,fun _ _ _ q => q,fun _ ps q => ⟨#[],by rw [q]; simp⟩⟩
theorem Un.refl : Un fs ex H H h h := Un.kept fun _ _ q => q
theorem Un.laid (k : ∀ b u,h.get? b = some u → h'.get? b = some u) (hp : h.objs.size ≤ a) (hn : H a = none) : Un fs ex H (upd H a o) h h' where
  keep := fun b u q _ _ _ => k b u q
  slot := fun b u q _ _ _ => ⟨u.slots,k b u q⟩
  free := fun b u q n _ => by rw [upd_ne (Nat.ne_of_lt (Nat.lt_of_lt_of_le (Heap.lt_size q) hp))]; exact n
  there := fun b u q _ => ⟨u,k b u q⟩
  tups := fun b xs q => by rw [upd_ne (ne_of_none q hn)]; exact q
  frzs := fun b u xs q => by rw [upd_ne (ne_of_none q hn)]; exact q
  tbls := fun b ps q => ⟨#[],by rw [upd_ne (ne_of_none q hn),q]; simp⟩
theorem Un.write (mu : Mut (H x)) (he : e = x ∨ H e = some (.own x)) (k : ∀ b u,b ≠ e → h.get? b = some u → h'.get? b = some u) (heo : ∃ u,h'.get? e = some u) : Un fs ex H (upd H x o) h h' := by
  have hx : ∀ b,H b = none → b ≠ x := fun b n z => by subst z; rw [n] at mu; exact mu
  have hb : ∀ b,H b = none → b ≠ e := fun b n z => by
    subst z
    rcases he with r | r
    · exact hx b n r
    · rw [n] at r; cases r
  have hm : ∀ b u,H b = some u → ¬ Mut (some u) → b ≠ x := fun b u q nm z => by subst z; rw [q] at mu; exact nm mu
  refine ⟨fun b u q n _ _ => k b u (hb b n) q,fun b u q n _ _ => ⟨u.slots,k b u (hb b n) q⟩,fun b u q n _ => by rw [upd_ne (hx b n)]; exact n,fun b u q _ => ?_,
    fun b xs q => by rw [upd_ne (hm b _ q fun z => z)]; exact q,fun b u xs q => by rw [upd_ne (hm b _ q fun z => z)]; exact q,fun b ps q => ⟨#[],by rw [upd_ne (hm b _ q fun z => z),q]; simp⟩⟩
  by_cases hbe : b = e
  · subst hbe; exact heo
  · exact ⟨u,k b u hbe q⟩
end
noncomputable def trk (h : Heap) (H : Hp) : List Addr := (List.range h.objs.size).filter fun a => (H a).isSome
noncomputable def hidT (h : Heap) (H : Hp) : Heap := PySem.W.hideAll h (trk h H)
theorem hidT_size (h : Heap) (H : Hp) : (hidT h H).objs.size = h.objs.size := PySem.W.hideAll_size _ _
theorem hidT_get {h : Heap} {H : Hp} {b : Addr} {o : Obj} (e : h.get? b = some o) (n : H b = none) : (hidT h H).get? b = some o :=
  PySem.W.hideAll_get _ e fun hm => by
    have q : (H b).isSome = true := (List.mem_filter.mp hm).2
    rw [n] at q; simp at q
theorem of_hidT {h : Heap} {H : Hp} {b : Addr} {o : Obj} (e : (hidT h H).get? b = some o) : h.get? b = some o ∧ H b = none := by
  have e' : h.get? b = some o := PySem.W.of_hideAll (trk h H) e
  refine ⟨e',?_⟩
  cases q : H b with
  | none => rfl
  | some x =>
    have hm : b ∈ trk h H := List.mem_filter.mpr ⟨List.mem_range.mpr (Heap.lt_size e'),by simp [q]⟩
    have z : (hidT h H).get? b = none := PySem.W.hideAll_none (trk h H) hm
    rw [z] at e; cases e
noncomputable def allNews (g h : Heap) (L : Addr) : List (Addr × Obj) := (List.range h.objs.size).filterMap fun a => if a = L ∨ (g.get? a).isSome = true then none else (h.get? a).map fun o => (a,o)
noncomputable def rest (g h : Heap) (L d : Addr) : List (Addr × Obj) := (allNews g h L).filter fun p => decide (p.1 ≠ d)
end L2
namespace L2
open PySem PySem.Spec PyProof.Rows
structure Mod (K : PySem.W.Frag) (mg : Str → Option Value) (base : Heap) : Prop where
  kin : K.In base
  glob : base.Ns mainGlobals mg
  blt : ∃ mb,base.Ns builtinsNs mb ∧ ∀ x : Str,x ≠ "__name__" → mb x = bootBuiltins x
  nolimit : base.NoLimit
structure Cx where
  prog : Program
  w : World
  K : PySem.W.Frag
  mg : Str → Option Value
  base : Heap
  A : Around
  N : List Str
  s₀ : Shared
  H₀ : Hp
  env : Env
  outer : List Env
  stack : List Env
  ex : List Addr
  fn : Str → Bool
  calm : Bool
  pn : List (Addr × Obj)
  xe : Value → Shared → Prop
noncomputable def frs (l : List Env) : List Addr := l.filterMap (·.frame)
noncomputable abbrev Cx.fs (X : Cx) : List Addr := frs X.outer
noncomputable def Vis (sc : Scope) (x : Str) : Prop := sc.names.lookup x = some .local ∨ sc.names.lookup x = some .cell ∨ sc.names.lookup x = some .free
noncomputable def Loc (sc : Scope) (x : Str) : Prop := sc.names.lookup x = some .local ∨ sc.names.lookup x = some .cell
noncomputable def Look (env : Env) (h : Heap) (m : Str → Option Value) (x : Str) (u : Value) : Prop :=
  (env.kindOf x = some .local ∧ m x = some u) ∨ ((env.kindOf x = some .cell ∨ env.kindOf x = some .free) ∧ ∃ c,env.cells.lookup x = some c ∧ h.IsCell c (some u))
structure Cx.Ok (X : Cx) : Prop where
  mod : Mod X.K X.mg X.base
  kind : X.env.scope.kind = .function
  glob : X.env.globals = mainGlobals
  blt : X.env.builtins = builtinsNs
  above : X.s₀.heap.objs.size ≤ X.env.locals
  inj : ∀ x y c,X.env.cells.lookup x = some c → X.env.cells.lookup y = some c → x = y
  has : ∀ x,(X.env.kindOf x = some .cell ∨ X.env.kindOf x = some .free) → ∃ c,X.env.cells.lookup x = some c
  cab : ∀ x c,X.fn x = true → X.env.cells.lookup x = some c → X.s₀.heap.objs.size ≤ c
  hd : X.calm = true → X.A.handled = none
  frames : X.A.frames = some X.stack
  stk : X.stack = X.outer ∨ (X.stack = X.env :: X.outer ∧ X.env.frame = some X.env.locals)
  exf : ∀ b ∈ X.ex,b ≠ X.env.locals ∧ ∀ x c,X.env.cells.lookup x = some c → c ≠ b
  bs : ∀ b o,X.base.get? b = some o → X.s₀.heap.get? b = some o ∧ X.H₀ b = none
  bsz : X.base.objs.size ≤ X.s₀.heap.objs.size
  noex : ∀ b o,X.base.get? b = some o → b ∉ X.ex
  exfs : ∀ b ∈ X.ex,b ∉ X.fs
  funs : X.s₀.heap.FunFrames X.base X.outer
  frf : ∀ b ∈ X.fs,X.H₀ b = none
structure Inv (X : Cx) (pins : List (Addr × Obj)) (σ : List (Option V)) (H : Hp) (s : Shared) : Prop where
  ok : X.Ok
  os : s.os = X.s₀.os
  bare : AllBare s.gens
  base : Un X.fs X.ex X.H₀ H X.s₀.heap s.heap
  loc : ∃ m,s.heap.Ns X.env.locals m ∧ ∀ (i : Nat) (x : Str) (v : V),X.N[i]? = some x → σ[i]? = some (some v) → Vis X.env.scope x → ∃ u,RelV v u ∧ Look X.env s.heap m x u
  cell : ∀ x c,X.env.cells.lookup x = some c → ∃ v,s.heap.IsCell c v
  free : H X.env.locals = none
  freeC : ∀ x c,X.env.cells.lookup x = some c → H c = none
  pin : ∀ p ∈ X.pn ++ pins,s.heap.get? p.1 = some p.2 ∧ H p.1 = none ∧ p.1 ≠ X.env.locals ∧ p.1 ∉ X.fs ∧ ∀ v,p.2.data ≠ .cell v
  hok : HOk X.prog X.w H s.heap
  len : σ.length = X.N.length
section
variable {X : Cx} {pins : List (Addr × Obj)} {σ : List (Option V)} {H H' : Hp} {s : Shared} {h' : Heap}
theorem Cx.Ok.nofr (ok : X.Ok) {b : Addr} {o : Obj} (e : X.base.get? b = some o) : b ∉ X.fs := fun hb => by
  have := (ok.funs.mem hb).1
  rw [e] at this; cases this
theorem Inv.bs (I : Inv X pins σ H s) : ∀ b o,X.base.get? b = some o → s.heap.get? b = some o ∧ H b = none := fun b o e =>
  ⟨I.base.keep b o (I.ok.bs b o e).1 (I.ok.bs b o e).2 (I.ok.nofr e) (I.ok.noex b o e),I.base.free b o (I.ok.bs b o e).1 (I.ok.bs b o e).2 (I.ok.noex b o e)⟩
theorem Inv.bk (I : Inv X pins σ H s) : ∀ b o,X.base.get? b = some o → s.heap.get? b = some o := fun b o e => (I.bs b o e).1
theorem Inv.mod (I : Inv X pins σ H s) : Mod X.K X.mg X.base := I.ok.mod
theorem Inv.kIn (I : Inv X pins σ H s) : X.K.In s.heap := I.ok.mod.kin.keeps I.bk
theorem Inv.lt (I : Inv X pins σ H s) : X.env.locals < s.heap.objs.size := let ⟨_,hn,_⟩ := I.loc; hn.lt
theorem Inv.sz (I : Inv X pins σ H s) : X.s₀.heap.objs.size ≤ s.heap.objs.size := Nat.le_trans I.ok.above (Nat.le_of_lt I.lt)
theorem Inv.nofs (I : Inv X pins σ H s) {a : Addr} (h : s.heap.objs.size ≤ a) : a ∉ X.fs := fun hb => by
  obtain ⟨_,o,ho,_⟩ := I.ok.funs.mem hb
  exact absurd (Nat.lt_of_lt_of_le (Heap.lt_size ho) (Nat.le_trans I.sz h)) (Nat.lt_irrefl _)
theorem Inv.cne (I : Inv X pins σ H s) : ∀ x c,X.env.cells.lookup x = some c → c ≠ X.env.locals := fun x c e z => by
  obtain ⟨v,o,ho,hd⟩ := I.cell x c e
  obtain ⟨m,⟨o',es,ep,ho',hd',_⟩,_⟩ := I.loc
  rw [z,ho'] at ho; cases ho; rw [hd'] at hd; cases hd
theorem Inv.funs (I : Inv X pins σ H s) : s.heap.FunFrames X.base X.outer := by
  have all : ∀ (l : List Env),(∀ b ∈ frs l,b ∈ X.fs) → X.s₀.heap.FunFrames X.base l → s.heap.FunFrames X.base l := by
    intro l
    induction l with
    | nil => intro _ _; trivial
    | cons env r ih =>
      intro hs hl
      obtain ⟨hk,⟨L,o,hf,hn,ho,hd⟩,hr⟩ := hl
      have hL : L ∈ X.fs := hs L (by unfold frs; rw [List.filterMap_cons,hf]; exact List.mem_cons_self)
      obtain ⟨sl,e⟩ := I.base.slot L o ho (I.ok.frf L hL) hL fun z => I.ok.exfs L z hL
      exact ⟨hk,⟨L,_,hf,hn,e,hd⟩,ih (fun b hb => hs b (by unfold frs; rw [List.filterMap_cons,hf]; exact List.mem_cons_of_mem _ hb)) hr⟩
  exact all X.outer (fun _ hb => hb) I.ok.funs
theorem Inv.stack (I : Inv X pins σ H s) : s.heap.FunFrames X.base X.stack := by
  rcases I.ok.stk with e | ⟨e,hf⟩
  · rw [e]; exact I.funs
  · rw [e]
    obtain ⟨m,hn,_⟩ := I.loc
    refine .cons (by rw [I.ok.kind]; decide) hf hn ?_ I.funs
    exact Heap.get?_none_of_le (Nat.le_trans I.ok.bsz I.ok.above)
theorem Inv.stkSub (I : Inv X pins σ H s) : ∀ b ∈ frs X.stack,b ∈ X.env.locals :: X.fs := fun b hb => by
  rcases I.ok.stk with e | ⟨e,hf⟩
  · rw [e] at hb; exact List.mem_cons_of_mem _ hb
  · rw [e] at hb
    unfold frs at hb
    rw [List.filterMap_cons,hf] at hb
    exact hb
theorem Inv.stkFree (I : Inv X pins σ H s) : ∀ b ∈ frs X.stack,H b = none := fun b hb => by
  rcases List.mem_cons.mp (I.stkSub b hb) with e | hb
  · rw [e]; exact I.free
  · obtain ⟨_,o,ho,_⟩ := I.ok.funs.mem hb
    exact I.base.free b o ho (I.ok.frf b hb) fun z => I.ok.exfs b z hb
theorem Inv.step {g' : Array GenState} {t' : Nat} {d' : Drawn} {ch : List Addr} (I : Inv X pins σ H s)
    (hch : ∀ b ∈ ch,(b ∈ X.ex ∨ X.s₀.heap.objs.size ≤ b) ∧ b ≠ X.env.locals ∧ (∀ x c,X.env.cells.lookup x = some c → c ≠ b) ∧ ∀ p ∈ X.pn ++ pins,p.1 ≠ b)
    (keep : ∀ b o,b ≠ X.env.locals → b ∉ X.fs → b ∉ ch → s.heap.get? b = some o → H b = none → h'.get? b = some o)
    (slot : ∀ b o,b ≠ X.env.locals → b ∈ X.fs → b ∉ ch → s.heap.get? b = some o → H b = none → ∃ sl,h'.get? b = some { o with slots := sl }) (free : ∀ b o,b ∉ ch → s.heap.get? b = some o → H b = none → H' b = none)
    (there : ∀ b o,b ∉ ch → s.heap.get? b = some o → ∃ o',h'.get? b = some o')
    (tups : ∀ b xs,H b = some (.tup xs) → H' b = some (.tup xs)) (frzs : ∀ b o u,H b = some (.frz o u) → H' b = some (.frz o u)) (tbls : ∀ b ps,H b = some (.tbl ps) → ∃ more,H' b = some (.tbl (ps ++ more)))
    (ns : ∀ m,s.heap.Ns X.env.locals m → h'.Ns X.env.locals m) (hok : HOk X.prog X.w H' h') (hg : AllBare g') :
    Inv X pins σ H' { s with heap := h',gens := g',drawn := d',toks := t' } := by
  have neL : ∀ b o,X.s₀.heap.get? b = some o → b ≠ X.env.locals := fun b o e => Nat.ne_of_lt (Nat.lt_of_lt_of_le (Heap.lt_size e) I.ok.above)
  have neC : ∀ b o,X.s₀.heap.get? b = some o → b ∉ X.ex → b ∉ ch := fun b o e hx hb => by
    rcases (hch b hb).1 with z | z
    · exact hx z
    · exact absurd (Nat.lt_of_lt_of_le (Heap.lt_size e) z) (Nat.lt_irrefl _)
  have cellK : ∀ x c,X.env.cells.lookup x = some c → ∀ v,s.heap.IsCell c v → h'.IsCell c v := fun x c e v ⟨o,ho,hd⟩ => by
    have nch : c ∉ ch := fun z => (hch c z).2.2.1 x c e rfl
    by_cases hc : c ∈ X.fs
    · obtain ⟨sl,q⟩ := slot c o (I.cne x c e) hc nch ho (I.freeC x c e)
      exact ⟨_,q,hd⟩
    · exact ⟨o,keep c o (I.cne x c e) hc nch ho (I.freeC x c e),hd⟩
  refine ⟨I.ok,I.os,hg,⟨fun b o e n hb hx => ?_,fun b o e n hb hx => ?_,fun b o e n hx => ?_,fun b o e hx => ?_,fun b xs e => tups b xs (I.base.tups b xs e),fun b o xs e => frzs b o xs (I.base.frzs b o xs e),fun b ps e => ?_⟩,?_,fun x c e => ?_,?_,fun x c e => ?_,fun p hp => ?_,hok,I.len⟩
  · exact keep b o (neL b o e) hb (neC b o e hx) (I.base.keep b o e n hb hx) (I.base.free b o e n hx)
  · obtain ⟨sl,e1⟩ := I.base.slot b o e n hb hx
    obtain ⟨sl',e2⟩ := slot b _ (neL b o e) hb (neC b o e hx) e1 (I.base.free b o e n hx)
    exact ⟨sl',e2⟩
  · obtain ⟨o',e1⟩ := I.base.there b o e hx
    exact free b o' (neC b o e hx) e1 (I.base.free b o e n hx)
  · obtain ⟨o',e1⟩ := I.base.there b o e hx
    exact there b o' (neC b o e hx) e1
  · obtain ⟨m1,e1⟩ := I.base.tbls b ps e
    obtain ⟨m2,e2⟩ := tbls b _ e1
    exact ⟨m1 ++ m2,by rw [e2,Array.append_assoc]⟩
  · obtain ⟨m,hn,hl⟩ := I.loc
    refine ⟨m,ns m hn,fun i x v e1 e2 e3 => ?_⟩
    obtain ⟨u,r,l⟩ := hl i x v e1 e2 e3
    refine ⟨u,r,?_⟩
    rcases l with l | ⟨k,c,e,z⟩
    · exact .inl l
    · exact .inr ⟨k,c,e,cellK x c e _ z⟩
  · obtain ⟨v,z⟩ := I.cell x c e
    exact ⟨v,cellK x c e v z⟩
  · obtain ⟨m,⟨o,_,_,ho,_⟩,_⟩ := I.loc
    exact free _ o (fun z => (hch _ z).2.1 rfl) ho I.free
  · obtain ⟨v,o,ho,hd⟩ := I.cell x c e
    exact free c o (fun z => (hch c z).2.2.1 x c e rfl) ho (I.freeC x c e)
  · obtain ⟨e,n,ne,nf,d⟩ := I.pin p hp
    have nch : p.1 ∉ ch := fun z => (hch p.1 z).2.2.2 p hp rfl
    exact ⟨keep p.1 p.2 ne nf nch e n,free p.1 p.2 nch e n,ne,nf,d⟩
theorem Inv.un {t' : Nat} (I : Inv X pins σ H s) (u : Un X.fs [] H H' s.heap h') (hok : HOk X.prog X.w H' h') : Inv X pins σ H' { s with heap := h',toks := t' } := by
  obtain ⟨m,⟨o,es,ep,ho,r⟩,_⟩ := id I.loc
  obtain ⟨sl,hL⟩ := u.any ho I.free (by simp)
  exact I.step (g' := s.gens) (d' := s.drawn) (ch := []) (fun _ z => nomatch z) (fun b o _ hb _ e n => u.keep b o e n hb (by simp)) (fun b o _ hb _ e n => u.slot b o e n hb (by simp)) (fun b o _ e n => u.free b o e n (by simp)) (fun b o _ e => u.there b o e (by simp)) u.tups u.frzs u.tbls (fun m' hm => by
    obtain ⟨o',es',ep',ho',r'⟩ := hm
    rw [ho] at ho'; cases ho'
    exact ⟨_,es',ep',hL,r'⟩) hok I.bare
theorem Inv.call {g' : Array GenState} {t' : Nat} {d' : Drawn} {ch : List Addr} (I : Inv X pins σ H s) (u : Un (frs X.stack) ch H H' s.heap h') (hok : HOk X.prog X.w H' h') (hg : AllBare g')
    (hch : ∀ b ∈ ch,(b ∈ X.ex ∨ X.s₀.heap.objs.size ≤ b) ∧ b ≠ X.env.locals ∧ (∀ x c,X.env.cells.lookup x = some c → c ≠ b) ∧ ∀ p ∈ X.pn ++ pins,p.1 ≠ b) :
    Inv X pins σ H' { s with heap := h',gens := g',drawn := d',toks := t' } := by
  obtain ⟨m,⟨o,es,ep,ho,r⟩,_⟩ := id I.loc
  obtain ⟨sl,hL⟩ := u.any ho I.free fun z => (hch _ z).2.1 rfl
  exact I.step (ch := ch) hch (fun b o hL hb hc e n => u.keep b o e n (fun z => (List.mem_cons.mp (I.stkSub b z)).elim hL hb) hc) (fun b o _ _ hc e n => u.any e n hc) (fun b o hc e n => u.free b o e n hc) (fun b o hc e => u.there b o e hc) u.tups u.frzs u.tbls (fun m' hm => by
    obtain ⟨o',es',ep',ho',r'⟩ := hm
    rw [ho] at ho'; cases ho'
    exact ⟨_,es',ep',hL,r'⟩) hok hg
theorem Inv.turned {t' : Nat} {it : Addr} (I : Inv X pins σ H s) (k : ∀ b o,b ≠ it → s.heap.get? b = some o → h'.get? b = some o) (hn : H it = none) (hL : it ≠ X.env.locals)
    (h1 : it ∈ X.ex ∨ X.s₀.heap.objs.size ≤ it) (h2 : ∀ x c,X.env.cells.lookup x = some c → c ≠ it) (h3 : ∀ p ∈ X.pn ++ pins,p.1 ≠ it) : Inv X pins σ H { s with heap := h',toks := t' } := by
  have nit : ∀ b u,H b = some u → b ≠ it := fun b u e z => by rw [z,hn] at e; cases e
  refine I.step (g' := s.gens) (d' := s.drawn) (ch := [it]) (fun b hb => ?_) (fun b o _ _ hc e _ => k b o (fun z => hc (by simp [z])) e) (fun b o _ _ hc e _ => ⟨o.slots,k b o (fun z => hc (by simp [z])) e⟩) (fun _ _ _ _ n => n)
    (fun b o hc e => ⟨o,k b o (fun z => hc (by simp [z])) e⟩) (fun _ _ e => e) (fun _ _ _ e => e) (fun b ps e => ⟨#[],by rw [e]; simp⟩) (fun m hm => ?_) (fun b u e => ?_) I.bare
  · have e : b = it := by simpa using hb
    subst e
    exact ⟨h1,hL,h2,h3⟩
  · obtain ⟨o,es,ep,ho,r⟩ := hm
    exact ⟨o,es,ep,k _ o (Ne.symm hL) ho,r⟩
  · refine (I.hok b u e).stay (fun c v hc q => k c v ?_ q) (fun _ q => q) fun _ _ q => q
    rcases hc with z | z
    · rw [z]; exact nit b u e
    · exact nit c _ z
theorem Inv.tok (I : Inv X pins σ H s) (t : Nat) : Inv X pins σ H { s with toks := t } := I.un (h' := s.heap) (t' := t) Un.refl I.hok
theorem Inv.kept {t' : Nat} (I : Inv X pins σ H s) (k : ∀ b u,s.heap.get? b = some u → h'.get? b = some u) : Inv X pins σ H { s with heap := h',toks := t' } := I.un (Un.kept k) (I.hok.kept k)
theorem Inv.laid {a : Addr} {o : HO} {t' : Nat} (I : Inv X pins σ H s) (k : ∀ b u,s.heap.get? b = some u → h'.get? b = some u) (hp : s.heap.objs.size ≤ a) (new : ObjOk X.prog X.w (upd H a o) h' a o) :
    Inv X pins σ (upd H a o) { s with heap := h',toks := t' } := I.un (Un.laid k hp (I.hok.fresh hp)) (I.hok.laid k hp new)
theorem Inv.write {x e : Addr} {o : HO} {t' : Nat} (I : Inv X pins σ H s) (mu : Mut (H x)) (he : e = x ∨ H e = some (.own x)) (k : ∀ b u,b ≠ e → s.heap.get? b = some u → h'.get? b = some u) (heo : ∃ u,h'.get? e = some u)
    (new : ObjOk X.prog X.w (upd H x o) h' x o) : Inv X pins σ (upd H x o) { s with heap := h',toks := t' } := I.un (Un.write mu he k heo) (I.hok.write mu he k heo new)
theorem Inv.pins_of {pins' : List (Addr × Obj)} (I : Inv X pins σ H s) (h : ∀ p ∈ pins',s.heap.get? p.1 = some p.2 ∧ H p.1 = none ∧ p.1 ≠ X.env.locals ∧ p.1 ∉ X.fs ∧ ∀ v,p.2.data ≠ .cell v) : Inv X pins' σ H s :=
  ⟨I.ok,I.os,I.bare,I.base,I.loc,I.cell,I.free,I.freeC,fun p hp => (List.mem_append.mp hp).elim (fun z => I.pin p (List.mem_append_left _ z)) (h p),I.hok,I.len⟩
theorem nodup_ix {N : List Str} (hN : N.Nodup) {i j : Nat} {x : Str} (a : N[i]? = some x) (b : N[j]? = some x) : i = j := by
  obtain ⟨h1,e1⟩ := List.getElem?_eq_some_iff.mp a
  obtain ⟨h2,e2⟩ := List.getElem?_eq_some_iff.mp b
  exact (List.getElem_inj hN).mp (e1.trans e2.symm)
theorem store_ok2 {M : Model} {A : Around} {E : Value → Shared → Prop} {i : Nat} {x : Str} {v : V} {u : Value} {Q : Unit → Shared → Prop} (I : Inv X pins σ H s) (hN : X.N.Nodup) (hi : X.N[i]? = some x) (hx : Loc X.env.scope x) (r : RelV v u)
    (h : ∀ s',Inv X pins (σ.set i (some v)) H s' → (∃ a,Heap.SameBut a s.heap s'.heap ∧ (a = X.env.locals ∨ X.env.cells.lookup x = some a)) → Q () s') (hf : X.fn x = true ∨ X.env.scope.names.lookup x = some .local := by first | exact .inl rfl | exact .inr rfl | assumption) : wpAny M A (storeName X.env x u) Q E s := by
  obtain ⟨m,hn,hl⟩ := id I.loc
  have hcls : (X.env.scope.kind == .class || (X.env.scope.kind == .module && X.env.locals != X.env.globals)) = false := by rw [I.ok.kind]; rfl
  have hiσ : i < σ.length := by rw [I.len]; exact (List.getElem?_eq_some_iff.mp hi).1
  have cne := I.cne
  have tracked : ∀ {a : Addr} {h' : Heap},(∃ o,s.heap.get? a = some o ∧ H a = none) → Heap.SameBut a s.heap h' → HOk X.prog X.w H h' := fun {a h'} ha hs b ob e => by
    obtain ⟨_,_,hfree⟩ := ha
    refine (I.hok b ob e).stay (fun c w' hc q => (hs.2 c ?_).trans q) (fun _ q => q) fun _ _ q => q
    rintro rfl
    rcases hc with rfl | hc
    · rw [hfree] at e; cases e
    · rw [hfree] at hc; cases hc
  rcases hx with hk | hk
  · refine wpAny_storeName_local hk hn (fun h' hn' hs => ?_) hcls
    obtain ⟨oL,_,_,hoL,_⟩ := id hn
    refine h _ ⟨I.ok,I.os,I.bare,⟨fun b o e n hb hx => ?_,fun b o e n hb hx => ?_,I.base.free,fun b o e hx => ?_,I.base.tups,I.base.frzs,I.base.tbls⟩,⟨_,hn',fun j y v' e1 e2 e3 => ?_⟩,fun y c e => ?_,I.free,I.freeC,fun p hp => ?_,tracked ⟨oL,hoL,I.free⟩ hs,by simpa using I.len⟩ ⟨_,hs,.inl rfl⟩
    · exact (hs.2 b (Nat.ne_of_lt (Nat.lt_of_lt_of_le (Heap.lt_size e) I.ok.above))).trans (I.base.keep b o e n hb hx)
    · obtain ⟨sl,e1⟩ := I.base.slot b o e n hb hx
      exact ⟨sl,(hs.2 b (Nat.ne_of_lt (Nat.lt_of_lt_of_le (Heap.lt_size e) I.ok.above))).trans e1⟩
    · obtain ⟨o',e1⟩ := I.base.there b o e hx
      exact ⟨o',(hs.2 b (Nat.ne_of_lt (Nat.lt_of_lt_of_le (Heap.lt_size e) I.ok.above))).trans e1⟩
    · by_cases hj : j = i
      · subst hj
        rw [hi] at e1; cases e1
        rw [List.getElem?_set_self hiσ] at e2
        cases e2
        exact ⟨u,r,.inl ⟨hk,by simp⟩⟩
      · rw [List.getElem?_set_ne (Ne.symm hj)] at e2
        obtain ⟨u',r',q⟩ := hl j y v' e1 e2 e3
        refine ⟨u',r',?_⟩
        rcases q with ⟨k,e⟩ | ⟨k,c,e,z⟩
        · refine .inl ⟨k,?_⟩
          have : y ≠ x := fun e => hj (nodup_ix hN e1 (e ▸ hi))
          simp [this,e]
        · exact .inr ⟨k,c,e,z.sameBut hs (cne y c e)⟩
    · obtain ⟨w',z⟩ := I.cell y c e
      exact ⟨w',z.sameBut hs (cne y c e)⟩
    · obtain ⟨e,n,ne,nf,d⟩ := I.pin p hp
      exact ⟨(hs.2 p.1 ne).trans e,n,ne,nf,d⟩
  · have hfn : X.fn x = true := by
      rcases hf with z | z
      · exact z
      · rw [z] at hk; cases hk
    obtain ⟨c,hc⟩ := I.ok.has x (.inl hk)
    obtain ⟨w',z⟩ := I.cell x c hc
    refine wpAny_storeName_cell I.ok.kind hk hc z (fun h' hc' hs => ?_)
    obtain ⟨oc,hoc,hocd⟩ := id z
    refine h { s with heap := h' } ⟨I.ok,I.os,I.bare,⟨fun b o e n hb hx => ?_,fun b o e n hb hx => ?_,I.base.free,fun b o e hx => ?_,I.base.tups,I.base.frzs,I.base.tbls⟩,⟨m,hn.sameBut hs (Ne.symm (cne x c hc)),fun j y v' e1 e2 e3 => ?_⟩,fun y c' e => ?_,I.free,I.freeC,fun p hp => ?_,tracked ⟨oc,hoc,I.freeC x c hc⟩ hs,by simpa using I.len⟩ ⟨c,hs,.inr hc⟩
    · exact (hs.2 b (Nat.ne_of_lt (Nat.lt_of_lt_of_le (Heap.lt_size e) (I.ok.cab x c hfn hc)))).trans (I.base.keep b o e n hb hx)
    · obtain ⟨sl,e1⟩ := I.base.slot b o e n hb hx
      exact ⟨sl,(hs.2 b (Nat.ne_of_lt (Nat.lt_of_lt_of_le (Heap.lt_size e) (I.ok.cab x c hfn hc)))).trans e1⟩
    · obtain ⟨o',e1⟩ := I.base.there b o e hx
      exact ⟨o',(hs.2 b (Nat.ne_of_lt (Nat.lt_of_lt_of_le (Heap.lt_size e) (I.ok.cab x c hfn hc)))).trans e1⟩
    · by_cases hj : j = i
      · subst hj
        rw [hi] at e1; cases e1
        rw [List.getElem?_set_self hiσ] at e2
        cases e2
        exact ⟨u,r,.inr ⟨.inl hk,c,hc,hc'⟩⟩
      · rw [List.getElem?_set_ne (Ne.symm hj)] at e2
        obtain ⟨u',r',q⟩ := hl j y v' e1 e2 e3
        refine ⟨u',r',?_⟩
        rcases q with q | ⟨k,c',e,z'⟩
        · exact .inl q
        · refine .inr ⟨k,c',e,z'.sameBut hs ?_⟩
          rintro rfl
          exact hj (nodup_ix hN e1 (I.ok.inj _ _ _ e hc ▸ hi))
    · by_cases hcc : c' = c
      · subst hcc; exact ⟨_,hc'⟩
      · obtain ⟨w2,z2⟩ := I.cell y c' e
        exact ⟨w2,z2.sameBut hs hcc⟩
    · obtain ⟨e,n,ne,nf,d⟩ := I.pin p hp
      refine ⟨(hs.2 p.1 ?_).trans e,n,ne,nf,d⟩
      intro q
      rw [q,hoc] at e
      have q' : oc = p.2 := Option.some.inj e
      exact d w' (by rw [← q']; exact hocd)
theorem store_ok {M : Model} {A : Around} {E : Value → Shared → Prop} {i : Nat} {x : Str} {v : V} {u : Value} {Q : Unit → Shared → Prop} (I : Inv X pins σ H s) (hN : X.N.Nodup) (hi : X.N[i]? = some x) (hx : Loc X.env.scope x) (r : RelV v u)
    (h : ∀ s',Inv X pins (σ.set i (some v)) H s' → Q () s') (hf : X.fn x = true ∨ X.env.scope.names.lookup x = some .local := by first | exact .inl rfl | exact .inr rfl | assumption) : wpAny M A (storeName X.env x u) Q E s :=
  store_ok2 I hN hi hx r (fun s' I' _ => h s' I') hf
theorem Inv.call' {s' : Shared} {ch : List Addr} (I : Inv X pins σ H s) (ho : s'.os = s.os) (u : Un (frs X.stack) ch H H' s.heap s'.heap) (hok : HOk X.prog X.w H' s'.heap) (hg : AllBare s'.gens)
    (hch : ∀ b ∈ ch,(b ∈ X.ex ∨ X.s₀.heap.objs.size ≤ b) ∧ b ≠ X.env.locals ∧ (∀ x c,X.env.cells.lookup x = some c → c ≠ b) ∧ ∀ p ∈ X.pn ++ pins,p.1 ≠ b) : Inv X pins σ H' s' := by
  obtain ⟨h',g',d',t',o'⟩ := s'
  have e : o' = s.os := ho
  subst e
  exact I.call (g' := g') (t' := t') (d' := d') u hok hg hch
end
noncomputable abbrev XK := Value → Option Addr → Hp → Prop
noncomputable abbrev St := List (Option V)
noncomputable abbrev VK := V → Hp → Prop
noncomputable abbrev TE := St → Hp → VK → Prop
noncomputable abbrev TT := St → Hp → (Bool → Hp → Prop) → Prop
noncomputable abbrev TA := St → Hp → (List V → Hp → Prop) → Prop
structure Ends where
  nx : St → Hp → Prop
  rt : VK
  bk : St → Hp → Prop := fun _ _ => False
  ct : St → Hp → Prop := fun _ _ => False
noncomputable abbrev TS := Ends → St → Hp → Prop
noncomputable def Ends.sq (D : Ends) (u : TS) : Ends := { D with nx := u D }
noncomputable def Ends.lp (D : Ends) (N : St → Hp → Prop) : Ends := { D with nx := N,ct := N,bk := D.nx }
noncomputable def EP (X : Cx) (pins : List (Addr × Obj)) (σ : St) (Q : VK) (u : Value) (s' : Shared) : Prop := ∃ v H',Inv X pins σ H' s' ∧ RelV v u ∧ Q v H'
noncomputable def TP (X : Cx) (pins : List (Addr × Obj)) (σ : St) (Q : Bool → Hp → Prop) (b : Bool) (s' : Shared) : Prop := ∃ H',Inv X pins σ H' s' ∧ Q b H'
noncomputable def AP (X : Cx) (pins : List (Addr × Obj)) (σ : St) (Q : List V → Hp → Prop) (us : List Value) (s' : Shared) : Prop := ∃ vs H',Inv X pins σ H' s' ∧ Vals vs us ∧ Q vs H'
noncomputable def SP (X : Cx) (pins : List (Addr × Obj)) (D : Ends) (f : Flow) (s' : Shared) : Prop :=
  match f with
  | .next => ∃ σ' H',Inv X pins σ' H' s' ∧ D.nx σ' H'
  | .brk => ∃ σ' H',Inv X pins σ' H' s' ∧ D.bk σ' H'
  | .cont => ∃ σ' H',Inv X pins σ' H' s' ∧ D.ct σ' H'
  | .ret u => ∃ v σ' H',Inv X pins σ' H' s' ∧ RelV v u ∧ D.rt v H'
noncomputable def PE (X : Cx) (e : Expr) (t : TE) : Prop :=
  ∀ (pins : List (Addr × Obj)) (s : Shared) (σ : St) (H : Hp) (Q : VK),Inv X pins σ H s → t σ H Q → wpAny (model X.prog X.w) X.A (eval e X.env) (EP X pins σ Q) X.xe s
noncomputable def PT (X : Cx) (e : Expr) (t : TT) : Prop :=
  ∀ (pins : List (Addr × Obj)) (s : Shared) (σ : St) (H : Hp) (Q : Bool → Hp → Prop),Inv X pins σ H s → t σ H Q → wpAny (model X.prog X.w) X.A (isTrue e X.env (eval e X.env)) (TP X pins σ Q) X.xe s
noncomputable def PW (X : Cx) (e : Expr) (t : TT) : Prop :=
  ∀ (whole : Sem Value) (pins : List (Addr × Obj)) (s : Shared) (σ : St) (H : Hp) (Q : Bool → Hp → Prop),Inv X pins σ H s → t σ H Q → wpAny (model X.prog X.w) X.A (isTrue e X.env whole) (TP X pins σ Q) X.xe s
theorem PW.pt {X : Cx} {e : Expr} {t : TT} (h : PW X e t) : PT X e t := h _
noncomputable def PA (X : Cx) (es : List Expr) (t : TA) : Prop :=
  ∀ (pos : Pos) (pins : List (Addr × Obj)) (s : Shared) (σ : St) (H : Hp) (Q : List V → Hp → Prop),Inv X pins σ H s → t σ H Q → wpAny (model X.prog X.w) X.A (spliced (backTo pos (starEach es X.env))) (AP X pins σ Q) X.xe s
noncomputable def PS (X : Cx) (st : Stmt) (t : TS) : Prop :=
  ∀ (pins : List (Addr × Obj)) (s : Shared) (σ : St) (H : Hp) (D : Ends),Inv X pins σ H s → t D σ H → wpAny (model X.prog X.w) X.A (exec st X.env) (SP X pins D) X.xe s
noncomputable def PSs (X : Cx) (st : List Stmt) (t : TS) : Prop :=
  ∀ (pins : List (Addr × Obj)) (s : Shared) (σ : St) (H : Hp) (D : Ends),Inv X pins σ H s → t D σ H → wpAny (model X.prog X.w) X.A (execs st X.env) (SP X pins D) X.xe s
theorem thn {α : Type} {t : Sem α} {Q Q' : α → Shared → Prop} {M : Model} {A : Around} {E : Value → Shared → Prop} {s : Shared} (h : wpAny M A t Q E s) (hQ : ∀ a s,Q a s → Q' a s) : wpAny M A t Q' E s := wpAny_mono h hQ fun _ _ x => x
end L2
namespace L2
open PySem PySem.Spec PyProof.Rows
section
variable {X : Cx}
inductive VarP (i : Nat) (σ : St) (H : Hp) (Q : VK) : Prop
  | mk (v : V) (e : σ[i]? = some (some v)) (q : Q v H) : VarP i σ H Q
noncomputable def tVar (i : Nat) : TE := VarP i
noncomputable def tC (v : V) : TE := fun _ H Q => Q v H
theorem pe_var {i : Nat} {x : Str} {pos : Pos} (hN : X.N[i]? = some x) (hv : Vis X.env.scope x) (hd : (x == ("__debug__" : Str)) = false := by decide) (hcd : (x == ("__classdict__" : Str)) = false := by decide) : PE X (.Name x pos) (tVar i) := by
  intro pins s σ H Q I h
  obtain ⟨v,e,h⟩ := h
  obtain ⟨m,hn,hl⟩ := I.loc
  obtain ⟨u,r,l⟩ := hl i x v hN e hv
  have fin : EP X pins σ Q u s := ⟨v,H,I,r,h⟩
  rcases l with ⟨hk,hm⟩ | ⟨hk,c,hc,hcell⟩
  · exact wpAny_Name (wpAny_loadName_local I.ok.kind hk hn hm fin) hd
  · rcases hk with hk | hk
    · exact wpAny_Name (wpAny_loadName_cell I.ok.kind hk hc hcell fin) hd
    · exact wpAny_Name (wpAny_loadName_free I.ok.kind hk hc hcell fin hcd) hd
theorem pe_int {i j pos} : PE X (.Constant (.int i) j pos) (tC (.int i)) := fun _ _ _ H _ I h => wpAny_Constant_int ⟨.int i,H,I.tok _,⟨_,rfl⟩,h⟩
theorem pe_bl {b j pos} : PE X (.Constant (.bool b) j pos) (tC (.bl b)) := fun _ _ _ H _ I h => Constant_bool ⟨.bl b,H,I,rfl,h⟩
theorem pe_non {j pos} : PE X (.Constant .none j pos) (tC .non) := fun _ _ _ H _ I h => Constant_none ⟨.non,H,I,rfl,h⟩
theorem pe_str {x j pos} : PE X (.Constant (.str x) j pos) (tC (.str x)) := fun _ _ _ H _ I h => Calls.Constant_str ⟨.str x,H,I.tok _,⟨_,rfl⟩,h⟩
noncomputable def Gl (X : Cx) (x : Str) : Prop := X.env.kindOf x = some .globalImplicit
theorem ld_glob {E : Value → Shared → Prop} {pins : List (Addr × Obj)} {s : Shared} {σ : St} {H : Hp} {x : Str} {u : Value} {pos : Pos} {Q : Value → Shared → Prop} (I : Inv X pins σ H s) (hg : Gl X x) (hm : X.mg x = some u) (h : Q u s)
    (hd : (x == ("__debug__" : Str)) = false := by decide) : wpAny (model X.prog X.w) X.A (eval (.Name x pos) X.env) Q E s :=
  Calls.Name_function_global I.ok.kind hg (Calls.loadGlobal_global (by rw [I.ok.glob]; exact I.mod.glob.keeps I.bk) hm h) hd
theorem ld_blt {E : Value → Shared → Prop} {pins : List (Addr × Obj)} {s : Shared} {σ : St} {H : Hp} {x : Str} {u : Value} {pos : Pos} {Q : Value → Shared → Prop} (I : Inv X pins σ H s) (hg : Gl X x) (hm : X.mg x = none) (hv : bootBuiltins x = some u) (h : Q u s)
    (hn : x ≠ "__name__" := by decide) (hd : (x == ("__debug__" : Str)) = false := by decide) : wpAny (model X.prog X.w) X.A (eval (.Name x pos) X.env) Q E s := by
  obtain ⟨mb,h1,h2⟩ := I.mod.blt
  exact Calls.Name_function_global I.ok.kind hg (Calls.loadGlobal_builtin (by rw [I.ok.glob]; exact I.mod.glob.keeps I.bk) hm (by rw [I.ok.blt]; exact h1.keeps I.bk) ((h2 x hn).trans hv) h) hd
theorem pe_glob {x : Str} {v : V} {u : Value} {pos : Pos} (hg : Gl X x) (hm : X.mg x = some u) (r : RelV v u) (hd : (x == ("__debug__" : Str)) = false := by decide) : PE X (.Name x pos) (tC v) :=
  fun _ _ _ H _ I h => ld_glob I hg hm ⟨v,H,I,r,h⟩ hd
theorem pe_bltn {x : Str} {v : V} {u : Value} {pos : Pos} (hg : Gl X x) (hm : X.mg x = none) (hv : bootBuiltins x = some u) (r : RelV v u) (hn : x ≠ "__name__" := by decide) (hd : (x == ("__debug__" : Str)) = false := by decide) : PE X (.Name x pos) (tC v) :=
  fun _ _ _ H _ I h => ld_blt I hg hm hv ⟨v,H,I,r,h⟩ hn hd
variable {a b : Expr} {ta tb : TE} {pos : Pos}
noncomputable def PC (X : Cx) (op : CmpOp) (a b : Expr) (t : TE) : Prop :=
  ∀ (pins : List (Addr × Obj)) (s : Shared) (σ : St) (H : Hp) (Q : VK),Inv X pins σ H s → t σ H Q →
    wpAny (model X.prog X.w) X.A (eval a X.env) (fun v s₁ => wpAny (model X.prog X.w) X.A (eval b X.env) (fun u s₂ => wpAny (model X.prog X.w) X.A (compareOp op v u) (EP X pins σ Q) X.xe s₂) X.xe s₁) X.xe s
theorem nobehind (b : Expr) {op : CmpOp} (h : op ≠ .In) (h2 : op ≠ .NotIn) : behindInMarks op b = false := by
  have e1 : (op == CmpOp.In) = false := by cases op <;> first | rfl | exact absurd rfl h
  have e2 : (op == CmpOp.NotIn) = false := by cases op <;> first | rfl | exact absurd rfl h2
  cases b <;> simp [behindInMarks,e1,e2]
noncomputable def tIsN (ta : TE) : TE := fun σ H Q => ta σ H fun x H1 => Q (.bl (decide (x = .non))) H1
theorem RelV.none_iff {x : V} {v : Value} (r : RelV x v) : (v == Value.none) = decide (x = .non) := by
  cases x with
  | non => cases r; rfl
  | bl _ => cases r; rfl
  | int _ => obtain ⟨t,rfl⟩ := r; rfl
  | str _ => obtain ⟨t,rfl⟩ := r; rfl
  | byt _ => obtain ⟨t,rfl⟩ := r; rfl
  | flt _ => obtain ⟨t,rfl⟩ := r; rfl
  | ref _ => cases r; rfl
  | ty _ => cases r; rfl
theorem pc_isN {j pos'} (ha : PE X a ta) : PC X .Is a (.Constant .none j pos') (tIsN ta) := by
  intro pins s σ H Q I h
  refine thn (ha pins s σ H _ I h) fun v s1 zy => ?_
  obtain ⟨x,H1,I1,r1,q1⟩ := zy
  exact Constant_none (is_none_gen ⟨.bl _,H1,I1,by rw [r1.none_iff]; rfl,q1⟩)
inductive BlP (Q : Bool → Hp → Prop) (x : V) (H : Hp) : Prop
  | mk (c : Bool) (e : x = .bl c) (q : Q c H) : BlP Q x H
noncomputable def tB (t : TE) : TT := fun σ H Q => t σ H (BlP Q)
theorem pt_cmp {op : CmpOp} {t : TE} (h : PC X op a b t) (h1 : behindInMarks op b = false := by first | exact nobehind _ (by decide) (by decide) | rfl) : PT X (.Compare a [op] [b] pos) (tB t) := by
  intro pins s σ H Q I hw
  refine wpAny_isTrue_Compare1 (thn (h pins s σ H _ I hw) fun v s1 h1 => thn h1 fun u s2 h2 => thn h2 fun c s3 zy => ?_) h1
  obtain ⟨x,H1,I1,r1,q1⟩ := zy
  obtain ⟨d,rfl,q⟩ := q1
  cases r1
  exact wpAny_truthy_bool ⟨H1,I1,q⟩
theorem pt_val {e : Expr} {t : TE} (h : PE X e t) (he : ∀ whole,isTrue e X.env whole = (do let v ← whole; standAt e.pos; holding [v] (truthy v)) := by intro _; rfl) : PT X e (tB t) := by
  intro pins s σ H Q I hw
  refine isTrue_plain (thn (h pins s σ H _ I hw) fun v s1 zy => ?_) (he _)
  obtain ⟨x,H1,I1,r1,q1⟩ := zy
  obtain ⟨d,rfl,q⟩ := q1
  cases r1
  exact wpAny_truthy_bool ⟨H1,I1,q⟩
variable {tA tB' : TT} {rest : List Expr}
noncomputable def tAnd (t u : TT) : TT := fun σ H Q => t σ H fun c H1 => if c = true then u σ H1 Q else Q false H1
noncomputable def tOr (t u : TT) : TT := fun σ H Q => t σ H fun c H1 => if c = true then Q true H1 else u σ H1 Q
noncomputable def tNot (t : TT) : TT := fun σ H Q => t σ H fun c H1 => Q (!c) H1
theorem pw_and1 (ha : PT X a tA) : PW X (.BoolOp .And [a] pos) tA := by
  intro wh pins s σ H Q I h
  refine isTrue_and (thn (ha pins s σ H Q I h) fun c s1 e => ?_)
  cases c with
  | true => exact isTrue_and_nil e
  | false => exact e
theorem pw_or1 (ha : PT X a tA) : PW X (.BoolOp .Or [a] pos) tA := by
  intro wh pins s σ H Q I h
  refine isTrue_or (thn (ha pins s σ H Q I h) fun c s1 e => ?_)
  cases c with
  | false => exact isTrue_or_nil e
  | true => exact e
theorem pw_and (ha : PT X a tA) (hb : PW X (.BoolOp .And (b :: rest) pos) tB') : PW X (.BoolOp .And (a :: b :: rest) pos) (tAnd tA tB') := by
  intro wh pins s σ H Q I h
  refine isTrue_and (thn (ha pins s σ H _ I h) fun c s1 zy => ?_)
  obtain ⟨H1,I1,q1⟩ := zy
  cases c with
  | true => exact hb wh pins s1 σ H1 Q I1 q1
  | false => exact ⟨H1,I1,q1⟩
theorem pw_or (ha : PT X a tA) (hb : PW X (.BoolOp .Or (b :: rest) pos) tB') : PW X (.BoolOp .Or (a :: b :: rest) pos) (tOr tA tB') := by
  intro wh pins s σ H Q I h
  refine isTrue_or (thn (ha pins s σ H _ I h) fun c s1 zy => ?_)
  obtain ⟨H1,I1,q1⟩ := zy
  cases c with
  | true => exact ⟨H1,I1,q1⟩
  | false => exact hb wh pins s1 σ H1 Q I1 q1
theorem pt_not (ha : PT X a tA) : PT X (.UnaryOp .Not a pos) (tNot tA) := by
  intro pins s σ H Q I h
  exact isTrue_not (ha pins s σ H (fun c H1 => Q (!c) H1) I h)
noncomputable def tAndV (ta tb : TE) : TE := fun σ H Q => ta σ H fun x H1 => ∃ c,x = .bl c ∧ if c = true then tb σ H1 Q else Q (.bl false) H1
noncomputable def tNotV (ta : TE) : TE := fun σ H Q => ta σ H fun x H1 => ∃ c,x = .bl c ∧ Q (.bl (!c)) H1
theorem pe_one {op} {t : TE} (h : PE X a t) : PE X (.BoolOp op [a] pos) t := fun pins s σ H Q I hw => BoolOp_one (h pins s σ H Q I hw)
theorem pe_and (ha : PE X a ta) (hb : PE X (.BoolOp .And (b :: rest) pos) tb) : PE X (.BoolOp .And (a :: b :: rest) pos) (tAndV ta tb) := by
  intro pins s σ H Q I h
  refine BoolOp_and (thn (ha pins s σ H _ I h) fun v s1 zy => ?_)
  obtain ⟨x,H1,I1,r1,q1⟩ := zy
  obtain ⟨c,rfl,q1⟩ := q1
  cases r1
  refine wpAny_truthy_bool ?_
  cases c with
  | true => exact hb pins s1 σ H1 Q I1 q1
  | false => exact ⟨.bl false,H1,I1,rfl,q1⟩
theorem pe_not (ha : PE X a ta) : PE X (.UnaryOp .Not a pos) (tNotV ta) := by
  intro pins s σ H Q I h
  refine UnaryOp_ (thn (ha pins s σ H _ I h) fun v s1 zy => ?_)
  obtain ⟨x,H1,I1,r1,q1⟩ := zy
  obtain ⟨c,rfl,q1⟩ := q1
  cases r1
  exact not_of (wpAny_truthy_bool ⟨.bl (!c),H1,I1,rfl,q1⟩)
noncomputable def tIf (t : TT) (ta tb : TE) : TE := fun σ H Q => t σ H fun c H1 => if c = true then ta σ H1 Q else tb σ H1 Q
theorem pe_ifExp {c : Expr} (hc : PT X c tA) (ha : PE X a ta) (hb : PE X b tb) : PE X (.IfExp c a b pos) (tIf tA ta tb) := by
  intro pins s σ H Q I h
  refine wpAny_IfExp (thn (hc pins s σ H _ I h) fun d s1 zy => ?_)
  obtain ⟨H1,I1,q1⟩ := zy
  cases d with
  | true => exact ha pins s1 σ H1 Q I1 q1
  | false => exact hb pins s1 σ H1 Q I1 q1
end
end L2
namespace L2
open PySem PySem.Spec PyProof.Rows
noncomputable def SqL (K : PySem.W.Frag) (H : Hp) (a : Addr) (xs : List V) : Prop :=
  Rd H a (.lst xs) ∨
    ∃ (o : Obj) (its : Array Value) (n : Nat),K.lookup a = some o ∧ o.cls = .type "list" ∧ o.dict = none ∧ o.data = .seq its n ∧ its.size ≤ sizeLine ∧ Vals xs its.toList
noncomputable def SqT (K : PySem.W.Frag) (H : Hp) (a : Addr) (xs : List V) : Prop :=
  Rd H a (.tup xs) ∨
    ∃ (o : Obj) (its : Array Value) (n : Nat),K.lookup a = some o ∧ o.cls = .type "tuple" ∧ o.data = .seq its n ∧ its.size ≤ sizeLine ∧ Vals xs its.toList
noncomputable def absV : Value → Option V
  | .none => some .non
  | .bool b => some (.bl b)
  | .int i _ => some (.int i)
  | .str x _ => some (.str x)
  | .bytes b _ => some (.byt b)
  | .float b _ => some (.flt b)
  | .ref a => some (.ref a)
  | .type n => some (.ty n)
  | _ => none
theorem RelV.abs {x : V} {u : Value} (r : RelV x u) : absV u = some x := by
  cases x with
  | non => cases r; rfl
  | bl _ => cases r; rfl
  | int _ => obtain ⟨t,rfl⟩ := r; rfl
  | str _ => obtain ⟨t,rfl⟩ := r; rfl
  | byt _ => obtain ⟨t,rfl⟩ := r; rfl
  | flt _ => obtain ⟨t,rfl⟩ := r; rfl
  | ref _ => cases r; rfl
  | ty _ => cases r; rfl
theorem RelV.inj {x y : V} {u : Value} (r : RelV x u) (q : RelV y u) : x = y := Option.some.inj (r.abs.symm.trans q.abs)
theorem Vals.inj : ∀ {xs ys : List V} {us : List Value},Vals xs us → Vals ys us → xs = ys := by
  intro xs ys us h
  induction h generalizing ys with
  | nil => intro g; cases g; rfl
  | cons r t ih =>
    intro g
    cases g with
    | cons r' t' => rw [r.inj r',ih t']
section
variable {X : Cx} {pins : List (Addr × Obj)} {σ : St} {H : Hp} {s : Shared} {a : Addr} {xs ys : List V}
theorem SqL.of {K : PySem.W.Frag} (h : H a = some (.lst xs)) : SqL K H a xs := .inl (.inl h)
theorem SqT.of {K : PySem.W.Frag} (h : H a = some (.tup xs)) : SqT K H a xs := .inl (.inl h)
theorem Inv.list (I : Inv X pins σ H s) (h : SqL X.K H a xs) : ∃ its : List Value,Vals xs its ∧ PlainL s.heap a its.toArray ∧ xs.length ≤ sizeLine := by
  rcases h with h | ⟨o,its,n,hk,hc,hd,hs,hz,r⟩
  · obtain ⟨z,its,n,r,e⟩ := h.ok I.hok
    exact ⟨its,r,⟨_,n,e,rfl,rfl,rfl⟩,z⟩
  · refine ⟨its.toList,r,⟨o,n,I.kIn a o hk,hc,hd,by simpa using hs⟩,?_⟩
    have e := r.length
    simp only [Array.length_toList] at e
    omega
theorem Inv.tuple (I : Inv X pins σ H s) (h : SqT X.K H a xs) : ∃ its : List Value,Vals xs its ∧ IsTup s.heap a its.toArray ∧ xs.length ≤ sizeLine := by
  rcases h with h | ⟨o,its,n,hk,hc,hs,hz,r⟩
  · obtain ⟨z,its,r,p⟩ := h.ok I.hok
    exact ⟨its,r,p,z⟩
  · refine ⟨its.toList,r,⟨o,I.kIn a o hk,hc,n,by simpa using hs⟩,?_⟩
    have e := r.length
    simp only [Array.length_toList] at e
    omega
theorem Inv.list_inj (I : Inv X pins σ H s) (h : SqL X.K H a xs) (h' : SqL X.K H a ys) : xs = ys := by
  obtain ⟨its,r,⟨o,n,e,_,_,d⟩,_⟩ := I.list h
  obtain ⟨its',r',⟨o',n',e',_,_,d'⟩,_⟩ := I.list h'
  rw [e] at e'; cases e'
  rw [d] at d'
  injection d' with d1 _
  have : its = its' := by simpa using congrArg Array.toList d1
  subst this
  exact r.inj r'
theorem Inv.tuple_inj (I : Inv X pins σ H s) (h : SqT X.K H a xs) (h' : SqT X.K H a ys) : xs = ys := by
  obtain ⟨its,r,⟨o,e,_,n,d⟩,_⟩ := I.tuple h
  obtain ⟨its',r',⟨o',e',_,n',d'⟩,_⟩ := I.tuple h'
  rw [e] at e'; cases e'
  rw [d] at d'
  injection d' with d1 _
  have : its = its' := by simpa using congrArg Array.toList d1
  subst this
  exact r.inj r'
end
noncomputable abbrev Cx.wish (X : Cx) (E : Value → Shared → Prop) : Cx := { X with xe := E }
noncomputable abbrev Cx.nox (X : Cx) : Cx := X.wish fun _ _ => False
theorem Cx.Ok.wish {X : Cx} (ok : X.Ok) (E : Value → Shared → Prop) : (X.wish E).Ok :=
  ⟨ok.mod,ok.kind,ok.glob,ok.blt,ok.above,ok.inj,ok.has,ok.cab,ok.hd,ok.frames,ok.stk,ok.exf,ok.bs,ok.bsz,ok.noex,ok.exfs,ok.funs,ok.frf⟩
theorem Cx.Ok.unwish {X : Cx} {E : Value → Shared → Prop} (ok : (X.wish E).Ok) : X.Ok :=
  ⟨ok.mod,ok.kind,ok.glob,ok.blt,ok.above,ok.inj,ok.has,ok.cab,ok.hd,ok.frames,ok.stk,ok.exf,ok.bs,ok.bsz,ok.noex,ok.exfs,ok.funs,ok.frf⟩
section
variable {X : Cx} {pins : List (Addr × Obj)} {σ : St} {H : Hp} {s : Shared} {E : Value → Shared → Prop}
theorem Inv.wish (I : Inv X pins σ H s) (E : Value → Shared → Prop) : Inv (X.wish E) pins σ H s := ⟨I.ok.wish E,I.os,I.bare,I.base,I.loc,I.cell,I.free,I.freeC,I.pin,I.hok,I.len⟩
theorem Inv.unwish (I : Inv (X.wish E) pins σ H s) : Inv X pins σ H s := ⟨I.ok.unwish,I.os,I.bare,I.base,I.loc,I.cell,I.free,I.freeC,I.pin,I.hok,I.len⟩
theorem SP.unwish {D : Ends} {f : Flow} {s' : Shared} (h : SP (X.wish E) pins D f s') : SP X pins D f s' := by
  cases f with
  | next => obtain ⟨σ',H',I,q⟩ := h; exact ⟨σ',H',I.unwish,q⟩
  | brk => obtain ⟨σ',H',I,q⟩ := h; exact ⟨σ',H',I.unwish,q⟩
  | cont => obtain ⟨σ',H',I,q⟩ := h; exact ⟨σ',H',I.unwish,q⟩
  | ret u => obtain ⟨v,σ',H',I,r,q⟩ := h; exact ⟨v,σ',H',I.unwish,r,q⟩
theorem PSs.nox {st : List Stmt} {t : TS} (h : PSs X.nox st t) : PSs X st t := fun pins s σ H D I hw =>
  wpAny_mono (h pins s σ H D (I.wish _) hw) (fun _ _ q => q.unwish) fun _ _ z => False.elim z
end
section
variable {X : Cx} {st : Stmt} {rest : List Stmt} {t u : TS} {e : Expr} {te : TE} {pos : Pos}
noncomputable def tNext : TS := fun D σ H => D.nx σ H
noncomputable def tSeq (t u : TS) : TS := fun D σ H => t (D.sq u) σ H
theorem pss_nil : PSs X [] tNext := fun _ _ σ H _ I h => wpAny_execs_nil ⟨σ,H,I,h⟩
theorem pss_cons (h1 : PS X st t) (h2 : PSs X rest u) : PSs X (st :: rest) (tSeq t u) := by
  intro pins s σ H D I h
  refine wpAny_execs_cons (thn (h1 pins s σ H { D with nx := u D } I h) fun f s1 q => ?_)
  cases f with
  | next =>
    obtain ⟨σ',H',I',q⟩ := q
    exact h2 pins s1 σ' H' D I' q
  | ret v => exact q
  | brk => exact q
  | cont => exact q
theorem pss_one (h1 : PS X st t) : PSs X [st] t := by
  intro pins s σ H D I h
  refine wpAny_execs_cons (thn (h1 pins s σ H D I h) fun f s1 q => ?_)
  cases f with
  | next => exact wpAny_execs_nil q
  | ret v => exact q
  | brk => exact q
  | cont => exact q
theorem Inv.quiet {pins : List (Addr × Obj)} {σ : St} {H : Hp} {s : Shared} (I : Inv X pins σ H s) : interactive X.env = false := by simp [interactive,I.ok.kind]
noncomputable def tDrop (te : TE) : TS := fun D σ H => te σ H fun _ H1 => D.nx σ H1
theorem ps_expr (he : PE X e te) (hs : swapsWith e none pos.line X.env = pure false := by rfl) : PS X (.Expr e pos) (tDrop te) := by
  intro pins s σ H D I h
  exact wpAny_Expr_any (thn (he pins s σ H _ I h) fun v s1 ⟨x,H1,I1,r1,q1⟩ => ⟨σ,H1,I1,q1⟩) I.quiet hs
noncomputable def tRet (te : TE) : TS := fun D σ H => te σ H D.rt
theorem ps_ret (he : PE X e te) : PS X (.Return (some e) pos) (tRet te) := by
  intro pins s σ H D I h
  exact wpAny_Return_some (thn (he pins s σ H _ I h) fun v s1 ⟨x,H1,I1,r1,q1⟩ => ⟨x,σ,H1,I1,r1,q1⟩)
noncomputable def tIfS (c : TT) (t u : TS) : TS := fun D σ H => c σ H fun b H1 => if b = true then t D σ H1 else u D σ H1
theorem ps_if {c : Expr} {a b : List Stmt} {tc : TT} (hc : PT X c tc) (ha : PSs X a t) (hb : PSs X b u) : PS X (.If c a b pos) (tIfS tc t u) := by
  intro pins s σ H D I h
  refine wpAny_If (thn (hc pins s σ H _ I h) fun d s1 zy => ?_)
  obtain ⟨H1,I1,q1⟩ := zy
  cases d with
  | true => exact ha pins s1 σ H1 D I1 q1
  | false => exact hb pins s1 σ H1 D I1 q1
end
noncomputable abbrev TG := V → St → Hp → (St → Hp → Prop) → Prop
noncomputable abbrev TGs := List V → St → Hp → (St → Hp → Prop) → Prop
noncomputable def PG (X : Cx) (target : Expr) (t : TG) : Prop :=
  ∀ (pins : List (Addr × Obj)) (s : Shared) (σ : St) (H : Hp) (v : V) (u : Value) (Q : St → Hp → Prop),Inv X pins σ H s → RelV v u → t v σ H Q →
    wpAny (model X.prog X.w) X.A (assign target X.env u) (fun _ s' => ∃ σ' H',Inv X pins σ' H' s' ∧ Q σ' H') X.xe s
noncomputable def PGs (X : Cx) (ts : List Expr) (t : TGs) : Prop :=
  ∀ (pins : List (Addr × Obj)) (s : Shared) (σ : St) (H : Hp) (vs : List V) (us : List Value) (Q : St → Hp → Prop),Inv X pins σ H s → Vals vs us → t vs σ H Q →
    wpAny (model X.prog X.w) X.A (assignInOrder ((assignEach ts X.env).map (·.2)) us) (fun _ s' => ∃ σ' H',Inv X pins σ' H' s' ∧ Q σ' H') X.xe s
noncomputable abbrev TSet := V → V → V → Hp → (Hp → Prop) → Prop
noncomputable def PSet (X : Cx) (t : TSet) : Prop :=
  ∀ (pins : List (Addr × Obj)) (s : Shared) (σ : St) (H : Hp) (o i v : V) (ov iv u : Value) (Q : Hp → Prop),Inv X pins σ H s → RelV o ov → RelV i iv → RelV v u → t o i v H Q →
    wpAny (model X.prog X.w) X.A (setItem ov iv u) (fun _ s' => ∃ H',Inv X pins σ H' s' ∧ Q H') X.xe s
noncomputable abbrev TIp := V → V → Hp → VK → Prop
noncomputable def PIp (X : Cx) (op : Operator) (t : TIp) : Prop :=
  ∀ (pins : List (Addr × Obj)) (s : Shared) (σ : St) (H : Hp) (x y : V) (v u : Value) (Q : VK),Inv X pins σ H s → RelV x v → RelV y u → t x y H Q →
    wpAny (model X.prog X.w) X.A (inplaceOp op v u) (EP X pins σ Q) X.xe s
section
variable {X : Cx} {pos : Pos}
noncomputable def gName (i : Nat) : TG := fun v σ H Q => Q (σ.set i (some v)) H
theorem pg_name {i : Nat} {x : Str} (hN : X.N.Nodup) (hi : X.N[i]? = some x) (hx : Loc X.env.scope x) (hf : X.fn x = true ∨ X.env.scope.names.lookup x = some .local := by first | exact .inl rfl | exact .inr rfl | assumption) : PG X (.Name x pos) (gName i) := by
  intro pins s σ H v u Q I r h
  exact wpAny_assign_Name (store_ok I hN hi hx r (fun s' I' => ⟨_,H,I',h⟩) hf)
noncomputable def gNil : TGs := fun vs σ H Q => vs = [] ∧ Q σ H
noncomputable def gCons (t : TG) (u : TGs) : TGs := fun vs σ H Q => ∃ v r,vs = v :: r ∧ t v σ H fun σ' H' => u r σ' H' Q
theorem pgs_nil : PGs X [] gNil := by
  intro pins s σ H vs us Q I r h
  obtain ⟨e,h⟩ := h
  subst e
  cases r
  exact assignInOrder_nil ⟨σ,H,I,h⟩
theorem pgs_cons {e : Expr} {es : List Expr} {t : TG} {u : TGs} (h1 : PG X e t) (h2 : PGs X es u)
    (hs : (assignEach (e :: es) X.env).map (·.2) = assign e X.env :: (assignEach es X.env).map (·.2) := by rfl) : PGs X (e :: es) (gCons t u) := by
  intro pins s σ H vs us Q I r h
  obtain ⟨v,vr,e1,h⟩ := h
  subst e1
  cases r with
  | cons r rr =>
    rw [hs]
    refine assignInOrder_cons (thn (h1 pins s σ H _ _ _ I r h) fun _ s1 zy => ?_)
    obtain ⟨σ1,H1,I1,q1⟩ := zy
    exact h2 pins s1 σ1 H1 _ _ Q I1 rr q1
noncomputable def gTup (K : PySem.W.Frag) (n : Nat) (t : TGs) : TG := fun v σ H Q => ∃ a xs,v = .ref a ∧ SqT K H a xs ∧ xs.length = n ∧ t xs σ H Q
theorem pg_tup {es : List Expr} {k : Nat} {t : TGs} {n : Nat} (hc : X.calm = true) (h : PGs X es t)
    (hn : (assignEach es X.env).length = n := by rfl) (hst : (assignEach es X.env).findIdx? (·.1) = none := by rfl) : PG X (.Tuple es k pos) (gTup X.K n t) := by
  intro pins s σ H v u Q I r hw
  obtain ⟨a,xs,e1,hq,hl,hw⟩ := hw
  subst e1
  cases r
  obtain ⟨its,rv,ht,hz⟩ := I.tuple hq
  refine assign_Tuple_tuple (I.ok.hd hc) ht (by simp [hn,← hl,rv.length]) hst fun h' hx => ?_
  have I1 : Inv X pins σ H { s with heap := h' } := I.kept (t' := s.toks) fun b o e => hx b o (Nat.ne_of_lt (Heap.lt_size e)) e
  exact h pins _ σ H xs _ Q I1 (by simpa using rv) hw
noncomputable def gSub (to ti : TE) (t : TSet) : TG := fun v σ H Q => to σ H fun o H1 => ti σ H1 fun i H2 => t o i v H2 fun H3 => Q σ H3
theorem pg_sub {o i : Expr} {to ti : TE} {t : TSet} (ho : PE X o to) (hi : PE X i ti) (hs : PSet X t)
    (ha : ∀ v,assign (.Subscript o i pos) X.env v = (do
      let ov ← holding [v] (eval o X.env)
      let iv ← holding [v,ov] (eval i X.env)
      standAt pos
      holding [v,ov,iv] (setItem ov iv v)
      release [v,ov,iv] []) := by intro _; rfl) : PG X (.Subscript o i pos) (gSub to ti t) := by
  intro pins s σ H v u Q I r h
  rw [ha]
  refine wpAny_bind (wpAny_holding (thn (ho pins s σ H _ I h) fun ov s1 zy => ?_))
  obtain ⟨x,H1,I1,r1,q1⟩ := zy
  refine wpAny_bind (wpAny_holding (thn (hi pins s1 σ H1 _ I1 q1) fun iv s2 zy => ?_))
  obtain ⟨y,H2,I2,r2,q2⟩ := zy
  refine wpAny_bind (wpAny_standAt (wpAny_bind (wpAny_holding (thn (hs pins s2 σ H2 x y v ov iv u _ I2 r1 r2 r q2) fun _ s3 zy => ?_))))
  obtain ⟨H3,I3,q3⟩ := zy
  exact wpAny_release ⟨σ,H3,I3,q3⟩
noncomputable def tAsg (te : TE) (g : TG) : TS := fun D σ H => te σ H fun x H1 => g x σ H1 D.nx
theorem ps_asg {tg e : Expr} {te : TE} {g : TG} (he : PE X e te) (hg : PG X tg g) (hs : swapsWithSole [tg] e pos.line X.env = pure false := by rfl) (hw : swappedStores [tg] e X.env = pure none := by rfl)
    (h1 : (assignEach [tg] X.env).map (·.2) = [assign tg X.env] := by rfl) : PS X (.Assign [tg] e pos) (tAsg te g) := by
  intro pins s σ H D I h
  refine wpAny_Assign_stores (thn (he pins s σ H _ I h) fun v s1 zy => ?_) hs hw
  obtain ⟨x,H1,I1,r1,q1⟩ := zy
  rw [h1]
  exact thn (hg pins s1 σ H1 x v _ I1 r1 q1) fun _ s2 q => q
theorem ps_set {i : Nat} {x : Str} {e : Expr} {te : TE} {pos' : Pos} (hN : X.N.Nodup) (hi : X.N[i]? = some x) (hx : Loc X.env.scope x) (he : PE X e te) (hs : swapsWith e (some (.Name x pos')) pos.line X.env = pure false := by rfl) (hf : X.fn x = true ∨ X.env.scope.names.lookup x = some .local := by first | exact .inl rfl | exact .inr rfl | assumption) :
    PS X (.Assign [.Name x pos'] e pos) (tAsg te (gName i)) := by
  intro pins s σ H D I h
  refine wpAny_Assign_Name (thn (he pins s σ H _ I h) fun v s1 zy => ?_) hs
  obtain ⟨y,H1,I1,r1,q1⟩ := zy
  exact store_ok I1 hN hi hx r1 (fun s2 I2 => ⟨_,H1,I2,q1⟩) hf
noncomputable def tAug (i : Nat) (te : TE) (ti : TIp) : TS := fun D σ H => ∃ x,σ[i]? = some (some x) ∧ te σ H fun y H1 => ti x y H1 fun z H2 => D.nx (σ.set i (some z)) H2
theorem ps_aug {i : Nat} {x : Str} {e : Expr} {te : TE} {op : Operator} {ti : TIp} {pos' : Pos} (hN : X.N.Nodup) (hi : X.N[i]? = some x) (hx : Loc X.env.scope x) (he : PE X e te) (ho : PIp X op ti) (hf : X.fn x = true ∨ X.env.scope.names.lookup x = some .local := by first | exact .inl rfl | exact .inr rfl | assumption) :
    PS X (.AugAssign (.Name x pos') op e pos) (tAug i te ti) := by
  intro pins s σ H D I h
  obtain ⟨v,e1,h⟩ := h
  obtain ⟨m,hn,hl⟩ := I.loc
  have vis : Vis X.env.scope x := by rcases hx with k | k; exact .inl k; exact .inr (.inl k)
  obtain ⟨u,r,l⟩ := hl i x v hi e1 vis
  refine wpAny_AugAssign_Name ?_
  have go : wpAny (model X.prog X.w) X.A (eval e X.env) (fun w s₂ => wpAny (model X.prog X.w) X.A (inplaceOp op u w) (fun r s₃ => wpAny (model X.prog X.w) X.A (storeName X.env x r) (fun _ => SP X pins D .next) X.xe s₃) X.xe s₂) X.xe s := by
    refine thn (he pins s σ H _ I h) fun w s1 zy => ?_
    obtain ⟨y,H1,I1,r1,q1⟩ := zy
    refine thn (ho pins s1 σ H1 v y u w _ I1 r r1 q1) fun z s2 zy => ?_
    obtain ⟨zv,H2,I2,r2,q2⟩ := zy
    exact store_ok I2 hN hi hx r2 (fun s3 I3 => ⟨_,H2,I3,q2⟩) hf
  rcases l with ⟨hk,hm⟩ | ⟨hk,c,hc,hcell⟩
  · exact wpAny_loadName_local I.ok.kind hk hn hm go
  · rcases hk with hk | hk
    · exact wpAny_loadName_cell I.ok.kind hk hc hcell go
    · rcases hx with k | k
      · have : X.env.scope.names.lookup x = some .free := hk
        rw [k] at this; cases this
      · have : X.env.scope.names.lookup x = some .free := hk
        rw [k] at this; cases this
noncomputable def ipI (f : Int → Int → Int) : TIp := fun x y H Q => ∃ i j,x = .int i ∧ y = .int j ∧ Q (.int (f i j)) H
theorem ip_add : PIp X .Add (ipI fun i j => i + j) := by
  intro pins s σ H x y v u Q I r1 r2 h
  obtain ⟨i,j,e1,e2,q⟩ := h
  subst e1; subst e2
  obtain ⟨t,rfl⟩ := r1
  obtain ⟨t',rfl⟩ := r2
  exact iadd_int ⟨.int _,H,I.tok _,⟨_,rfl⟩,q⟩
end
section
variable {X : Cx} {pos : Pos}
noncomputable def tWhile (c : TT) (tb : TS) : TS := fun D σ H => ∃ W : Nat → St → Hp → Prop,(∃ m,W m σ H) ∧ ∀ m σ H,W m σ H →
  c σ H fun b H1 => if b = true then ∃ N : St → Hp → Prop,(∀ σ' H',N σ' H' → ∃ m',m' < m ∧ W m' σ' H') ∧ tb (D.lp (N)) σ H1 else D.nx σ H1
theorem ps_while {c : Expr} {body : List Stmt} {tc : TT} {tb : TS} (hp : PassesOwn (model X.prog X.w) X.A X.env X.xe) (hc : PT X c tc) (hb : PSs X body tb) : PS X (.While c body [] pos) (tWhile tc tb) := by
  intro pins s σ H D I h
  obtain ⟨W,⟨m0,w0⟩,turn⟩ := h
  refine wpAny_While (codeAny_whileLoop (fun n s' => ∃ σ' H',Inv X pins σ' H' s' ∧ W n σ' H') ?_ m0 ⟨σ,H,I,w0⟩)
  rintro n s1 ⟨σ1,H1,I1,w1⟩
  refine wpAny_passesOwn hp (thn (hc pins s1 σ1 H1 _ I1 (turn n σ1 H1 w1)) fun b s2 zy => ?_)
  obtain ⟨H2,I2,q2⟩ := zy
  cases b with
  | true =>
    obtain ⟨N,hN,q2⟩ := q2
    rw [if_pos rfl]
    refine wpAny_passesOwn hp (thn (hb pins s2 σ1 H2 _ I2 q2) fun f s3 q3 => ?_)
    cases f with
    | next =>
      obtain ⟨σ3,H3,I3,n3⟩ := q3
      obtain ⟨m',hm,w3⟩ := hN σ3 H3 n3
      exact ⟨m',hm,σ3,H3,I3,w3⟩
    | cont =>
      obtain ⟨σ3,H3,I3,n3⟩ := q3
      obtain ⟨m',hm,w3⟩ := hN σ3 H3 n3
      exact ⟨m',hm,σ3,H3,I3,w3⟩
    | brk => exact q3
    | ret v => exact q3
  | false =>
    rw [if_neg Bool.false_ne_true]
    exact wpAny_execs_nil ⟨σ1,H2,I2,q2⟩
end
structure It where
  go : Nat → Hp → Prop
  yld : Nat → Hp → V → Hp → Prop
  stop : Nat → Hp → Prop
noncomputable def FpOk (X : Cx) (pins : List (Addr × Obj)) (H : Hp) (b : Addr) : Prop :=
  H b = none ∧ b ≠ X.env.locals ∧ b ∉ X.fs ∧ (b ∈ X.ex ∨ X.s₀.heap.objs.size ≤ b) ∧ (∀ x c,X.env.cells.lookup x = some c → c ≠ b) ∧ ∀ p ∈ X.pn ++ pins,p.1 ≠ b
theorem Inv.fpOk {X : Cx} {pins : List (Addr × Obj)} {σ : St} {H H' : Hp} {s : Shared} {b : Addr} (I : Inv X pins σ H s) (hb : s.heap.objs.size ≤ b) (hn : H' b = none) : FpOk X pins H' b := by
  refine ⟨hn,Nat.ne_of_gt (Nat.lt_of_lt_of_le I.lt hb),I.nofs hb,.inr (Nat.le_trans I.sz hb),fun x c e z => ?_,fun p hp z => ?_⟩
  · obtain ⟨v,q⟩ := I.cell x c e
    exact absurd (Nat.lt_of_lt_of_le q.lt (by rw [z]; exact hb)) (Nat.lt_irrefl _)
  · exact absurd (Nat.lt_of_lt_of_le (Heap.lt_size (I.pin p hp).1) (by rw [z]; exact hb)) (Nat.lt_irrefl _)
structure Turn (P : Program) (w : World) (K : PySem.W.Frag) (tg : Expr) (J : It) (fp : List Addr) (it : Addr) (tn : Nat → Heap → Prop) : Prop where
  mem : it ∈ fp
  obj : ∀ i h,tn i h → ∀ b ∈ fp,∃ o,h.get? b = some o ∧ ∀ v,o.data ≠ .cell v
  keep : ∀ i h h',tn i h → (∀ b ∈ fp,∀ o,h.get? b = some o → h'.get? b = some o) → tn i h'
  item : ∀ (X : Cx),X.prog = P → X.w = w → X.K = K → X.calm = true → ∀ (i : Nat) (pins : List (Addr × Obj)) (s : Shared) (σ : St) (H : Hp) (E : Value → Shared → Prop),Inv X pins σ H s → (∀ b ∈ fp,FpOk X pins H b) → tn i s.heap → J.go i H →
    wpAny (model P w) X.A (pyNext (.ref it)) (fun r s1 => ∃ u,r = some u ∧
      wpAny (model P w) X.A (letOwnedTupleGo tg (.ref it) u) (fun _ s2 => ∃ x H',Inv X pins σ H' s2 ∧ RelV x u ∧ J.yld i H x H' ∧ tn (i + 1) s2.heap ∧ ∀ b ∈ fp,H' b = none) E s1) E s
  done : ∀ (X : Cx),X.prog = P → X.w = w → X.K = K → X.calm = true → ∀ (i : Nat) (pins : List (Addr × Obj)) (s : Shared) (σ : St) (H : Hp) (E : Value → Shared → Prop),Inv X pins σ H s → (∀ b ∈ fp,FpOk X pins H b) → tn i s.heap → J.stop i H →
    wpAny (model P w) X.A (pyNext (.ref it)) (fun r s1 => r = none ∧ Inv X pins σ H s1) E s
  self : ∀ (A : Around) (i : Nat) (s : Shared) (Q : Value → Shared → Prop) (E : Value → Shared → Prop),tn i s.heap → Q (.ref it) s → wpAny (model P w) A (pyIter (.ref it)) Q E s
noncomputable abbrev TI := St → Hp → (It → Hp → Prop) → Prop
noncomputable def PIE (X : Cx) (pins : List (Addr × Obj)) (σ : St) (tg : Expr) (R : It → Hp → Prop) (itv : Value) (s2 : Shared) : Prop :=
  ∃ (it : Addr) (fp : List Addr) (tn : Nat → Heap → Prop) (J : It) (H' : Hp),itv = .ref it ∧ Inv X pins σ H' s2 ∧ Turn X.prog X.w X.K tg J fp it tn ∧ tn 0 s2.heap ∧ (∀ b ∈ fp,FpOk X pins H' b) ∧ R J H'
noncomputable def PI (X : Cx) (tg iter : Expr) (wi : TI) : Prop :=
  ∀ (pins : List (Addr × Obj)) (s : Shared) (σ : St) (H : Hp) (R : It → Hp → Prop),Inv X pins σ H s → wi σ H R →
    wpAny (model X.prog X.w) X.A (eval iter X.env) (fun v s1 => wpAny (model X.prog X.w) X.A (pyIter v) (PIE X pins σ tg R) X.xe s1) X.xe s
theorem go_of {M : Model} {A : Around} {E : Value → Shared → Prop} {s : Shared} {tg : Expr} {it : Addr} {u : Value} {o : Obj} {n : String} {vs : Array Value} {Q : Unit → Shared → Prop} (ho : s.heap.get? it = some o) (hc : o.cls = .type n) (hd : o.data = .fields vs)
    (hn : ["enumerate","zip","dict_itemiterator","dict_reverseitemiterator","odict_iterator","itertools.zip_longest","itertools.pairwise"].contains n = false) (hQ : Q () s) : wpAny M A (letOwnedTupleGo tg (.ref it) u) Q E s := by
  unfold letOwnedTupleGo
  cases tg <;> first
    | exact wpAny_pure hQ
    | (cases u <;> first
        | exact wpAny_pure hQ
        | (refine wpAny_bind (wpAny_load ho ?_)
           rw [hc,hd]
           show wpAny M A (if (["enumerate","zip","dict_itemiterator","dict_reverseitemiterator","odict_iterator","itertools.zip_longest","itertools.pairwise"].contains n && vs[0]? == some (rawInt _)) = true then _ else _) Q E s
           rw [if_neg (by intro h; rw [hn,Bool.false_and] at h; cases h)]
           exact wpAny_pure hQ))
noncomputable def Itl (K : PySem.W.Frag) (a : Addr) : It :=
  ⟨fun i H => ∃ xs x,SqL K H a xs ∧ xs[i]? = some x,fun i H x H' => H' = H ∧ ∀ xs,SqL K H a xs → xs[i]? = some x,fun i H => ∃ xs,SqL K H a xs ∧ xs.length ≤ i⟩
noncomputable def Itt (K : PySem.W.Frag) (a : Addr) : It :=
  ⟨fun i H => ∃ xs x,SqT K H a xs ∧ xs[i]? = some x,fun i H x H' => H' = H ∧ ∀ xs,SqT K H a xs → xs[i]? = some x,fun i H => ∃ xs,SqT K H a xs ∧ xs.length ≤ i⟩
noncomputable def Itr (lo : Int) (n : Nat) : It := ⟨fun i _ => i < n,fun i H x H' => H' = H ∧ x = .int (lo + i),fun i _ => n ≤ i⟩
theorem turn_list {P : Program} {w : World} {K : PySem.W.Frag} {tg : Expr} (a it : Addr) : Turn P w K tg (Itl K a) [it] it (fun i h => h.IsListIter it a i) where
  mem := by simp
  obj := fun i h st b hb => by
    have e : b = it := by simpa using hb
    subst e
    obtain ⟨o,e,c,d⟩ := st
    exact ⟨o,e,fun v z => by rw [d] at z; cases z⟩
  keep := fun i h h' st k => st.at fun o e => k it (by simp) o e
  item := by
    intro X hP hw hK hc i pins s σ H E I hf st hg
    subst hP hw hK
    obtain ⟨xs,x,hq,hx⟩ := hg
    obtain ⟨its,rv,p,hz⟩ := I.list hq
    obtain ⟨u,hu,ru⟩ := rv.get hx
    obtain ⟨f0,f1,f2,f3,f4,f5⟩ := hf it (by simp)
    refine wpAny_pyNext_list_item st p.isList (x := u) (by simpa using hu) fun h' st' sb => ?_
    have I1 : Inv X pins σ H { s with heap := h' } := I.turned (t' := s.toks) (fun b o hb e => (sb.2 b hb).trans e) f0 f1 f3 f4 f5
    obtain ⟨o,e,c,d⟩ := id st'
    exact ⟨u,rfl,go_of (s := { s with heap := h' }) e c d (by decide) ⟨x,H,I1,ru,⟨rfl,fun ys hy => by rw [I.list_inj hy hq]; exact hx⟩,st',fun b hb => (hf b hb).1⟩⟩
  done := by
    intro X hP hw hK hc i pins s σ H E I hf st hg
    subst hP hw hK
    obtain ⟨xs,hq,hx⟩ := hg
    obtain ⟨its,rv,p,hz⟩ := I.list hq
    obtain ⟨f0,f1,f2,f3,f4,f5⟩ := hf it (by simp)
    have hl := rv.length
    exact wpAny_pyNext_list_end (I.ok.hd hc) st p.isList (by simp; omega) fun h' eb => ⟨rfl,I.turned (t' := s.toks) (fun b o hb e => eb b o hb e) f0 f1 f3 f4 f5⟩
  self := fun _ _ _ _ _ st h => wpAny_pyIter_listiter st h
theorem turn_tuple {P : Program} {w : World} {K : PySem.W.Frag} {tg : Expr} (a it : Addr) : Turn P w K tg (Itt K a) [it] it (fun i h => h.IsTupleIter it a i) where
  mem := by simp
  obj := fun i h st b hb => by
    have e : b = it := by simpa using hb
    subst e
    obtain ⟨o,e,c,d⟩ := st
    exact ⟨o,e,fun v z => by rw [d] at z; cases z⟩
  keep := fun i h h' st k => st.at fun o e => k it (by simp) o e
  item := by
    intro X hP hw hK hc i pins s σ H E I hf st hg
    subst hP hw hK
    obtain ⟨xs,x,hq,hx⟩ := hg
    obtain ⟨its,rv,p,hz⟩ := I.tuple hq
    obtain ⟨u,hu,ru⟩ := rv.get hx
    obtain ⟨f0,f1,f2,f3,f4,f5⟩ := hf it (by simp)
    refine wpAny_pyNext_tuple_item st (show s.heap.IsTuple a its.toArray from p) (x := u) (by simpa using hu) fun h' st' sb => ?_
    have I1 : Inv X pins σ H { s with heap := h' } := I.turned (t' := s.toks) (fun b o hb e => (sb.2 b hb).trans e) f0 f1 f3 f4 f5
    obtain ⟨o,e,c,d⟩ := id st'
    exact ⟨u,rfl,go_of (s := { s with heap := h' }) e c d (by decide) ⟨x,H,I1,ru,⟨rfl,fun ys hy => by rw [I.tuple_inj hy hq]; exact hx⟩,st',fun b hb => (hf b hb).1⟩⟩
  done := by
    intro X hP hw hK hc i pins s σ H E I hf st hg
    subst hP hw hK
    obtain ⟨xs,hq,hx⟩ := hg
    obtain ⟨its,rv,p,hz⟩ := I.tuple hq
    obtain ⟨f0,f1,f2,f3,f4,f5⟩ := hf it (by simp)
    have hl := rv.length
    exact wpAny_pyNext_tuple_end (I.ok.hd hc) st (show s.heap.IsTuple a its.toArray from p) (by simp; omega) fun h' eb => ⟨rfl,I.turned (t' := s.toks) (fun b o hb e => eb b o hb e) f0 f1 f3 f4 f5⟩
  self := fun _ _ _ _ _ st h => wpAny_pyIter_tupleiter st h
theorem turn_range {P : Program} {w : World} {K : PySem.W.Frag} {tg : Expr} (it : Addr) (lo : Int) (n : Nat) : Turn P w K tg (Itr lo n) [it] it (fun i h => IsRangeIter h it (lo + (i : Nat) * 1) ((n : Int) - (i : Nat)) 1) where
  mem := by simp
  obj := fun i h st b hb => by
    have e : b = it := by simpa using hb
    subst e
    exact ⟨_,st,fun v z => by
      have z' : Data.fields _ = Data.cell v := z
      cases z'⟩
  keep := fun i h h' st k => k it (by simp) _ st
  item := by
    intro X hP hw hK hc i pins s σ H E I hf st hg
    subst hP hw hK
    obtain ⟨f0,f1,f2,f3,f4,f5⟩ := hf it (by simp)
    have W := Walks.range (prog := X.prog) (w := X.w) (I.ok.hd hc) it lo 1 n
    refine W.item i s _ _ hg st fun v h' tk hv st' kk => ?_
    obtain ⟨t,rfl⟩ := hv
    have I1 : Inv X pins σ H { s with heap := h',toks := tk } := I.turned (fun b o hb e => kk b o (by simpa using hb) e) f0 f1 f3 f4 f5
    refine ⟨_,rfl,go_of (s := { s with heap := h',toks := tk }) (n := "range_iterator") st' rfl rfl (by decide) ⟨.int (lo + i),H,I1,⟨t,?_⟩,⟨rfl,rfl⟩,st',fun b hb => (hf b hb).1⟩⟩
    rw [Int.mul_one]
  done := by
    intro X hP hw hK hc i pins s σ H E I hf st hg
    subst hP hw hK
    obtain ⟨f0,f1,f2,f3,f4,f5⟩ := hf it (by simp)
    exact wpAny_pyNext_range_end (I.ok.hd hc) st (by have : n ≤ i := hg; omega) fun h' eb => ⟨rfl,I.turned (t' := s.toks) (fun b o hb e => eb b o hb e) f0 f1 f3 f4 f5⟩
  self := fun _ _ _ _ _ st h => wpAny_pyIter_rangeiter st h
end L2
namespace L2
open PySem PySem.Spec PyProof.Rows
section
variable {X : Cx} {tg : Expr}
noncomputable def iList (K : PySem.W.Frag) (tl : TE) : TI := fun σ H R => tl σ H fun x H1 => ∃ a,x = .ref a ∧ (∃ xs,SqL K H1 a xs) ∧ R (Itl K a) H1
noncomputable def iTup (K : PySem.W.Frag) (tl : TE) : TI := fun σ H R => tl σ H fun x H1 => ∃ a,x = .ref a ∧ (∃ xs,SqT K H1 a xs) ∧ R (Itt K a) H1
theorem pi_list {l : Expr} {tl : TE} (hl : PE X l tl) : PI X tg l (iList X.K tl) := by
  intro pins s σ H R I h
  refine thn (hl pins s σ H _ I h) fun v s1 zy => ?_
  obtain ⟨x,H1,I1,r1,q1⟩ := zy
  obtain ⟨a,e,⟨xs,hq⟩,q⟩ := q1
  subst e
  cases r1
  obtain ⟨its,rv,p,hz⟩ := I1.list hq
  refine wpAny_pyIter_list p.isList ?_
  refine ⟨s1.heap.objs.size,[s1.heap.objs.size],_,_,H1,rfl,I1.kept (t' := s1.toks) fun b o e => Heap.get?_push_of_some _ e,turn_list a _,⟨_,Heap.get?_push_size _ rfl,rfl,rfl⟩,fun b hb => ?_,q⟩
  have e : b = s1.heap.objs.size := by simpa using hb
  subst e
  exact I1.fpOk (Nat.le_refl _) (I1.hok.fresh (Nat.le_refl _))
theorem pi_tup {l : Expr} {tl : TE} (hl : PE X l tl) : PI X tg l (iTup X.K tl) := by
  intro pins s σ H R I h
  refine thn (hl pins s σ H _ I h) fun v s1 zy => ?_
  obtain ⟨x,H1,I1,r1,q1⟩ := zy
  obtain ⟨a,e,⟨xs,hq⟩,q⟩ := q1
  subst e
  cases r1
  obtain ⟨its,rv,p,hz⟩ := I1.tuple hq
  refine wpAny_pyIter_tuple (show s1.heap.IsTuple a its.toArray from p) ?_
  refine ⟨s1.heap.objs.size,[s1.heap.objs.size],_,_,H1,rfl,I1.kept (t' := s1.toks) fun b o e => Heap.get?_push_of_some _ e,turn_tuple a _,⟨_,Heap.get?_push_size _ rfl,rfl,rfl⟩,fun b hb => ?_,q⟩
  have e : b = s1.heap.objs.size := by simpa using hb
  subst e
  exact I1.fpOk (Nat.le_refl _) (I1.hok.fresh (Nat.le_refl _))
theorem range_it {pins : List (Addr × Obj)} {σ : St} {H : Hp} {s : Shared} {R : It → Hp → Prop} {E : Value → Shared → Prop} {lo hi : Int} {t u v : Tok} {tk : Nat} (I : Inv X pins σ H s) (h1 : -(2 ^ 62) ≤ lo) (h2 : lo < 2 ^ 62) (h3 : -(2 ^ 62) ≤ hi) (h4 : hi < 2 ^ 62)
    (q : R (Itr lo (hi - lo).toNat) H) : wpAny (model X.prog X.w) X.A (pyIter (.ref s.heap.objs.size)) (PIE X pins σ tg R) E { s with heap := s.heap.push { cls := .type "range",data := .fields #[.int lo t,.int hi u,.int 1 v] },toks := tk } := by
  refine wpAny_pyIter_range (IsRange.new ..) (small_one h1 h2 h3 h4) ?_
  have I1 : Inv X pins σ H { s with heap := s.heap.push { cls := .type "range",data := .fields #[.int lo t,.int hi u,.int 1 v] },toks := tk } := I.kept fun b o e => Heap.get?_push_of_some _ e
  refine ⟨(s.heap.push { cls := .type "range",data := .fields #[.int lo t,.int hi u,.int 1 v] }).objs.size,[(s.heap.push { cls := .type "range",data := .fields #[.int lo t,.int hi u,.int 1 v] }).objs.size],_,_,H,rfl,
    I1.kept (t' := tk) fun b o e => Heap.get?_push_of_some _ e,turn_range _ lo (hi - lo).toNat,?_,fun b hb => ?_,q⟩
  · have e1 : lo + ((0 : Nat) : Int) * 1 = lo := by simp
    have e2 : (((hi - lo).toNat : Nat) : Int) - ((0 : Nat) : Int) = Builtin.Range.rangeSize lo hi 1 := by rw [rangeSize_one]; split <;> omega
    show IsRangeIter _ _ (lo + ((0 : Nat) : Int) * 1) ((((hi - lo).toNat : Nat) : Int) - ((0 : Nat) : Int)) 1
    rw [e1,e2]
    exact Heap.get?_push_size _ rfl
  · have e : b = (s.heap.push { cls := .type "range",data := .fields #[.int lo t,.int hi u,.int 1 v] }).objs.size := by simpa using hb
    subst e
    exact I1.fpOk (Nat.le_refl _) (I1.hok.fresh (Nat.le_refl _))
noncomputable def iRng1 (ta : TA) : TI := fun σ H R => ta σ H fun vs H1 => ∃ j : Int,vs = [.int j] ∧ -(2 ^ 62) ≤ j ∧ j < 2 ^ 62 ∧ R (Itr 0 j.toNat) H1
noncomputable def iRng2 (ta : TA) : TI := fun σ H R => ta σ H fun vs H1 => ∃ i j : Int,vs = [.int i,.int j] ∧ (-(2 ^ 62) ≤ i ∧ i < 2 ^ 62 ∧ -(2 ^ 62) ≤ j ∧ j < 2 ^ 62) ∧ R (Itr i (j - i).toNat) H1
theorem pi_range1 {a : Expr} {ta : TA} {p pos : Pos} (hg : Gl X "range") (hm : X.mg "range" = none) (ha : PA X [a] ta) (hs : starEach [a] X.env = [(false,eval a X.env)] := by rfl) : PI X tg (.Call (.Name "range" p) [a] [] pos) (iRng1 ta) := by
  intro pins s σ H R I h
  refine Call_ (ld_blt I hg hm boot_range (PyProof.Rows.callWith_type1 (thn (ha pos pins s σ H _ I h) fun us s1 zy => ?_) hs rfl))
  obtain ⟨vs,H1,I1,r1,q1⟩ := zy
  obtain ⟨j,e,q1,q2,q⟩ := q1
  subst e
  cases r1 with
  | cons r rr =>
    cases rr
    obtain ⟨t,rfl⟩ := r
    exact call_range_1 (range_it I1 (by omega) (by omega) q1 q2 (by simpa using q))
theorem pi_range2 {a b : Expr} {ta : TA} {p pos : Pos} (hg : Gl X "range") (hm : X.mg "range" = none) (ha : PA X [a,b] ta) (hs : starEach [a,b] X.env = [(false,eval a X.env),(false,eval b X.env)] := by rfl) (hs2 : starEach [b] X.env = [(false,eval b X.env)] := by rfl) :
    PI X tg (.Call (.Name "range" p) [a,b] [] pos) (iRng2 ta) := by
  intro pins s σ H R I h
  refine Call_ (ld_blt I hg hm boot_range (PyProof.Rows.callWith_type1 (thn (ha pos pins s σ H _ I h) fun us s1 zy => ?_) (by rw [hs,hs2]) (by rw [hs2]; rfl)))
  obtain ⟨vs,H1,I1,r1,q1⟩ := zy
  obtain ⟨i,j,e,⟨q1,q2,q3,q4⟩,q⟩ := q1
  subst e
  cases r1 with
  | cons r rr =>
    cases rr with
    | cons r' rr =>
      cases rr
      obtain ⟨t,rfl⟩ := r
      obtain ⟨t',rfl⟩ := r'
      exact call_range_2 (range_it I1 q1 q2 q3 q4 q)
noncomputable def tFor (wi : TI) (g : TG) (tb : TS) : TS := fun D σ H => wi σ H fun J H1 => ∃ W : Nat → Nat → St → Hp → Prop,(∃ m,W 0 m σ H1) ∧ ∀ i m σ H,W i m σ H →
  (J.stop i H ∧ D.nx σ H) ∨ (J.go i H ∧ ∃ N : St → Hp → Prop,(∀ σ' H',N σ' H' → ∃ m',m' < m ∧ W (i + 1) m' σ' H') ∧ ∀ x H',J.yld i H x H' → g x σ H' fun σ2 H2 => tb (D.lp (N)) σ2 H2)
noncomputable def pinsAt (fp : List Addr) (h : Heap) : List (Addr × Obj) := fp.filterMap fun b => (h.get? b).map fun o => (b,o)
theorem mem_pinsAt {fp : List Addr} {h : Heap} {b : Addr} {o : Obj} (hb : b ∈ fp) (e : h.get? b = some o) : (b,o) ∈ pinsAt fp h := List.mem_filterMap.mpr ⟨b,hb,by rw [e]; rfl⟩
theorem of_pinsAt {fp : List Addr} {h : Heap} {p : Addr × Obj} (hp : p ∈ pinsAt fp h) : p.1 ∈ fp ∧ h.get? p.1 = some p.2 := by
  obtain ⟨b,hb,e⟩ := List.mem_filterMap.mp hp
  cases q : h.get? b with
  | none => rw [q] at e; cases e
  | some o =>
    rw [q] at e
    have e' : (b,o) = p := Option.some.inj e
    subst e'
    exact ⟨hb,q⟩
theorem Inv.pinned {pins : List (Addr × Obj)} {σ : St} {H : Hp} {s : Shared} {fp : List Addr} (I : Inv X pins σ H s) (hf : ∀ b ∈ fp,FpOk X pins H b) (ho : ∀ b ∈ fp,∃ o,s.heap.get? b = some o ∧ ∀ v,o.data ≠ .cell v) : Inv X (pins ++ pinsAt fp s.heap) σ H s :=
  I.pins_of fun p hp => (List.mem_append.mp hp).elim (fun z => I.pin p (List.mem_append_right _ z)) fun z => by
    obtain ⟨hb,e⟩ := of_pinsAt z
    obtain ⟨f0,f1,f2,_⟩ := hf p.1 hb
    obtain ⟨o,e',d⟩ := ho p.1 hb
    rw [e] at e'; cases e'
    exact ⟨e,f0,f1,f2,d⟩
theorem Inv.unpinned {pins pl : List (Addr × Obj)} {σ : St} {H : Hp} {s : Shared} (I : Inv X (pins ++ pl) σ H s) : Inv X pins σ H s := I.pins_of fun p hp => I.pin p (List.mem_append_right _ (List.mem_append_left _ hp))
theorem ps_for {iter : Expr} {body : List Stmt} {wi : TI} {g : TG} {tb : TS} {pos : Pos} (hp : PassesOwn (model X.prog X.w) X.A X.env X.xe) (hc : X.calm = true) (hi : PI X tg iter wi) (hg : PG X tg g) (hb : PSs X body tb)
    (hs : ∀ x,foldedSetIterable iter X.env x = pure x := by intro _; rfl) : PS X (.For tg iter body [] pos) (tFor wi g tb) := by
  intro pins s σ H D I h
  refine wpAny_For (thn (hi pins s σ H _ I h) fun v s1 h1 => thn h1 fun itv s2 h2 => ?_) hs
  obtain ⟨it,fp,tn,J,H2,e,I2,T,st2,f2,W,⟨m0,w0⟩,turn⟩ := h2
  subst e
  have stat : ∀ {H' : Hp},(∀ b ∈ fp,H' b = none) → ∀ b ∈ fp,FpOk X pins H' b := fun hn b hb => ⟨hn b hb,(f2 b hb).2⟩
  refine codeAny_forLoop_any (fun n s' => ∃ i σ' H',Inv X pins σ' H' s' ∧ tn i s'.heap ∧ (∀ b ∈ fp,H' b = none) ∧ W i n σ' H') ?_ m0 ⟨0,σ,H2,I2,st2,fun b hb => (f2 b hb).1,w0⟩
  rintro n s3 ⟨i,σ3,H3,I3,st3,fr3,w3⟩
  rcases turn i n σ3 H3 w3 with ⟨stop,qn⟩ | ⟨go,N,hN,step⟩
  · refine wpAny_passesOwn hp (thn (T.done X rfl rfl rfl hc i pins s3 σ3 H3 X.xe I3 (stat fr3) st3 stop) fun r s4 zy => ?_)
    obtain ⟨hr,I4⟩ := zy
    subst hr
    exact wpAny_execs_nil ⟨σ3,H3,I4,qn⟩
  · refine wpAny_passesOwn hp (thn (T.item X rfl rfl rfl hc i pins s3 σ3 H3 X.xe I3 (stat fr3) st3 go) fun r s4 zy => ?_)
    obtain ⟨u,hr,h4⟩ := zy
    subst hr
    refine wpAny_passesOwn hp (thn h4 fun _ s5 zy => ?_)
    obtain ⟨x,H5,I5,r5,y5,st5,fr5⟩ := zy
    have I5' := I5.pinned (stat fr5) (T.obj _ _ st5)
    refine wpAny_passesOwn hp (thn (hg _ s5 σ3 H5 x u _ I5' r5 (step x H5 y5)) fun _ s6 zy => ?_)
    obtain ⟨σ6,H6,I6,q6⟩ := zy
    refine wpAny_passesOwn hp (thn (hb _ s6 σ6 H6 _ I6 q6) fun f s7 q7 => ?_)
    have again : ∀ {σ7 : St} {H7 : Hp},Inv X (pins ++ pinsAt fp s5.heap) σ7 H7 s7 → N σ7 H7 → ∃ m,m < n ∧ ∃ i σ' H',Inv X pins σ' H' s7 ∧ tn i s7.heap ∧ (∀ b ∈ fp,H' b = none) ∧ W i m σ' H' := fun {σ7 H7} I7 n7 => by
      obtain ⟨m',hm,w7⟩ := hN σ7 H7 n7
      refine ⟨m',hm,i + 1,σ7,H7,I7.unpinned,T.keep _ _ _ st5 fun b hb o e => (I7.pin (b,o) (List.mem_append_right _ (List.mem_append_right _ (mem_pinsAt hb e)))).1,fun b hb => ?_,w7⟩
      obtain ⟨o,e,d⟩ := T.obj _ _ st5 b hb
      exact (I7.pin (b,o) (List.mem_append_right _ (List.mem_append_right _ (mem_pinsAt hb e)))).2.1
    cases f with
    | next => obtain ⟨σ7,H7,I7,n7⟩ := q7; exact again I7 n7
    | cont => obtain ⟨σ7,H7,I7,n7⟩ := q7; exact again I7 n7
    | brk => obtain ⟨σ7,H7,I7,q7⟩ := q7; exact ⟨σ7,H7,I7.unpinned,q7⟩
    | ret v => obtain ⟨x7,σ7,H7,I7,r7,q7⟩ := q7; exact ⟨x7,σ7,H7,I7.unpinned,r7,q7⟩
end
theorem for_list {K : PySem.W.Frag} {a : Addr} {xs : List V} {g : TG} {tb : TS} {D : Ends} {σ : St} {H : Hp} (Pv : Nat → St → Hp → Prop) (h0 : Pv 0 σ H) (hl : ∀ i σ H,i ≤ xs.length → Pv i σ H → SqL K H a xs)
    (hs : ∀ i x σ H,xs[i]? = some x → Pv i σ H → g x σ H fun σ2 H2 => tb (D.lp (Pv (i + 1))) σ2 H2) (hd : ∀ σ H,Pv xs.length σ H → D.nx σ H) :
    ∃ W : Nat → Nat → St → Hp → Prop,(∃ m,W 0 m σ H) ∧ ∀ i m σ H,W i m σ H →
      ((Itl K a).stop i H ∧ D.nx σ H) ∨ ((Itl K a).go i H ∧ ∃ N : St → Hp → Prop,(∀ σ' H',N σ' H' → ∃ m',m' < m ∧ W (i + 1) m' σ' H') ∧ ∀ x H',(Itl K a).yld i H x H' → g x σ H' fun σ2 H2 => tb (D.lp (N)) σ2 H2) := by
  refine ⟨fun i m σ H => m = xs.length - i ∧ i ≤ xs.length ∧ Pv i σ H,⟨xs.length,by simp,Nat.zero_le _,h0⟩,?_⟩
  rintro i m σ H ⟨rfl,hi,p⟩
  have q := hl i σ H hi p
  by_cases hlt : i < xs.length
  · refine .inr ⟨⟨xs,xs[i],q,by simp [hlt]⟩,Pv (i + 1),fun σ' H' p' => ⟨xs.length - (i + 1),by omega,rfl,hlt,p'⟩,fun x H' y => ?_⟩
    obtain ⟨e,y⟩ := y
    subst e
    exact hs i x σ _ (y xs q) p
  · have e : i = xs.length := by omega
    subst e
    exact .inl ⟨⟨xs,q,Nat.le_refl _⟩,hd σ H p⟩
theorem for_tup {K : PySem.W.Frag} {a : Addr} {xs : List V} {g : TG} {tb : TS} {D : Ends} {σ : St} {H : Hp} (Pv : Nat → St → Hp → Prop) (h0 : Pv 0 σ H) (hl : ∀ i σ H,i ≤ xs.length → Pv i σ H → SqT K H a xs)
    (hs : ∀ i x σ H,xs[i]? = some x → Pv i σ H → g x σ H fun σ2 H2 => tb (D.lp (Pv (i + 1))) σ2 H2) (hd : ∀ σ H,Pv xs.length σ H → D.nx σ H) :
    ∃ W : Nat → Nat → St → Hp → Prop,(∃ m,W 0 m σ H) ∧ ∀ i m σ H,W i m σ H →
      ((Itt K a).stop i H ∧ D.nx σ H) ∨ ((Itt K a).go i H ∧ ∃ N : St → Hp → Prop,(∀ σ' H',N σ' H' → ∃ m',m' < m ∧ W (i + 1) m' σ' H') ∧ ∀ x H',(Itt K a).yld i H x H' → g x σ H' fun σ2 H2 => tb (D.lp (N)) σ2 H2) := by
  refine ⟨fun i m σ H => m = xs.length - i ∧ i ≤ xs.length ∧ Pv i σ H,⟨xs.length,by simp,Nat.zero_le _,h0⟩,?_⟩
  rintro i m σ H ⟨rfl,hi,p⟩
  have q := hl i σ H hi p
  by_cases hlt : i < xs.length
  · refine .inr ⟨⟨xs,xs[i],q,by simp [hlt]⟩,Pv (i + 1),fun σ' H' p' => ⟨xs.length - (i + 1),by omega,rfl,hlt,p'⟩,fun x H' y => ?_⟩
    obtain ⟨e,y⟩ := y
    subst e
    exact hs i x σ _ (y xs q) p
  · have e : i = xs.length := by omega
    subst e
    exact .inl ⟨⟨xs,q,Nat.le_refl _⟩,hd σ H p⟩
theorem for_range {lo : Int} {n : Nat} {g : TG} {tb : TS} {D : Ends} {σ : St} {H : Hp} (Pv : Nat → St → Hp → Prop) (h0 : Pv 0 σ H)
    (hs : ∀ i σ H,i < n → Pv i σ H → g (.int (lo + i)) σ H fun σ2 H2 => tb (D.lp (Pv (i + 1))) σ2 H2) (hd : ∀ σ H,Pv n σ H → D.nx σ H) :
    ∃ W : Nat → Nat → St → Hp → Prop,(∃ m,W 0 m σ H) ∧ ∀ i m σ H,W i m σ H →
      ((Itr lo n).stop i H ∧ D.nx σ H) ∨ ((Itr lo n).go i H ∧ ∃ N : St → Hp → Prop,(∀ σ' H',N σ' H' → ∃ m',m' < m ∧ W (i + 1) m' σ' H') ∧ ∀ x H',(Itr lo n).yld i H x H' → g x σ H' fun σ2 H2 => tb (D.lp (N)) σ2 H2) := by
  refine ⟨fun i m σ H => m = n - i ∧ i ≤ n ∧ Pv i σ H,⟨n,by simp,Nat.zero_le _,h0⟩,?_⟩
  rintro i m σ H ⟨rfl,hi,p⟩
  by_cases hlt : i < n
  · refine .inr ⟨hlt,Pv (i + 1),fun σ' H' p' => ⟨n - (i + 1),by omega,rfl,hlt,p'⟩,fun x H' y => ?_⟩
    obtain ⟨e,y⟩ := y
    subst e y
    exact hs i σ _ hlt p
  · have e : i = n := by omega
    subst e
    exact .inl ⟨Nat.le_refl _,hd σ H p⟩
end L2
namespace L2
open PySem PySem.Spec PyProof.Rows
noncomputable abbrev R2 := V → V → Hp → VK → Prop
noncomputable def OpR (X : Cx) (f : Value → Value → Sem Value) (r : R2) : Prop :=
  ∀ (pins : List (Addr × Obj)) (s : Shared) (σ : St) (H : Hp) (x y : V) (v u : Value) (Q : VK),Inv X pins σ H s → RelV x v → RelV y u → r x y H Q →
    wpAny (model X.prog X.w) X.A (f v u) (EP X pins σ Q) X.xe s
noncomputable def UnR (X : Cx) (f : Value → Sem Value) (r : V → Hp → VK → Prop) : Prop :=
  ∀ (pins : List (Addr × Obj)) (s : Shared) (σ : St) (H : Hp) (x : V) (v : Value) (Q : VK),Inv X pins σ H s → RelV x v → r x H Q →
    wpAny (model X.prog X.w) X.A (f v) (EP X pins σ Q) X.xe s
noncomputable def CallR (X : Cx) (f : Value) (r : List V → Hp → VK → Prop) : Prop :=
  ∀ (pins : List (Addr × Obj)) (s : Shared) (σ : St) (H : Hp) (xs : List V) (us : List Value) (Q : VK),Inv X pins σ H s → Vals xs us → r xs H Q →
    wpAny (model X.prog X.w) X.A (call f us) (EP X pins σ Q) X.xe s
noncomputable def tOp (r : R2) (ta tb : TE) : TE := fun σ H Q => ta σ H fun x H1 => tb σ H1 fun y H2 => r x y H2 Q
noncomputable def tUn (r : V → Hp → VK → Prop) (ta : TE) : TE := fun σ H Q => ta σ H fun x H1 => r x H1 Q
inductive IntP (C : Int → Int → Prop) (g : Int → Int → V) (x y : V) (H : Hp) (Q : VK) : Prop
  | mk (i j : Int) (e1 : x = .int i) (e2 : y = .int j) (c : C i j) (q : Q (g i j) H) : IntP C g x y H Q
inductive IntP0 (g : Int → Int → V) (x y : V) (H : Hp) (Q : VK) : Prop
  | mk (i j : Int) (e1 : x = .int i) (e2 : y = .int j) (q : Q (g i j) H) : IntP0 g x y H Q
noncomputable def rI (C : Int → Int → Prop) (g : Int → Int → V) : R2 := IntP C g
noncomputable def rI0 (g : Int → Int → V) : R2 := IntP0 g
noncomputable def rU (g : Int → V) : V → Hp → VK → Prop := fun x H Q => ∃ i,x = .int i ∧ Q (g i) H
section
variable {X : Cx} {a b c : Expr} {ta tb tc : TE} {pos : Pos}
theorem binT (ha : PE X a ta) (hb : PE X b tb) {pins : List (Addr × Obj)} {s : Shared} {σ : St} {H : Hp} {R : V → V → Hp → Prop} (I : Inv X pins σ H s)
    (h : ta σ H fun x H1 => tb σ H1 fun y H2 => R x y H2) {Q : Value → Shared → Prop} {f : Value → Value → Sem Value}
    (hf : ∀ v u s2 x y H2,Inv X pins σ H2 s2 → RelV x v → RelV y u → R x y H2 → wpAny (model X.prog X.w) X.A (f v u) Q X.xe s2) :
    wpAny (model X.prog X.w) X.A (eval a X.env) (fun v s₁ => wpAny (model X.prog X.w) X.A (eval b X.env) (fun u s₂ => wpAny (model X.prog X.w) X.A (f v u) Q X.xe s₂) X.xe s₁) X.xe s := by
  refine thn (ha pins s σ H _ I h) fun v s1 zy => ?_
  obtain ⟨x,H1,I1,r1,q1⟩ := zy
  refine thn (hb pins s1 σ H1 _ I1 q1) fun u s2 zy => ?_
  obtain ⟨y,H2,I2,r2,q2⟩ := zy
  exact hf v u s2 x y H2 I2 r1 r2 q2
theorem pe_op {op : Operator} {r : R2} (ho : OpR X (binaryOp op) r) (ha : PE X a ta) (hb : PE X b tb) : PE X (.BinOp a op b pos) (tOp r ta tb) := by
  intro pins s σ H Q I h
  exact wpAny_BinOp (binT ha hb I h fun v u s2 x y H2 I2 rx ry q => ho pins s2 σ H2 x y v u Q I2 rx ry q)
theorem pe_un {op : UnaryOp} {r : V → Hp → VK → Prop} (ho : UnR X (unaryOp op) r) (ha : PE X a ta) : PE X (.UnaryOp op a pos) (tUn r ta) := by
  intro pins s σ H Q I h
  exact UnaryOp_ (thn (ha pins s σ H _ I h) fun v s1 ⟨x,H1,I1,r1,q1⟩ => ho pins s1 σ H1 x v Q I1 r1 q1)
theorem opI {f : Value → Value → Sem Value} {C : Int → Int → Prop} {g : Int → Int → Int}
    (rule : ∀ (i j : Int) (t u : Tok) (s : Shared) (Q : Value → Shared → Prop) (E : Value → Shared → Prop),C i j → Q (.int (g i j) s.toks) { s with toks := s.toks + 1 } → wpAny (model X.prog X.w) X.A (f (.int i t) (.int j u)) Q E s) :
    OpR X f (rI C fun i j => .int (g i j)) := by
  intro pins s σ H x y v u Q I rx ry h
  obtain ⟨i,j,rfl,rfl,hc,q⟩ := h
  obtain ⟨t,rfl⟩ := rx
  obtain ⟨t',rfl⟩ := ry
  exact rule i j t t' s _ _ hc ⟨.int (g i j),H,I.tok _,⟨_,rfl⟩,q⟩
theorem opI0 {f : Value → Value → Sem Value} {g : Int → Int → Int}
    (rule : ∀ (i j : Int) (t u : Tok) (s : Shared) (Q : Value → Shared → Prop) (E : Value → Shared → Prop),Q (.int (g i j) s.toks) { s with toks := s.toks + 1 } → wpAny (model X.prog X.w) X.A (f (.int i t) (.int j u)) Q E s) :
    OpR X f (rI0 fun i j => .int (g i j)) := by
  intro pins s σ H x y v u Q I rx ry h
  obtain ⟨i,j,rfl,rfl,q⟩ := h
  obtain ⟨t,rfl⟩ := rx
  obtain ⟨t',rfl⟩ := ry
  exact rule i j t t' s _ _ ⟨.int (g i j),H,I.tok _,⟨_,rfl⟩,q⟩
theorem opB0 {f : Value → Value → Sem Value} {g : Int → Int → Bool}
    (rule : ∀ (i j : Int) (t u : Tok) (s : Shared) (Q : Value → Shared → Prop) (E : Value → Shared → Prop),Q (.bool (g i j)) s → wpAny (model X.prog X.w) X.A (f (.int i t) (.int j u)) Q E s) :
    OpR X f (rI0 fun i j => .bl (g i j)) := by
  intro pins s σ H x y v u Q I rx ry h
  obtain ⟨i,j,rfl,rfl,q⟩ := h
  obtain ⟨t,rfl⟩ := rx
  obtain ⟨t',rfl⟩ := ry
  exact rule i j t t' s _ _ ⟨.bl (g i j),H,I,rfl,q⟩
noncomputable def CDiv (i j : Int) : Prop := 0 < j ∧ j < 1073741824
noncomputable def CMul (i j : Int) : Prop := (-(2 ^ 64) < i ∧ i < 2 ^ 64) ∨ (-(2 ^ 64) < j ∧ j < 2 ^ 64)
theorem CMul.ok {i j : Int} (h : CMul i j) : IntMulOk i j := by
  rcases h with ⟨h1,h2⟩ | ⟨h1,h2⟩
  · exact .of_left (intBits_le_64 h1 h2)
  · exact .of_right (intBits_le_64 h1 h2)
theorem op_add : OpR X (binaryOp .Add) (rI0 fun i j => .int (i + j)) := opI0 fun _ _ _ _ _ _ _ q => add_int q
theorem op_sub : OpR X (binaryOp .Sub) (rI0 fun i j => .int (i - j)) := opI0 fun _ _ _ _ _ _ _ q => sub_int q
theorem op_mul : OpR X (binaryOp .Mult) (rI CMul fun i j => .int (i * j)) := opI fun _ _ _ _ _ _ _ hc q => mul_int q hc.ok
theorem op_fdiv : OpR X (binaryOp .FloorDiv) (rI CDiv fun i j => .int (i / j)) := opI fun i j _ _ _ _ _ hc q => by
  have h1 : (0 : Int) < j := hc.1
  have h2 : j < 1073741824 := hc.2
  exact floordiv_int (by omega) (by rw [Int.fdiv_eq_ediv_of_nonneg i (by omega)]; exact q) (.inl (PyProof.noPylong_small (by omega)))
theorem op_mod : OpR X (binaryOp .Mod) (rI (fun _ j => 0 < j) fun i j => .int (i % j)) := opI fun i j _ _ _ _ _ hc q => by
  have h1 : (0 : Int) < j := hc
  exact mod_int' (by omega) (by rw [Int.fmod_eq_emod_of_nonneg i (by omega)]; exact q)
theorem unI {f : Value → Sem Value} {g : Int → Int}
    (rule : ∀ (i : Int) (t : Tok) (s : Shared) (Q : Value → Shared → Prop) (E : Value → Shared → Prop),Q (.int (g i) s.toks) { s with toks := s.toks + 1 } → wpAny (model X.prog X.w) X.A (f (.int i t)) Q E s) :
    UnR X f (rU fun i => .int (g i)) := by
  intro pins s σ H x v Q I rx h
  obtain ⟨i,rfl,q⟩ := h
  obtain ⟨t,rfl⟩ := rx
  exact rule i t s _ _ ⟨.int (g i),H,I.tok _,⟨_,rfl⟩,q⟩
theorem un_neg : UnR X (unaryOp .USub) (rU fun i => .int (-i)) := unI fun _ _ _ _ _ q => neg_int q
end
noncomputable def scal : V → V → Bool
  | .non,.non => true | .non,.int _ => true | .int _,.non => true | .non,.bl _ => true | .bl _,.non => true | .non,.str _ => true | .str _,.non => true
  | .int _,.int _ => true | .bl _,.bl _ => true | .str _,.str _ => true | .byt _,.byt _ => true
  | .int _,.str _ => true | .str _,.int _ => true | .bl _,.str _ => true | .str _,.bl _ => true
  | _,_ => false
inductive EqP (x y : V) (H : Hp) (Q : VK) : Prop
  | mk (e : scal x y = true) (q : Q (.bl (decide (x = y))) H) : EqP x y H Q
inductive NeP (x y : V) (H : Hp) (Q : VK) : Prop
  | mk (e : scal x y = true) (q : Q (.bl (!decide (x = y))) H) : NeP x y H Q
noncomputable def rEq : R2 := EqP
noncomputable def rNe : R2 := NeP
theorem dec_int {i j : Int} : decide (V.int i = V.int j) = (i == j) := by
  rw [Bool.eq_iff_iff]
  simp
theorem dec_bl {i j : Bool} : decide (V.bl i = V.bl j) = (i == j) := by
  rw [Bool.eq_iff_iff]
  simp
theorem dec_str {i j : Str} : decide (V.str i = V.str j) = (i == j) := by
  rw [Bool.eq_iff_iff]
  simp
theorem dec_byt {i j : Array UInt8} : decide (V.byt i = V.byt j) = (i.toList == j.toList) := by
  rw [Bool.eq_iff_iff]
  cases i
  cases j
  simp
section
variable {X : Cx} {a b c : Expr} {ta tb tc : TE} {pos : Pos}
theorem fin_bl {pins : List (Addr × Obj)} {σ : St} {H : Hp} {s : Shared} {Q : VK} {k k' : Bool} (I : Inv X pins σ H s) (q : Q (.bl k) H) (e : k = k') : EP X pins σ Q (.bool k') s := by
  subst e
  exact ⟨.bl k,H,I,rfl,q⟩
theorem op_eq : OpR X (compareOp .Eq) rEq := by
  intro pins s σ H x y v u Q I rx ry h
  obtain ⟨hs,q⟩ := h
  cases x with
  | non =>
    cases rx
    cases y with
    | non => cases ry; exact PySem.EqNone.eq_none_none (fin_bl I q (by simp))
    | bl j => cases ry; exact PySem.EqNone.eq_none_bool (fin_bl I q (by simp))
    | int j => obtain ⟨t',rfl⟩ := ry; exact PySem.EqNone.eq_none_int (fin_bl I q (by simp))
    | str j => obtain ⟨t',rfl⟩ := ry; exact PySem.EqNone.eq_none_str (fin_bl I q (by simp))
    | _ => exact absurd (show false = true from hs) Bool.false_ne_true
  | bl i =>
    cases rx
    cases y with
    | non => cases ry; exact PySem.EqNone.eq_bool_none (fin_bl I q (by simp))
    | bl j => cases ry; exact eq_bool (fin_bl I q dec_bl)
    | str j => obtain ⟨t',rfl⟩ := ry; exact PySem.EqMixed.eq_bool_str (fin_bl I q (by simp))
    | _ => exact absurd (show false = true from hs) Bool.false_ne_true
  | int i =>
    obtain ⟨t,rfl⟩ := rx
    cases y with
    | non => cases ry; exact PySem.EqNone.eq_int_none (fin_bl I q (by simp))
    | int j => obtain ⟨t',rfl⟩ := ry; exact eq_int (fin_bl I q dec_int)
    | str j => obtain ⟨t',rfl⟩ := ry; exact PySem.EqMixed.eq_int_str (fin_bl I q (by simp))
    | _ => exact absurd (show false = true from hs) Bool.false_ne_true
  | str i =>
    obtain ⟨t,rfl⟩ := rx
    cases y with
    | non => cases ry; exact PySem.EqNone.eq_str_none (fin_bl I q (by simp))
    | bl j => cases ry; exact PySem.EqMixed.eq_str_bool (fin_bl I q (by simp))
    | int j => obtain ⟨t',rfl⟩ := ry; exact PySem.EqMixed.eq_str_int (fin_bl I q (by simp))
    | str j => obtain ⟨t',rfl⟩ := ry; exact eq_str (fin_bl I q dec_str)
    | _ => exact absurd (show false = true from hs) Bool.false_ne_true
  | byt i =>
    obtain ⟨t,rfl⟩ := rx
    cases y with
    | byt j => obtain ⟨t',rfl⟩ := ry; exact PySem.W.eq_bytes (fin_bl I q dec_byt)
    | _ => exact absurd (show false = true from hs) Bool.false_ne_true
  | _ => cases y <;> exact absurd (show false = true from hs) Bool.false_ne_true
theorem op_ne : OpR X (compareOp .NotEq) rNe := by
  intro pins s σ H x y v u Q I rx ry h
  obtain ⟨hs,q⟩ := h
  cases x with
  | non =>
    cases rx
    cases y with
    | non => cases ry; exact PySem.EqNone.ne_none_none (fin_bl I q (by simp))
    | bl j => cases ry; exact PySem.EqNone.ne_none_bool (fin_bl I q (by simp))
    | int j => obtain ⟨t',rfl⟩ := ry; exact PySem.EqNone.ne_none_int (fin_bl I q (by simp))
    | str j => obtain ⟨t',rfl⟩ := ry; exact PySem.EqNone.ne_none_str (fin_bl I q (by simp))
    | _ => exact absurd (show false = true from hs) Bool.false_ne_true
  | bl i =>
    cases rx
    cases y with
    | non => cases ry; exact PySem.EqNone.ne_bool_none (fin_bl I q (by simp))
    | bl j => cases ry; exact ne_bool (fin_bl I q (congrArg not dec_bl))
    | str j => obtain ⟨t',rfl⟩ := ry; exact PySem.EqMixed.ne_bool_str (fin_bl I q (by simp))
    | _ => exact absurd (show false = true from hs) Bool.false_ne_true
  | int i =>
    obtain ⟨t,rfl⟩ := rx
    cases y with
    | non => cases ry; exact PySem.EqNone.ne_int_none (fin_bl I q (by simp))
    | int j => obtain ⟨t',rfl⟩ := ry; exact ne_int (fin_bl I q (congrArg not dec_int))
    | str j => obtain ⟨t',rfl⟩ := ry; exact PySem.EqMixed.ne_int_str (fin_bl I q (by simp))
    | _ => exact absurd (show false = true from hs) Bool.false_ne_true
  | str i =>
    obtain ⟨t,rfl⟩ := rx
    cases y with
    | non => cases ry; exact PySem.EqNone.ne_str_none (fin_bl I q (by simp))
    | bl j => cases ry; exact PySem.EqMixed.ne_str_bool (fin_bl I q (by simp))
    | int j => obtain ⟨t',rfl⟩ := ry; exact PySem.EqMixed.ne_str_int (fin_bl I q (by simp))
    | str j => obtain ⟨t',rfl⟩ := ry; exact ne_str (fin_bl I q (congrArg not dec_str))
    | _ => exact absurd (show false = true from hs) Bool.false_ne_true
  | byt i =>
    obtain ⟨t,rfl⟩ := rx
    cases y with
    | byt j => obtain ⟨t',rfl⟩ := ry; exact PySem.W.ne_bytes (fin_bl I q (congrArg not dec_byt))
    | _ => exact absurd (show false = true from hs) Bool.false_ne_true
  | _ => cases y <;> exact absurd (show false = true from hs) Bool.false_ne_true
theorem op_lt : OpR X (compareOp .Lt) (rI0 fun i j => .bl (decide (i < j))) := opB0 fun _ _ _ _ _ _ _ q => lt_int q
theorem op_le : OpR X (compareOp .LtE) (rI0 fun i j => .bl (decide (i ≤ j))) := opB0 fun _ _ _ _ _ _ _ q => le_int q
theorem op_gt : OpR X (compareOp .Gt) (rI0 fun i j => .bl (decide (j < i))) := opB0 fun _ _ _ _ _ _ _ q => gt_int q
theorem op_ge : OpR X (compareOp .GtE) (rI0 fun i j => .bl (decide (j ≤ i))) := opB0 fun _ _ _ _ _ _ _ q => ge_int q
theorem nomark (b : Expr) {op : CmpOp} (h : op ≠ .In := by decide) (h2 : op ≠ .NotIn := by decide) : behindInMarks op b = false := by
  have e1 : (op == CmpOp.In) = false := by cases op <;> first | rfl | exact absurd rfl h
  have e2 : (op == CmpOp.NotIn) = false := by cases op <;> first | rfl | exact absurd rfl h2
  cases b <;> simp [behindInMarks,e1,e2]
theorem pe_cmpR {op : CmpOp} {r : R2} (ho : OpR X (compareOp op) r) (ha : PE X a ta) (hb : PE X b tb) (hm : behindInMarks op b = false) : PE X (.Compare a [op] [b] pos) (tOp r ta tb) := by
  intro pins s σ H Q I h
  exact wpAny_Compare1 (binT ha hb I h fun v u s2 x y H2 I2 rx ry q => ho pins s2 σ H2 x y v u Q I2 rx ry q) hm
noncomputable def tTest (t : TE) : TT := fun σ H Q => t σ H (BlP Q)
theorem pt_cmpR {op : CmpOp} {r : R2} (ho : OpR X (compareOp op) r) (ha : PE X a ta) (hb : PE X b tb) (hm : behindInMarks op b = false) : PT X (.Compare a [op] [b] pos) (tTest (tOp r ta tb)) := by
  intro pins s σ H Q I h
  refine wpAny_isTrue_Compare1 (thn (ha pins s σ H _ I h) fun v s1 ⟨x,H1,I1,r1,q1⟩ => thn (hb pins s1 σ H1 _ I1 q1) fun u s2 ⟨y,H2,I2,r2,q2⟩ =>
    thn (ho pins s2 σ H2 x y v u _ I2 r1 r2 q2) fun c s3 ⟨z,H3,I3,r3,k,e,q3⟩ => ?_) hm
  subst e
  cases r3
  exact wpAny_truthy_bool ⟨H3,I3,q3⟩
theorem line63 : (sizeLine : Nat) < 2 ^ 63 := by rw [sizeLine_eq]; decide
theorem vals1 {x : V} {us : List Value} (r : Vals [x] us) : ∃ u,us = [u] ∧ RelV x u := by
  cases r with
  | cons r1 r2 => cases r2; exact ⟨_,rfl,r1⟩
end
end L2
namespace L2
open PySem PySem.Spec PyProof.Rows
structure ObjM (h : Heap) (x dx C : Addr) (mA : Str → Option Value) : Prop where
  obj : h.get? x = some (PySem.W.instObj C dx)
  ns : h.Ns1 dx mA
  ne : dx ≠ x
theorem lookIn_ns {h : Heap} {dx : Addr} {mA : Str → Option Value} (n : h.Ns1 dx mA) : ∃ od,h.get? dx = some od ∧ ∀ name,PySem.W.lookIn name od = some (mA name) := by
  obtain ⟨o,es,ep,ho,hd,hk,_,hm⟩ := n
  refine ⟨o,ho,fun name => ?_⟩
  have e := hm name
  unfold nsFind findBy at e
  rw [← Array.find?_toList] at e
  unfold PySem.W.lookIn
  rw [hd]
  dsimp only
  split
  · rename_i y q
    rw [q] at e
    exact congrArg some e
  · rename_i q
    rw [q] at e
    have a : es.toList.any (·.refKey) = false := by
      rw [List.any_eq_false]
      intro y hy
      obtain ⟨z,t,hkey⟩ := hk y (Array.mem_toList_iff.mp hy)
      simp [DictEntry.refKey,hkey]
    have a' : ¬ es.toList.any (·.refKey) = true := by rw [a]; exact Bool.false_ne_true
    rw [if_neg a']
    exact congrArg some e
theorem ObjM.look {h : Heap} {x dx C : Addr} {mA : Str → Option Value} (I : ObjM h x dx C mA) : ∃ od,PySem.W.InstAt h x (PySem.W.instObj C dx) C (some od) ∧ ∀ name,PySem.W.lookIn name od = some (mA name) :=
  let ⟨od,ho,hl⟩ := lookIn_ns I.ns
  ⟨od,⟨I.obj,rfl,rfl,ho⟩,hl⟩
section
variable {prog : Program} {w : World} {A : Around} {E : Value → Shared → Prop} {s : Shared} {K : PySem.W.Frag} {x dx C f : Addr} {mA : Str → Option Value} {name : Str} {v : Value}
end
theorem RelO.some_of {v : V} {o : Option Value} (r : RelO (some v) o) : ∃ u,o = some u ∧ RelV v u := by
  cases o with
  | none => exact (show False from r).elim
  | some u => exact ⟨u,rfl,r⟩
theorem RelO.none_of {o : Option Value} (r : RelO none o) : o = none := by
  cases o with
  | none => rfl
  | some u => exact (show False from r).elim
section
variable {P : Program} {w : World} {H H' : Hp} {h h' : Heap} {a C dx : Addr} {fs fs' : List (Str × V)}
theorem ins_get (hok : HOk P w H h) (e : H a = some (.ins C dx fs)) : ∃ mA,ObjM h a dx C mA ∧ (∀ f,RelO (fs.lookup f) (mA f)) ∧ PySem.Within mA (fs.map (·.1)) ∧ fs.length ≤ 1000 ∧ H dx = some (.own a) := by
  obtain ⟨d,z,ne,ob,mA,n,r,q⟩ := (show ObjOk P w H h a (.ins C dx fs) from hok a _ e)
  exact ⟨mA,⟨ob,n,ne⟩,r,q,z,d⟩
end
structure Cls (K : PySem.W.Frag) (C : Addr) : Prop where
  pg : PySem.W.plainGet K C Str.empty = true
  hd : PySem.W.hasDictIn K C = true
  po : PySem.W.plainOver K C = true
  sa : PySem.W.findIn K (.ref C) "__setattr__" = some (some (.builtin "object.__setattr__"))
theorem Cls.get {K : PySem.W.Frag} {C : Addr} (c : Cls K C) (f : Str) : PySem.W.plainGet K C f = true := c.pg
structure Con (K : PySem.W.Frag) (C : Addr) (f : Str) (v : V) (u : Value) : Prop where
  at_ : PySem.W.findIn K (.ref C) f = some (some u)
  rel : RelV v u
  get : PySem.W.specialIn K u "__get__" = some none
  cp : PySem.W.copiedNames.contains f = false
structure Meth (K : PySem.W.Frag) (C : Addr) (m : Str) (f : Addr) : Prop where
  at_ : PySem.W.findIn K (.ref C) m = some (some (.ref f))
  fn : PySem.W.isFn K (.ref f) = true
  kp : PySem.W.keepIn K (.ref f) = true
section
variable {X : Cx} {pins : List (Addr × Obj)} {σ : St} {H : Hp} {s : Shared} {a C dx : Addr} {fs : List (Str × V)} {f : Str} {v : V} {A : Around} {E : Value → Shared → Prop}
end
section
variable {X : Cx} {o e value : Expr} {f : Str} {pos pos' tpos : Pos} {ta tv : TE}
end
section
variable {X : Cx} {pins : List (Addr × Obj)} {σ : St} {H : Hp} {s : Shared} {A : Around} {E : Value → Shared → Prop} {Q : Value → Shared → Prop} {c : Value} {b : Bool}
inductive TyOf (K : PySem.W.Frag) (H : Hp) : V → Value → Prop where
  | non : TyOf K H .non (.type "NoneType")
  | bl (x : Bool) : TyOf K H (.bl x) (.type "bool")
  | int (i : Int) : TyOf K H (.int i) (.type "int")
  | str (x : Str) : TyOf K H (.str x) (.type "str")
  | flt (x : UInt64) : TyOf K H (.flt x) (.type "float")
  | lst {a : Addr} {xs : List V} (e : H a = some (.lst xs)) : TyOf K H (.ref a) (.type "list")
  | frz {a : Addr} {o : Obj} {xs : List V} (e : H a = some (.frz o (.lst xs))) : TyOf K H (.ref a) (.type "list")
  | tup {a : Addr} {xs : List V} (e : H a = some (.tup xs)) : TyOf K H (.ref a) (.type "tuple")
  | dK {a : Addr} {kvs : List (Key × V)} (e : H a = some (.dK kvs)) : TyOf K H (.ref a) (.type "dict")
  | dT {a : Addr} {kvs : List (List Key × V)} (e : H a = some (.dT kvs)) : TyOf K H (.ref a) (.type "dict")
  | ins {a C dx : Addr} {fs : List (Str × V)} (e : H a = some (.ins C dx fs)) (cl : Cls K C) (ha : PySem.W.findIn K (.ref C) "__class__" = some (some (.builtin "object.__class__")))
      (hn : PySem.W.specialIn K (.builtin "object.__class__") "__get__" = some (some (.builtin "getset_descriptor.__get__"))) (htk : PySem.W.takesIn K (.builtin "object.__class__") = some true)
      (hm : PySem.W.mroIn K C (.type "object") = some true) : TyOf K H (.ref a) (.ref C)
theorem isinst_ok {x : V} {u t : Value} (I : Inv X pins σ H s) (rx : RelV x u) (ty : TyOf X.K H x t) (e : PySem.W.kitOne X.K t c = some b) (h : ∀ tk,Q (.bool b) { s with toks := tk }) :
    wpAny (model X.prog X.w) A (call (.builtin "isinstance") [u,c]) Q E s := by
  cases ty with
  | non => cases (show u = Value.none from rx); exact PySem.W.kia_one PySem.W.kitx_none I.kIn True.intro e (fun z => nomatch z) h
  | bl y => cases (show u = Value.bool y from rx); exact PySem.W.kia_one PySem.W.kitx_bool I.kIn True.intro e (fun z => nomatch z) h
  | int i => obtain ⟨t,q⟩ := (show ∃ t,u = Value.int i t from rx); cases q; exact PySem.W.kia_one PySem.W.kitx_int I.kIn True.intro e (fun z => nomatch z) h
  | str y => obtain ⟨t,q⟩ := (show ∃ t,u = Value.str y t from rx); cases q; exact PySem.W.kia_one PySem.W.kitx_str I.kIn True.intro e (fun z => nomatch z) h
  | flt y => obtain ⟨t,q⟩ := (show ∃ t,u = Value.float y t from rx); cases q; exact PySem.W.kia_one PySem.W.kitx_float I.kIn True.intro e (fun z => nomatch z) h
  | @lst a xs ea =>
    cases (show u = Value.ref a from rx)
    obtain ⟨_,_,n,_,h1⟩ := (show ObjOk X.prog X.w H s.heap a (.lst xs) from I.hok a _ ea)
    exact PySem.W.kia_one PySem.W.kitx_list I.kIn ⟨_,h1,rfl⟩ e (fun z => nomatch z) h
  | @frz a ob xs ea =>
    cases (show u = Value.ref a from rx)
    obtain ⟨_,_,_,n,_,h1⟩ := (show ObjOk X.prog X.w H s.heap a (.frz ob (.lst xs)) from I.hok a _ ea)
    exact PySem.W.kia_one PySem.W.kitx_list I.kIn ⟨_,h1,rfl⟩ e (fun z => nomatch z) h
  | @tup a xs ea =>
    cases (show u = Value.ref a from rx)
    obtain ⟨_,_,_,p⟩ := (show ObjOk X.prog X.w H s.heap a (.tup xs) from I.hok a _ ea)
    obtain ⟨o,h1,h2,_⟩ := p
    exact PySem.W.kia_one PySem.W.kitx_tuple I.kIn ⟨o,h1,h2⟩ e (fun z => nomatch z) h
  | @dK a kvs ea =>
    cases (show u = Value.ref a from rx)
    obtain ⟨_,_,vs,_,p⟩ := (show ObjOk X.prog X.w H s.heap a (.dK kvs) from I.hok a _ ea)
    obtain ⟨o,es,ep,h1,h2,_⟩ := p
    exact PySem.W.kia_one PySem.W.kitx_dict I.kIn ⟨o,h1,h2.1⟩ e (fun z => nomatch z) h
  | @dT a kvs ea =>
    cases (show u = Value.ref a from rx)
    obtain ⟨_,_,xs,_,o,es,ep,h1,h2,_⟩ := (show ObjOk X.prog X.w H s.heap a (.dT kvs) from I.hok a _ ea)
    exact PySem.W.kia_one PySem.W.kitx_dict I.kIn ⟨o,h1,h2.1⟩ e (fun z => nomatch z) h
  | @ins a C dx fs ea cl ha hn htk hm =>
    cases (show u = Value.ref a from rx)
    obtain ⟨mA,O,_⟩ := ins_get I.hok ea
    obtain ⟨od,J,_⟩ := O.look
    exact PySem.W.kia_one (PySem.W.kitx_own (cl.get _) cl.hd ha hn htk hm) I.kIn J e (fun z => nomatch z) h
end
end L2
namespace L2
open PySem PySem.Spec PyProof.Rows
structure Room (k : Nat) (A : Around) : Prop where
  hd : A.handled = none
  dp : A.depth + 3 * k + 5 < recursionLimit
  un : A.units + 16 * k + 200 < cLine
theorem Room.mono {j k : Nat} {A : Around} (r : Room k A) (h : j ≤ k) : Room j A := ⟨r.hd,by have := r.dp; omega,by have := r.un; omega⟩
theorem Room.deeper {k : Nat} {A : Around} (r : Room (k + 1) A) (env : Env) : Room k (A.deeper env) :=
  ⟨r.hd,by have := r.dp; show A.depth + 1 + 3 * k + 5 < _; omega,by have := r.un; show A.units + 3 + 16 * k + 200 < _; omega⟩
theorem Room.depth {k : Nat} {A : Around} (r : Room k A) : A.depth < recursionLimit := by have := r.dp; omega
theorem Room.units {k : Nat} {A : Around} (r : Room k A) : A.units + 64 < cLine := by have := r.un; omega
noncomputable def tNil : TA := fun _ H Q => Q [] H
noncomputable def tCons (ta : TE) (tr : TA) : TA := fun σ H Q => ta σ H fun x H1 => tr σ H1 fun xs H2 => Q (x :: xs) H2
section
variable {X : Cx} {e : Expr} {es : List Expr} {te : TE} {t : TA} {pos : Pos}
theorem pa_nil : PA X [] tNil := fun _ _ _ _ H Q I h => Calls.spliced_nil ⟨[],H,I,.nil,h⟩
theorem pa_cons (ha : PE X e te) (hr : PA X es t) (hs : starEach (e :: es) X.env = (false,eval e X.env) :: starEach es X.env := by rfl) : PA X (e :: es) (tCons te t) := by
  intro pos pins s σ H Q I h
  rw [hs]
  show wpAny _ _ (spliced ((false,eval e X.env) :: backTo pos (starEach es X.env))) _ _ s
  refine Calls.spliced_cons (thn (ha pins s σ H _ I h) fun u s1 zy => ?_)
  obtain ⟨x,H1,I1,r1,q1⟩ := zy
  exact thn (hr pos pins s1 σ H1 _ I1 q1) fun us s2 ⟨xs,H2,I2,r2,q2⟩ => ⟨x :: xs,H2,I2,.cons r1 r2,q2⟩
noncomputable def tTup (t : TA) : TE := fun σ H Q => t σ H fun xs H1 => xs.length ≤ sizeLine ∧ ∀ p,H1 p = none → Q (.ref p) (upd H1 p (.tup xs))
noncomputable def tLst (t : TA) : TE := fun σ H Q => t σ H fun xs H1 => xs.length ≤ sizeLine ∧ ∀ p,H1 p = none → Q (.ref p) (upd H1 p (.lst xs))
theorem pe_tup {x1} (h : PA X es t) : PE X (.Tuple es x1 pos) (tTup t) := by
  intro pins s σ H Q I hq
  refine wpAny_Tuple_spliced (thn (h pos pins s σ H _ I hq) fun us s1 ⟨xs,H1,I1,r,z,q⟩ => ⟨by rw [← r.length]; exact z,?_⟩)
  have hf : H1 s1.heap.objs.size = none := I1.hok.fresh (Nat.le_refl _)
  refine ⟨.ref s1.heap.objs.size,upd H1 s1.heap.objs.size (.tup xs),I1.laid (t' := s1.toks) (fun b u e => Heap.get?_push_of_some _ e) (Nat.le_refl _) ?_,rfl,q _ hf⟩
  exact ⟨z,us,r,⟨_,Heap.get?_push_size _ rfl,rfl,_,rfl⟩⟩
theorem pe_lst (h : PA X es t) : PE X (.List es pos) (tLst t) := by
  intro pins s σ H Q I hq
  refine wpAny_List_spliced (thn (h pos pins s σ H _ I hq) fun us s1 ⟨xs,H1,I1,r,z,q⟩ => ⟨by rw [← r.length]; exact z,?_⟩)
  have hf : H1 s1.heap.objs.size = none := I1.hok.fresh (Nat.le_refl _)
  refine ⟨.ref s1.heap.objs.size,upd H1 s1.heap.objs.size (.lst xs),I1.laid (t' := s1.toks) (fun b u e => Heap.get?_push_of_some _ e) (Nat.le_refl _) ?_,rfl,q _ hf⟩
  exact ⟨z,us,0,r,Heap.get?_push_size _ rfl⟩
end
noncomputable abbrev Sp := List V → Hp → VK → XK → Prop
noncomputable abbrev CXT := List Env → Hp → Shared → XK → Value → Shared → Prop
structure Env0 (P : Program) (w : World) (K : PySem.W.Frag) (mg : Str → Option Value) (base : Heap) (A : Around) (outer : List Env) (s : Shared) (H : Hp) : Prop where
  frames : A.frames = some outer
  mod : Mod K mg base
  bs : ∀ b o,base.get? b = some o → s.heap.get? b = some o ∧ H b = none
  bsz : base.objs.size ≤ s.heap.objs.size
  funs : s.heap.FunFrames base outer
  frf : ∀ b ∈ frs outer,H b = none
  hok : HOk P w H s.heap
  bare : AllBare s.gens
noncomputable def CE (outer : List Env) (P : Program) (w : World) (H : Hp) (s : Shared) (Q : VK) (u : Value) (s' : Shared) : Prop :=
  ∃ v H',s'.os = s.os ∧ AllBare s'.gens ∧ Un (frs outer) [] H H' s.heap s'.heap ∧ HOk P w H' s'.heap ∧ RelV v u ∧ Q v H'
noncomputable def CR (CX : CXT) (outer : List Env) (P : Program) (w : World) (H : Hp) (s : Shared) (Q : VK) (E : XK) (r : Result) (s' : Shared) : Prop :=
  match r with
  | .ok (.ret u) => CE outer P w H s Q u s'
  | .ok _ => False
  | .error e => CX outer H s E e s'
structure FnOk (P : Program) (w : World) (K : PySem.W.Frag) (mg : Str → Option Value) (base : Heap) (CX : CXT) (k : Nat) (f : Addr) (fd : FuncData) (ps : List Str) (sp : Sp) : Prop where
  len : ∀ vs H Q E,sp vs H Q E → vs.length = ps.length
  run : ∀ (A : Around) (outer : List Env) (s : Shared) (H : Hp) (args : Args) (us : List Value) (vs : List V) (Q : VK) (E : XK),Room k A → Env0 P w K mg base A outer s H → BindsTo s fd args (ps.zip us) → Vals vs us → sp vs H Q E →
    codeAny (model P w) A (.call (.ref f) args) (CR CX outer P w H s Q E) s
section
variable {X : Cx} {pins : List (Addr × Obj)} {σ : St} {H : Hp} {s s' : Shared}
theorem Inv.env0 (I : Inv X pins σ H s) : Env0 X.prog X.w X.K X.mg X.base X.A X.stack s H :=
  ⟨I.ok.frames,I.ok.mod,I.bs,Nat.le_trans I.ok.bsz I.sz,I.stack,I.stkFree,I.hok,I.bare⟩
theorem Inv.after {Q : VK} {u : Value} (I : Inv X pins σ H s) (h : CE X.stack X.prog X.w H s Q u s') : EP X pins σ Q u s' := by
  obtain ⟨v,H',os,bare,un,hok,r,q⟩ := h
  obtain ⟨hh,g,d,t,os'⟩ := s'
  obtain rfl : os' = s.os := os
  exact ⟨v,H',I.call (h' := hh) (g' := g) (d' := d) (t' := t) (ch := []) un hok bare (fun b z => absurd z (by simp)),r,q⟩
end
noncomputable def tCall (sp : Sp) (dvs : List V) (E : XK) (t : TA) : TE := fun σ H Q => t σ H fun vs H1 => sp (vs ++ dvs) H1 Q E
noncomputable def Binds (K : PySem.W.Frag) (fd : FuncData) (ps : List Str) (ds : List Value) : Prop :=
  ∀ (s : Shared) (us : List Value),K.In s.heap → (us ++ ds).length = ps.length → BindsTo s fd ⟨us,[]⟩ (ps.zip (us ++ ds))
theorem Binds.all {K : PySem.W.Frag} {fd : FuncData} {ps : List Str} (h : ∀ us : List Value,us.length = ps.length → bindArgs fd ⟨us,[]⟩ = pure (ps.zip us)) : Binds K fd ps [] := fun s us _ hl => by
  rw [List.append_nil] at hl ⊢
  exact .of_eq (h us hl)
noncomputable def Passes (CX : CXT) (X : Cx) (E : XK) : Prop := ∀ (pins : List (Addr × Obj)) (σ : St) (H : Hp) (s : Shared) (e : Value) (s' : Shared),Inv X pins σ H s → CX X.stack H s E e s' → X.xe e s'
section
variable {X : Cx} {CX : CXT} {k : Nat} {f C : Addr} {fd : FuncData} {ps : List Str} {sp : Sp} {dvs : List V} {ds : List Value} {E : XK} {x m : Str} {p pos apos : Pos} {e o : Expr} {es : List Expr} {ta : TE} {t : TA}
theorem run_fn {pins : List (Addr × Obj)} {σ : St} {H : Hp} {s : Shared} {Q : VK} {us : List Value} {vs : List V} (F : FnOk X.prog X.w X.K X.mg X.base CX k f fd ps sp) (hr : Room k X.A) (hb : Binds X.K fd ps ds) (hd : Vals dvs ds) (hx : Passes CX X E)
    (I : Inv X pins σ H s) (r : Vals vs us) (h : sp (vs ++ dvs) H Q E) : wpAny (model X.prog X.w) X.A (call (.ref f) us) (EP X pins σ Q) X.xe s := by
  have r2 : Vals (vs ++ dvs) (us ++ ds) := r.append hd
  have hl : (us ++ ds).length = ps.length := by rw [← r2.length]; exact F.len _ _ _ _ h
  refine wpAny_call (codeAny_mono (F.run X.A X.stack s H ⟨us,[]⟩ (us ++ ds) (vs ++ dvs) Q E hr I.env0 (hb s us I.kIn hl) r2 h) fun r s' hq => ?_)
  cases r with
  | error e => exact hx pins σ H s e s' I hq
  | ok fl =>
    cases fl with
    | ret u => exact I.after hq
    | next => exact False.elim hq
    | brk => exact False.elim hq
    | cont => exact False.elim hq
theorem pe_call (F : FnOk X.prog X.w X.K X.mg X.base CX k f fd ps sp) (hr : Room k X.A) (hg : Gl X x) (hm : X.mg x = some (.ref f)) (hk : PySem.W.keepIn X.K (.ref f) = true) (hb : Binds X.K fd ps ds) (hd : Vals dvs ds) (hx : Passes CX X E)
    (ha : PA X (e :: es) t) (hdb : (x == ("__debug__" : Str)) = false := by decide) (he : starEach (e :: es) X.env = (false,eval e X.env) :: starEach es X.env := by rfl) (hpl : (backTo pos (starEach es X.env)).any (·.1) = false := by rfl) :
    PE X (.Call (.Name x p) (e :: es) [] pos) (tCall sp dvs E t) := by
  intro pins s σ H Q I h
  refine wpAny_Call_Name_kw (ld_glob I hg hm ?_ hdb)
  refine PySem.W.callWith_K (h₀ := X.base) I.ok.mod.kin hk (thn (ha pos pins s σ H _ I h) fun us s1 ⟨vs,H1,I1,r,q⟩ => ⟨I1.kIn,?_⟩) he hpl
  exact run_fn F hr hb hd hx I1 r q
structure Mk (K : PySem.W.Frag) (C f : Addr) : Prop where
  makes : PySem.W.makesIn K C = true
  init : PySem.W.findIn K (.ref C) "__init__" = some (some (.ref f))
  fn : PySem.W.isFn K (.ref f) = true
  kp : PySem.W.keepIn K (.ref C) = true
end
section
variable {X : Cx} {CX : CXT} {k : Nat} {f C : Addr} {fd : FuncData} {ps ks : List Str} {sp : Sp} {E : XK} {x m : Str} {p pos apos kpos : Pos} {e o : Expr} {es : List Expr} {kws : List Keyword} {te ta : TE} {t tk : TA} {nm : Option Str}
structure KBinds (K : PySem.W.Frag) (fd : FuncData) (ps ks : List Str) (g : List Value → List Value → List Value) (gV : List V → List V → List V) : Prop where
  to : ∀ (s : Shared) (us ws : List Value),K.In s.heap → (g us ws).length = ps.length → BindsTo s fd ⟨us,ks.zip ws⟩ (ps.zip (g us ws))
  rel : ∀ {vs : List V} {us : List Value} {zs : List V} {ws : List Value},Vals vs us → Vals zs ws → Vals (gV vs zs) (g us ws)
variable {g : List Value → List Value → List Value} {gV : List V → List V → List V}
end
structure FnScope (N P : List Str) (sc : Scope) : Prop where
  kind : sc.kind = .function
  co : sc.isCoroutine = false
  gen : sc.isGenerator = false
  nd : N.Nodup
  pre : N.take P.length = P
  par : ∀ x ∈ P,sc.names.lookup x = some .local ∨ sc.names.lookup x = some .cell
  nofree : ∀ y ∈ sc.names,y.2 ≠ .free
theorem bindL_out {kindOf : Str → Option NameKind} {x : Str} : ∀ {binds : List (Str × Value)} {m : Str → Option Value},(∀ v,(x,v) ∉ binds) → bindL kindOf binds m x = m x
  | [],_,_ => rfl
  | (n,v) :: r,m,h => by
    unfold bindL
    rw [bindL_out fun w hw => h w (List.mem_cons_of_mem _ hw)]
    split
    · have : x ≠ n := by rintro rfl; exact h v List.mem_cons_self
      simp [this]
    · rfl
theorem bindC_out {kindOf : Str → Option NameKind} {x : Str} : ∀ {binds : List (Str × Value)} {m : Str → Option Value},(∀ v,(x,v) ∉ binds) → bindC kindOf binds m x = m x
  | [],_,_ => rfl
  | (n,v) :: r,m,h => by
    unfold bindC
    rw [bindC_out fun w hw => h w (List.mem_cons_of_mem _ hw)]
    split
    · rfl
    · have : x ≠ n := by rintro rfl; exact h v List.mem_cons_self
      simp [this]
theorem bindL_get {kindOf : Str → Option NameKind} {x : Str} {v : Value} : ∀ {P : List Str} {vs : List Value} {i : Nat} {m : Str → Option Value},P.Nodup → P[i]? = some x → vs[i]? = some v → kindOf x = some .local →
    bindL kindOf (P.zip vs) m x = some v
  | [],_,_,_,_,h,_,_ => by simp at h
  | _ :: _,[],_,_,_,_,h,_ => by simp at h
  | p :: P,w :: vs,0,m,nd,h1,h2,hk => by
    simp at h1 h2; subst h1; subst h2
    show bindL kindOf ((p,w) :: P.zip vs) m p = _
    unfold bindL
    rw [bindL_out fun v hv => (List.nodup_cons.mp nd).1 (List.of_mem_zip hv).1,if_pos hk]
    simp
  | p :: P,w :: vs,i + 1,m,nd,h1,h2,hk => by
    show bindL kindOf ((p,w) :: P.zip vs) m x = _
    unfold bindL
    exact bindL_get (i := i) (List.nodup_cons.mp nd).2 (by simpa using h1) (by simpa using h2) hk
theorem bindC_get {kindOf : Str → Option NameKind} {x : Str} {v : Value} : ∀ {P : List Str} {vs : List Value} {i : Nat} {m : Str → Option Value},P.Nodup → P[i]? = some x → vs[i]? = some v → kindOf x ≠ some .local →
    bindC kindOf (P.zip vs) m x = some v
  | [],_,_,_,_,h,_,_ => by simp at h
  | _ :: _,[],_,_,_,_,h,_ => by simp at h
  | p :: P,w :: vs,0,m,nd,h1,h2,hk => by
    simp at h1 h2; subst h1; subst h2
    show bindC kindOf ((p,w) :: P.zip vs) m p = _
    unfold bindC
    rw [bindC_out fun v hv => (List.nodup_cons.mp nd).1 (List.of_mem_zip hv).1,if_neg hk]
    simp
  | p :: P,w :: vs,i + 1,m,nd,h1,h2,hk => by
    show bindC kindOf ((p,w) :: P.zip vs) m x = _
    unfold bindC
    exact bindC_get (i := i) (List.nodup_cons.mp nd).2 (by simpa using h1) (by simpa using h2) hk
noncomputable def start (N : List Str) (vs : List V) : St := vs.map some ++ List.replicate (N.length - vs.length) none
noncomputable def cxOf (CX : CXT) (P : Program) (w : World) (K : PySem.W.Frag) (mg : Str → Option Value) (base : Heap) (N : List Str) (qual : Str) (scope : Scope) (f : Addr) (cd : Value) (A : Around) (outer : List Env) (s : Shared) (H : Hp) (E : XK) : Cx where
  prog := P
  w := w
  K := K
  mg := mg
  base := base
  A := A.deeper (envOfC qual scope s.heap.objs.size f cd)
  N := N
  s₀ := s
  H₀ := H
  env := envOfC qual scope s.heap.objs.size f cd
  outer := outer
  stack := envOfC qual scope s.heap.objs.size f cd :: outer
  ex := []
  calm := true
  fn := fun _ => true
  pn := []
  xe := fun e s' => wpAny (model P w) (A.deeper (envOfC qual scope s.heap.objs.size f cd)) (leaving (envOfC qual scope s.heap.objs.size f cd) e) (fun _ s'' => CX outer H s E e s'') (fun e' s'' => CX outer H s E e' s'') s'
theorem cell_has {sc : Scope} {n : Nat} {x : Str} (h : sc.names.lookup x = some .cell) : ∃ c,(cellsFrom n sc.names []).lookup x = some c := by
  have q := PySem.W.cellsFrom_some sc.names n [] (.inl h)
  exact Option.isSome_iff_exists.mp q
theorem inv_start {CX : CXT} {P : Program} {w : World} {K : PySem.W.Frag} {mg : Str → Option Value} {base : Heap} {N ps : List Str} {qual : Str} {scope : Scope} {f : Addr} {cd : Value} {A : Around} {outer : List Env} {s s1 : Shared} {H : Hp} {E : XK} {us : List Value} {vs : List V}
    (S : FnScope N ps scope) (hd : A.handled = none) (e0 : Env0 P w K mg base A outer s H) (hl : vs.length = ps.length) (r : Vals vs us)
    (x : InCallC s s.heap.objs.size (bindL (envOfC qual scope s.heap.objs.size f cd).kindOf (ps.zip us) fun _ => none) (cellsFrom (s.heap.objs.size + 1) scope.names []) (bindC (envOfC qual scope s.heap.objs.size f cd).kindOf (ps.zip us) fun _ => none) s1) :
    Inv (cxOf CX P w K mg base N qual scope f cd A outer s H E) [] (start N vs) H s1 := by
  have hpl : ps.length ≤ N.length := by have := congrArg List.length S.pre; rw [List.length_take] at this; omega
  obtain ⟨h1,tk,rfl,hk⟩ := x.done
  have noA : ∀ b : Addr,b ∉ (cxOf CX P w K mg base N qual scope f cd A outer s H E).ex := fun b z => absurd (show b ∈ ([] : List Addr) from z) (by simp)
  refine ⟨⟨e0.mod,S.kind,rfl,rfl,Nat.le_refl _,fun y z c h1 h2 => ?_,fun y hy => ?_,fun y c _ h => ?_,fun _ => hd,Around.frames_deeper e0.frames,.inr ⟨rfl,rfl⟩,fun b z => absurd z (noA b),e0.bs,e0.bsz,fun b _ _ => noA b,fun b z => absurd z (noA b),e0.funs,e0.frf⟩,
    rfl,e0.bare,Un.kept hk,⟨_,x.toInCall.ns,fun i y v h1 h2 h3 => ?_⟩,fun y c h => ⟨_,x.cell y c h⟩,e0.hok.fresh (Nat.le_refl _),fun y c h => ?_,fun p hp => absurd (show p ∈ ([] : List (Addr × Obj)) from hp) (by simp),e0.hok.kept hk,?_⟩
  · exact name_of_addr x.apart (PySem.mem_of_lookup h1) (PySem.mem_of_lookup h2)
  · have hy : scope.names.lookup y = some .cell ∨ scope.names.lookup y = some .free := hy
    rcases hy with hy | hy
    · exact cell_has hy
    · exact absurd rfl (S.nofree _ (PySem.mem_of_lookup hy))
  · exact Nat.le_of_lt (x.above y c (PySem.mem_of_lookup h))
  · have hi : i < vs.length := by
      unfold start at h2
      by_cases hi : i < vs.length
      · exact hi
      · rw [List.getElem?_append_right (by simpa using hi)] at h2
        rw [List.getElem?_replicate] at h2
        split at h2 <;> cases h2
    have ha : vs[i]? = some v := by
      unfold start at h2
      rw [List.getElem?_append_left (by simpa using hi),List.getElem?_map] at h2
      cases e : vs[i]? with
      | none => rw [e] at h2; cases h2
      | some a => rw [e] at h2; cases h2; rfl
    obtain ⟨u,hu,rv⟩ := r.get ha
    have hp : ps[i]? = some y := by
      rw [← S.pre,List.getElem?_take_of_lt (by omega)]; exact h1
    have ndP : ps.Nodup := by rw [← S.pre]; exact S.nd.sublist (List.take_sublist _ _)
    refine ⟨u,rv,?_⟩
    rcases S.par y (List.mem_of_getElem? hp) with k | k
    · exact .inl ⟨k,bindL_get ndP hp hu k⟩
    · obtain ⟨c,e⟩ := cell_has (n := s.heap.objs.size + 1) k
      refine .inr ⟨.inl k,c,e,?_⟩
      have q := x.cell y c e
      rw [bindC_get ndP hp hu (by show scope.names.lookup y ≠ _; rw [k]; decide)] at q
      exact q
  · exact e0.hok.fresh (Nat.le_of_lt (x.above y c (PySem.mem_of_lookup h)))
  · unfold start
    show _ = N.length
    rw [List.length_append,List.length_map,List.length_replicate]
    omega
theorem fn_of {CX : CXT} {P : Program} {w : World} {K : PySem.W.Frag} {mg : Str → Option Value} {base : Heap} {k : Nat} {f : Addr} {name qual : Str} {params : Arguments} {body : List Stmt} {scope : Scope} {dV kV doc pm cdv ct oc : Value} {an od : Option Addr}
    {osl : Array (Option Value)} {N ps : List Str} {sp : Sp} (lk : K.lookup f = some ⟨oc,od,.func (PySem.W.fnOf name qual params body scope dV kV doc pm an cdv ct),osl⟩) (hcd : PySem.W.codeIn K cdv qual = true) (S : FnScope N ps scope)
    (len : ∀ vs H Q E,sp vs H Q E → vs.length = ps.length)
    (hbody : ∀ (A : Around) (outer : List Env) (s : Shared) (H : Hp) (vs : List V) (Q : VK) (E : XK),Room k (A.deeper (envOfC qual scope s.heap.objs.size f cdv)) → sp vs H Q E →
      ∃ t,PSs (cxOf CX P w K mg base N qual scope f cdv A outer s H E) body t ∧ t { nx := fun _ H' => Q .non H',rt := Q } (start N vs) H) :
    FnOk P w K mg base CX (k + 1) f (PySem.W.fnOf name qual params body scope dV kV doc pm an cdv ct) ps sp := by
  refine ⟨len,fun A outer s H args us vs Q E hr e0 hb r hsp => ?_⟩
  have hl := len _ _ _ _ hsp
  have KX : K.In s.heap := e0.mod.kin.keeps fun b o e => (e0.bs b o e).1
  have lim : s.heap.NoLimit := e0.mod.nolimit.keeps fun b o e => (e0.bs b o e).1
  have hkind : ∀ y ∈ ps.zip us,scope.names.lookup y.1 = some .local ∨ (scope.names.lookup y.1 = some .cell ∧ ((cellsFrom (s.heap.objs.size + 1) scope.names []).lookup y.1).isSome = true) := fun ⟨n,v⟩ hy => by
    rcases S.par n (List.of_mem_zip hy).1 with q | q
    · exact .inl q
    · exact .inr ⟨q,PySem.W.cellsFrom_some _ _ _ (.inl q)⟩
  refine codeAny_call_function hr.depth (KX _ _ lk) rfl S.co S.gen rfl (PySem.W.codeRec_of KX hcd) (hb _ _ _ _ ?_)
  refine wpAny_newFunctionEnv_cells S.kind hkind fun env he s1 x => ?_
  subst he
  refine ⟨lim.keeps x.toInCall.keep,codeAny_func ?_⟩
  obtain ⟨t,ht,hq⟩ := hbody A outer s H vs Q E (hr.deeper _) hsp
  have I : Inv (cxOf CX P w K mg base N qual scope f cdv A outer s H E) [] (start N vs) H s1 := inv_start S hr.hd e0 hl r x
  refine wpAny_mono (ht [] s1 (start N vs) H _ I hq) (fun fl s' hs => ?_) fun e s' hs => hs
  have fin : ∀ {σ' : St} {H' : Hp} {v : V} {u : Value},Inv (cxOf CX P w K mg base N qual scope f cdv A outer s H E) [] σ' H' s' → RelV v u → Q v H' → CE outer P w H s Q u s' :=
    fun {σ' H' v u} J rv q => ⟨v,H',J.os,J.bare,J.base,J.hok,rv,q⟩
  cases fl with
  | ret u =>
    obtain ⟨v,σ',H',J,rv,q⟩ := hs
    exact fin J rv q
  | next =>
    obtain ⟨σ',H',J,q⟩ := hs
    exact fin (v := V.non) (u := Value.none) J rfl q
  | brk =>
    obtain ⟨_,_,_,q⟩ := hs
    exact False.elim q
  | cont =>
    obtain ⟨_,_,_,q⟩ := hs
    exact False.elim q
end L2
namespace L2
open PySem PySem.Spec PyProof.Rows
section
variable {X : Cx} {x : Str} {p pos : Pos} {e : Expr} {es : List Expr} {t : TA} {id T : String} {r : List V → Hp → VK → Prop}
noncomputable def tCB (r : List V → Hp → VK → Prop) (t : TA) : TE := fun σ H Q => t σ H fun vs H1 => r vs H1 Q
theorem pe_callB (hc : CallR X (.builtin id) r) (hg : Gl X x) (hm : X.mg x = none) (hv : bootBuiltins x = some (.builtin id)) (ha : PA X (e :: es) t) (hn : x ≠ "__name__" := by decide) (hdb : (x == ("__debug__" : Str)) = false := by decide)
    (he : starEach (e :: es) X.env = (false,eval e X.env) :: starEach es X.env := by rfl) (hpl : (backTo pos (starEach es X.env)).any (·.1) = false := by rfl) : PE X (.Call (.Name x p) (e :: es) [] pos) (tCB r t) := by
  intro pins s σ H Q I h
  refine wpAny_Call_Name_kw (ld_blt I hg hm hv ?_ hn hdb)
  exact PyProof.Rows.callWith_builtin1 (thn (ha pos pins s σ H _ I h) fun us s1 ⟨vs,H1,I1,r1,q1⟩ => hc pins s1 σ H1 vs us Q I1 r1 q1) he hpl
theorem pe_callTy (hc : CallR X (.type T) r) (hg : Gl X x) (hm : X.mg x = none) (hv : bootBuiltins x = some (.type T)) (ha : PA X (e :: es) t) (hn : x ≠ "__name__" := by decide) (hdb : (x == ("__debug__" : Str)) = false := by decide)
    (he : starEach (e :: es) X.env = (false,eval e X.env) :: starEach es X.env := by rfl) (hpl : (backTo pos (starEach es X.env)).any (·.1) = false := by rfl) : PE X (.Call (.Name x p) (e :: es) [] pos) (tCB r t) := by
  intro pins s σ H Q I h
  refine wpAny_Call_Name_kw (ld_blt I hg hm hv ?_ hn hdb)
  exact PyProof.Rows.callWith_type1 (thn (ha pos pins s σ H _ I h) fun us s1 ⟨vs,H1,I1,r1,q1⟩ => hc pins s1 σ H1 vs us Q I1 r1 q1) he hpl
end
end L2
namespace HT
open PySem PyProof.Rows
section
open PySem.SeqAt
open PySem.AutoSeq1 (wpAny_loadPart')
open PySem.MeetsSeq PySem.MeetsSeq2 PySem.MeetsSeq3
end
section
variable {prog : Program} {w : World} {A : Around} {E : Value → Shared → Prop} {s : Shared}
noncomputable def sIx (n d : Nat) : Option Int → Nat
  | none => d
  | some v => if v < 0 then (v + (n : Int)).toNat else min v.toNat n
theorem sIx_none (n d : Nat) : sIx n d none = d := rfl
theorem sIx_nat (n d k : Nat) : sIx n d (some (k : Int)) = min k n := by
  show (if (k : Int) < 0 then ((k : Int) + (n : Int)).toNat else min (k : Int).toNat n) = min k n
  rw [if_neg (by omega),Int.toNat_natCast]
end
end HT
namespace L2
open PySem PySem.Spec PyProof.Rows
noncomputable abbrev TO := St → Hp → (Option Int → Hp → Prop) → Prop
noncomputable def PO (X : Cx) (e : Option Expr) (t : TO) : Prop :=
  ∀ (pins : List (Addr × Obj)) (s : Shared) (σ : St) (H : Hp) (Q : Option Int → Hp → Prop),Inv X pins σ H s → t σ H Q →
    wpAny (model X.prog X.w) X.A (evalPart e X.env) (fun u s' => ∃ o H',Inv X pins σ H' s' ∧ IsPart u o ∧ Q o H') X.xe s
noncomputable def tNoPart : TO := fun _ H Q => Q none H
inductive PartP (Q : Option Int → Hp → Prop) (x : V) (H : Hp) : Prop
  | mk (i : Int) (e : x = .int i) (q : Q (some i) H) : PartP Q x H
noncomputable def tPart (t : TE) : TO := fun σ H Q => t σ H (PartP Q)
section
variable {X : Cx} {e : Expr} {te : TE} {lo hi : Option Expr} {tl th : TO} {pos p2 : Pos}
theorem po_none : PO X none tNoPart := by
  intro pins s σ H Q I h
  rw [evalPart_none]
  exact wpAny_pure ⟨none,H,I,.none,h⟩
theorem po_some (h : PE X e te) : PO X (some e) (tPart te) := by
  intro pins s σ H Q I hw
  rw [evalPart_some]
  refine thn (h pins s σ H _ I hw) fun u s1 zy => ?_
  obtain ⟨x,H1,I1,r1,q1⟩ := zy
  obtain ⟨i,rfl,q⟩ := q1
  obtain ⟨t,rfl⟩ := r1
  exact ⟨some i,H1,I1,.int i t,q⟩
noncomputable def SlR (X : Cx) (r : V → Option Int → Option Int → Hp → VK → Prop) : Prop :=
  ∀ (pins : List (Addr × Obj)) (s : Shared) (σ : St) (H : Hp) (x : V) (v vl vu : Value) (lo hi : Option Int) (sl : Addr) (Q : VK),Inv X pins σ H s → RelV x v → s.heap.IsSliceOf sl vl vu .none → IsPart vl lo → IsPart vu hi → r x lo hi H Q →
    ∃ T id,typeLookup (.type T) "__getitem__" = pure (some (.builtin id)) ∧ s.TypeIs v T ∧ wpAny (model X.prog X.w) X.A (getItem v (.ref sl)) (EP X pins σ Q) X.xe s
noncomputable def tSl (r : V → Option Int → Option Int → Hp → VK → Prop) (te : TE) (tl th : TO) : TE := fun σ H Q => te σ H fun x H1 => tl σ H1 fun l H2 => th σ H2 fun u H3 => r x l u H3 Q
theorem pe_slice {r : V → Option Int → Option Int → Hp → VK → Prop} (hr : SlR X r) (he : PE X e te) (hl : PO X lo tl) (hu : PO X hi th) : PE X (.Subscript e (.Slice lo hi none p2) pos) (tSl r te tl th) := by
  intro pins s σ H Q I h
  refine Subscript_ (thn (he pins s σ H _ I h) fun v s1 zy => ?_)
  obtain ⟨x,H1,I1,r1,q1⟩ := zy
  refine wpAny_Slice (thn (hl pins s1 σ H1 _ I1 q1) fun vl s2 ⟨l,H2,I2,pl,q2⟩ => thn (hu pins s2 σ H2 _ I2 q2) fun vu s3 zy => ?_)
  obtain ⟨u,H3,I3,pu,q3⟩ := zy
  rw [evalPart_none]
  refine wpAny_pure ?_
  have I4 : Inv X pins σ H3 { s3 with heap := s3.heap.push { cls := .type "slice",data := .fields #[vl,vu,.none] } } := I3.kept (t' := s3.toks) fun b ob q => Heap.get?_push_of_some _ q
  obtain ⟨T,id,hT,ht,hg⟩ := hr pins { s3 with heap := s3.heap.push { cls := .type "slice",data := .fields #[vl,vu,.none] } } σ H3 x v vl vu l u s3.heap.objs.size Q I4 r1 (Heap.IsSliceOf.new ..) pl pu q3
  show wpAny (model X.prog X.w) X.A (subscriptTail e (.Slice lo hi none p2) v (.ref s3.heap.objs.size)) (EP X pins σ Q) X.xe { s3 with heap := s3.heap.push { cls := .type "slice",data := .fields #[vl,vu,.none] } }
  exact tail_any (ops := [.ref s3.heap.objs.size,v]) ht hT hg (by with_unfolding_all rfl)
noncomputable def cutV (xs : List V) (lo hi : Option Int) : List V := (xs.drop (HT.sIx xs.length 0 lo)).take (HT.sIx xs.length xs.length hi - HT.sIx xs.length 0 lo)
theorem cutV_length (xs : List V) (lo hi : Option Int) : (cutV xs lo hi).length ≤ xs.length := by
  unfold cutV
  rw [List.length_take,List.length_drop]
  omega
end
end L2
namespace L2
open PySem PySem.Spec PyProof.Rows
noncomputable def ixN (n : Nat) (i : Int) : Option Nat := if 0 ≤ i then (if i < n then some i.toNat else none) else if -(n : Int) ≤ i then some (i + n).toNat else none
noncomputable def atI {α : Type} (xs : List α) (i : Int) : Option α := (ixN xs.length i).bind fun j => xs[j]?
theorem ixN_seq {n : Nat} {i : Int} {j : Nat} (h : ixN n i = some j) : seqIndex? i n = some j ∧ j < n ∧ -(n : Int) ≤ i ∧ i < n := by
  unfold ixN at h
  by_cases h0 : 0 ≤ i
  · rw [if_pos h0] at h
    by_cases h1 : i < n
    · rw [if_pos h1] at h
      have e : i.toNat = j := Option.some.inj h
      exact ⟨by rw [seqIndex_of h0 h1,e],by omega,by omega,h1⟩
    · rw [if_neg h1] at h; cases h
  · rw [if_neg h0] at h
    by_cases h1 : -(n : Int) ≤ i
    · rw [if_pos h1] at h
      have e : (i + n).toNat = j := Option.some.inj h
      exact ⟨by rw [seqIndex_neg (by omega) h1,e],by omega,h1,by omega⟩
    · rw [if_neg h1] at h; cases h
theorem atI_get {α : Type} {xs : List α} {i : Int} {v : α} (h : atI xs i = some v) : ∃ j,seqIndex? i xs.length = some j ∧ xs[j]? = some v ∧ j < xs.length ∧ -(xs.length : Int) ≤ i ∧ i < xs.length := by
  unfold atI at h
  cases e : ixN xs.length i with
  | none => rw [e] at h; cases h
  | some j =>
    rw [e] at h
    obtain ⟨h1,h2,h3,h4⟩ := ixN_seq e
    exact ⟨j,h1,h,h2,h3,h4⟩
theorem atI_nat {α : Type} {xs : List α} {j : Nat} {v : α} (h : xs[j]? = some v) : atI xs (j : Int) = some v := by
  have hj : j < xs.length := (List.getElem?_eq_some_iff.mp h).1
  have e : ixN xs.length (j : Int) = some j := by
    unfold ixN
    rw [if_pos (by omega),if_pos (by omega)]; simp
  unfold atI; rw [e]; exact h
theorem atI_last {α : Type} (xs : List α) (v : α) : atI (xs ++ [v]) (-1) = some v := by
  have hl : (xs ++ [v]).length = xs.length + 1 := by simp
  have e : ixN (xs ++ [v]).length (-1) = some xs.length := by
    unfold ixN
    rw [hl,if_neg (by decide),if_pos (by omega)]
    congr 1
    omega
  unfold atI
  rw [e]
  show (xs ++ [v])[xs.length]? = some v
  simp
noncomputable def PlainIx (b : Expr) : Prop := ∀ o i,subscripted b false o i = operate [o,i] (getItem o i)
noncomputable def IxR (X : Cx) (r : R2) : Prop :=
  ∀ (value slice : Expr) (pins : List (Addr × Obj)) (s : Shared) (σ : St) (H : Hp) (x y : V) (v u : Value) (Q : VK),Inv X pins σ H s → RelV x v → RelV y u → r x y H Q →
    subscripted slice false v u = operate [v,u] (getItem v u) → wpAny (model X.prog X.w) X.A (subscriptTail value slice v u) (EP X pins σ Q) X.xe s
noncomputable def MtR (X : Cx) (id : String) (r : V → List V → Hp → VK → Prop) : Prop :=
  ∀ (pins : List (Addr × Obj)) (s : Shared) (σ : St) (H : Hp) (x : V) (xs : List V) (v : Value) (us : List Value) (Q : VK),Inv X pins σ H s → RelV x v → Vals xs us → r x xs H Q →
    wpAny (model X.prog X.w) X.A (call (.builtin id) (v :: us)) (EP X pins σ Q) X.xe s
section
variable {X : Cx} {a b : Expr} {ta tb : TE} {pos : Pos}
theorem pe_ix {r : R2} (hr : IxR X r) (ha : PE X a ta) (hb : PE X b tb) (hs : PlainIx b) : PE X (.Subscript a b pos) (tOp r ta tb) := by
  intro pins s σ H Q I h
  exact Subscript_ (binT ha hb I h fun v u s2 x y H2 I2 rx ry q => hr a b pins s2 σ H2 x y v u Q I2 rx ry q (hs _ _))
inductive IxLP (K : PySem.W.Frag) (x y : V) (H : Hp) (Q : VK) : Prop
  | mk (p : Addr) (xs : List V) (i : Int) (v : V) (e1 : x = .ref p) (e2 : y = .int i) (h : SqL K H p xs) (h' : atI xs i = some v) (q : Q v H) : IxLP K x y H Q
inductive IxTP (K : PySem.W.Frag) (x y : V) (H : Hp) (Q : VK) : Prop
  | mk (p : Addr) (xs : List V) (i : Int) (v : V) (e1 : x = .ref p) (e2 : y = .int i) (h : SqT K H p xs) (h' : atI xs i = some v) (q : Q v H) : IxTP K x y H Q
noncomputable def rIxL (K : PySem.W.Frag) : R2 := IxLP K
noncomputable def rIxT (K : PySem.W.Frag) : R2 := IxTP K
theorem ix_list : IxR X (rIxL X.K) := by
  intro value slice pins s σ H x y v u Q I rx ry h hs
  obtain ⟨p,xs,i,z,rfl,rfl,hq,he,q⟩ := h
  cases rx
  obtain ⟨t,rfl⟩ := ry
  obtain ⟨its,r,pl,hz⟩ := I.list hq
  obtain ⟨j,h1,h2,h3,h4,h5⟩ := atI_get he
  obtain ⟨w,ew,rw'⟩ := r.get h2
  have hl := r.length
  have hn := line63
  have fin : EP X pins σ Q w s := ⟨z,H,I,rw',q⟩
  by_cases h0 : 0 ≤ i
  · have hj : i.toNat = j := by
      rw [seqIndex_of h0 h5] at h1
      exact Option.some.inj h1
    exact item_listR pl.isList h0 (by omega) (by rw [hj]; simpa using ew) fin hs
  · have hj : (i + (its.toArray.size : Int)).toNat = j := by
      rw [seqIndex_neg (by omega) h4] at h1
      rw [List.size_toArray,← hl]
      exact Option.some.inj h1
    exact subscriptTail_builtinR (x := w) pl.isList.typeIs slot_list_getitem.lookup
      (wpAny_getItem_list_neg (Q := fun r s' => r = w ∧ EP X pins σ Q r s') pl.isList (by omega) (by rw [List.size_toArray] <;> omega) (by omega) (by rw [hj]; simpa using ew) ⟨rfl,fin⟩) hs
theorem ix_tup : IxR X (rIxT X.K) := by
  intro value slice pins s σ H x y v u Q I rx ry h hs
  obtain ⟨p,xs,i,z,rfl,rfl,hq,he,q⟩ := h
  cases rx
  obtain ⟨t,rfl⟩ := ry
  obtain ⟨its,r,pl,hz⟩ := I.tuple hq
  obtain ⟨j,h1,h2,h3,h4,h5⟩ := atI_get he
  obtain ⟨w,ew,rw'⟩ := r.get h2
  have hl := r.length
  have hn := line63
  have fin : EP X pins σ Q w s := ⟨z,H,I,rw',q⟩
  exact subscriptTail_builtinR (x := w) pl.typeIs slot_tuple_getitem.lookup
    (getItem_tuple (j := j) (Q := fun r s' => r = w ∧ EP X pins σ Q r s') pl (by omega) (by omega) (by rw [List.size_toArray,← hl]; exact h1) (by simpa using ew) ⟨rfl,fin⟩) hs
theorem mapSeq_set (its : List Value) (n j : Nat) (u : Value) : Obj.mapSeq (·.setIfInBounds j u) { cls := .type "list",data := .seq its.toArray n } = { cls := .type "list",data := .seq (its.set j u).toArray n } := by
  simp [Obj.mapSeq]
theorem Inv.lst {pins : List (Addr × Obj)} {σ : St} {H : Hp} {s : Shared} {p : Addr} {xs : List V} (I : Inv X pins σ H s) (h : H p = some (.lst xs)) :
    ∃ (its : List Value) (n : Nat),Vals xs its ∧ s.heap.get? p = some { cls := .type "list",data := .seq its.toArray n } ∧ xs.length ≤ sizeLine := by
  obtain ⟨z,its,n,r,e⟩ := I.hok p _ h
  exact ⟨its,n,r,e,z⟩
theorem Inv.lstUpd {pins : List (Addr × Obj)} {σ : St} {H : Hp} {s : Shared} {p : Addr} {xs ys : List V} {its its' : List Value} {n n' : Nat} {f : Obj → Obj} (I : Inv X pins σ H s) (h : H p = some (.lst xs))
    (ho : s.heap.get? p = some { cls := .type "list",data := .seq its.toArray n }) (hf : f { cls := .type "list",data := .seq its.toArray n } = { cls := .type "list",data := .seq its'.toArray n' }) (r : Vals ys its') (hz : ys.length ≤ sizeLine) (t : Nat) :
    Inv X pins σ (upd H p (.lst ys)) { s with heap := s.heap.update p f,toks := t } := by
  have e : (s.heap.update p f).get? p = some { cls := .type "list",data := .seq its'.toArray n' } := by
    rw [Heap.get?_update_self f ho (by rw [hf] <;> rfl),hf]
  refine I.write (x := p) (e := p) (by rw [h]; trivial) (.inl rfl) (fun b u hb q => (Heap.get?_update_other _ _ (Ne.symm hb)).trans q) ⟨_,e⟩ ?_
  exact ⟨hz,its',n',r,e⟩
noncomputable def rSetL : V → V → V → Hp → (Hp → Prop) → Prop := fun o i v H Q => ∃ p xs k j,o = .ref p ∧ i = .int k ∧ H p = some (.lst xs) ∧ ixN xs.length k = some j ∧ Q (upd H p (.lst (xs.set j v)))
theorem set_list : PSet X rSetL := by
  intro pins s σ H o i v ov iv u Q I ro ri rv h
  obtain ⟨p,xs,k,j,rfl,rfl,hp,hj,q⟩ := h
  cases ro
  obtain ⟨t,rfl⟩ := ri
  obtain ⟨its,n,r,ho,hz⟩ := I.lst hp
  obtain ⟨h1,h2,h3,h4⟩ := ixN_seq hj
  have hl := r.length
  have hn := line63
  have I' : Inv X pins σ (upd H p (.lst (xs.set j v))) { s with heap := s.heap.update p (Obj.mapSeq (·.setIfInBounds j u)) } :=
    I.lstUpd hp ho (mapSeq_set its n j u) (r.set rv j) (by rw [List.length_set]; exact hz) s.toks
  by_cases h0 : 0 ≤ k
  · have hk : k.toNat = j := by
      rw [seqIndex_of h0 h4] at h1
      exact Option.some.inj h1
    exact PySem.W.ki_setAt ho h0 (by omega) (by rw [List.size_toArray,← hl]; exact h4) (by rw [hk]; exact ⟨_,I',q⟩)
  · have hk : (k + (its.toArray.size : Int)).toNat = j := by
      rw [seqIndex_neg (by omega) h3] at h1
      rw [List.size_toArray,← hl]
      exact Option.some.inj h1
    exact PySem.W.ki_setBack ho (by omega) (by rw [List.size_toArray,← hl]; exact h3) (by omega) (by rw [hk]; exact ⟨_,I',q⟩)
theorem slice_bounds (lo hi : Option Int) (n : Nat) : (sliceBounds lo hi none n).1 = ((HT.sIx n 0 lo : Nat) : Int) ∧ (sliceBounds lo hi none n).2.1 = ((HT.sIx n n hi : Nat) : Int) ∧ (sliceBounds lo hi none n).2.2 = 1 := by
  refine ⟨?_,?_,rfl⟩
  · cases lo with
    | none => simp [sliceBounds,HT.sIx]
    | some i =>
      simp only [sliceBounds,HT.sIx,Option.getD_none,show (1 : Int) > 0 by decide,if_true]
      by_cases h : i < 0
      · simp only [h,if_true] <;> omega
      · simp only [h,if_false] <;> omega
  · cases hi with
    | none => simp [sliceBounds,HT.sIx]
    | some i =>
      simp only [sliceBounds,HT.sIx,Option.getD_none,show (1 : Int) > 0 by decide,if_true]
      by_cases h : i < 0
      · simp only [h,if_true] <;> omega
      · simp only [h,if_false] <;> omega
theorem slicePick_cut (its : List Value) (lo hi : Option Int) : slicePick its.toArray lo hi none = ((its.drop (HT.sIx its.length 0 lo)).take (HT.sIx its.length its.length hi - HT.sIx its.length 0 lo)).toArray := by
  obtain ⟨h1,h2,h3⟩ := slice_bounds lo hi its.toArray.size
  unfold slicePick
  rw [h1,h2,h3]
  simp only [sliceRange_one,pick_run,List.size_toArray] <;> rfl
inductive SlLP (K : PySem.W.Frag) (x : V) (lo hi : Option Int) (H : Hp) (Q : VK) : Prop
  | mk (a : Addr) (xs : List V) (e : x = .ref a) (h : SqL K H a xs) (q : ∀ p,H p = none → Q (.ref p) (upd H p (.lst (cutV xs lo hi)))) : SlLP K x lo hi H Q
noncomputable def rSlL (K : PySem.W.Frag) : V → Option Int → Option Int → Hp → VK → Prop := SlLP K
theorem sl_list : SlR X (rSlL X.K) := by
  intro pins s σ H x v vl vu lo hi sl Q I rx hs pl pu h
  obtain ⟨a,xs,rfl,hx,q⟩ := h
  cases rx
  obtain ⟨its,r,ht,hz⟩ := I.list hx
  have hlen := r.length
  refine ⟨"list",_,slot_list_getitem.lookup,ht.isList.typeIs,?_⟩
  refine wpAny_getItem_list_slice ht.isList hs pl pu .none (by simp) ?_ (by rw [List.size_toArray] <;> omega)
  rw [slicePick_cut,← hlen]
  refine ⟨.ref s.heap.objs.size,_,I.laid (t' := s.toks) (o := .lst (cutV xs lo hi)) (fun b ob q => Heap.get?_push_of_some _ q) (Nat.le_refl _) ?_,rfl,q _ (I.hok.fresh (Nat.le_refl _))⟩
  exact ⟨Nat.le_trans (cutV_length xs lo hi) hz,_,0,(r.drop (HT.sIx xs.length 0 lo)).take (HT.sIx xs.length xs.length hi - HT.sIx xs.length 0 lo),Heap.get?_push_size _ rfl⟩
theorem call_len_seq : CallR X (.builtin "len") (fun xs H Q => ∃ p ys,xs = [.ref p] ∧ (SqL X.K H p ys ∨ SqT X.K H p ys) ∧ Q (.int ys.length) H) := by
  intro pins s σ H xs us Q I r h
  obtain ⟨p,ys,rfl,hq,q⟩ := h
  obtain ⟨u,rfl,rx⟩ := vals1 r
  cases rx
  have hn := line63
  rcases hq with hq | hq
  · obtain ⟨its,r',pl,hz⟩ := I.list hq
    have hlen := r'.length
    exact Calls.call_len_list pl.isList (by simp only [List.size_toArray] <;> omega) ⟨.int ys.length,H,I.tok _,⟨s.toks + 1,by rw [List.size_toArray,hlen]⟩,q⟩
  · obtain ⟨its,r',pl,hz⟩ := I.tuple hq
    have hlen := r'.length
    exact len_tuple pl (by simp only [List.size_toArray] <;> omega) ⟨.int ys.length,H,I.tok _,⟨s.toks + 1,by rw [List.size_toArray,hlen]⟩,q⟩
theorem call_list_of : CallR X (.type "list") (fun xs H Q => ∃ p ys,xs = [.ref p] ∧ (SqL X.K H p ys ∨ SqT X.K H p ys) ∧ ∀ l,H l = none → Q (.ref l) (upd H l (.lst ys))) := by
  intro pins s σ H xs us Q I r h
  obtain ⟨p,ys,rfl,hq,q⟩ := h
  obtain ⟨u,rfl,rx⟩ := vals1 r
  cases rx
  have fin : ∀ (its : List Value),Vals ys its → ys.length ≤ sizeLine → ∀ (h' : Heap) (c' : Nat),(∀ b o',s.heap.get? b = some o' → h'.get? b = some o') →
      h'.get? s.heap.objs.size = some { cls := .type "list",dict := none,data := .seq its.toArray c',slots := #[] } → EP X pins σ Q (.ref s.heap.objs.size) { s with heap := h' } := fun its r' hz h' c' kp e =>
    ⟨.ref s.heap.objs.size,_,I.laid (t' := s.toks) kp (Nat.le_refl _) (show ObjOk X.prog X.w _ h' _ (.lst ys) from ⟨hz,its,c',r',e⟩),rfl,q _ (I.hok.fresh (Nat.le_refl _))⟩
  rcases hq with hq | hq
  · obtain ⟨its,r',pl,hz⟩ := I.list hq
    have hlen := r'.length
    obtain ⟨o,ho,hc,n,hd⟩ := pl.isList
    exact call_list_seq p (.inl rfl) ho hc hd (fun h' c' kp e => fin its r' hz h' c' kp e) (by simp only [List.size_toArray] <;> omega)
  · obtain ⟨its,r',pl,hz⟩ := I.tuple hq
    have hlen := r'.length
    obtain ⟨o,ho,hc,n,hd⟩ := pl
    exact call_list_seq p (.inr rfl) ho hc hd (fun h' c' kp e => fin its r' hz h' c' kp e) (by simp only [List.size_toArray] <;> omega)
theorem call_tuple_of : CallR X (.type "tuple") (fun xs H Q => ∃ p ys,xs = [.ref p] ∧ ((SqL X.K H p ys ∧ ∀ l,H l = none → Q (.ref l) (upd H l (.tup ys))) ∨ (SqT X.K H p ys ∧ Q (.ref p) H))) := by
  intro pins s σ H xs us Q I r h
  obtain ⟨p,ys,rfl,h⟩ := h
  obtain ⟨u,rfl,rx⟩ := vals1 r
  cases rx
  rcases h with ⟨hq,q⟩ | ⟨hq,q⟩
  · obtain ⟨its,r',pl,hz⟩ := I.list hq
    have hlen := r'.length
    refine call_tuple_list pl.isList (fun h' kp => ?_) (by simp only [List.size_toArray] <;> omega)
    have I1 : Inv X pins σ H { s with heap := h' } := I.kept (t' := s.toks) kp
    have I2 : Inv X pins σ (upd H h'.objs.size (.tup ys)) { s with heap := h'.push { cls := .type "tuple",data := .seq its.toArray } } :=
      I1.laid (t' := s.toks) (fun b o e => Heap.get?_push_of_some _ e) (Nat.le_refl _) (show ObjOk X.prog X.w _ _ _ (.tup ys) from ⟨hz,its,r',IsTup.new _ _⟩)
    exact ⟨.ref h'.objs.size,_,I2,rfl,q _ (I1.hok.fresh (Nat.le_refl _))⟩
  · obtain ⟨its,r',pl,hz⟩ := I.tuple hq
    exact call_tuple_same pl ⟨.ref p,H,I,rfl,q⟩
noncomputable def tyV (K : PySem.W.Frag) (T : String) (x : V) (H : Hp) : Prop := match x with
  | .str _ => T = "str"
  | .int _ => T = "int"
  | .ref p => (T = "list" ∧ ∃ xs,SqL K H p xs) ∨ (T = "tuple" ∧ ∃ o,K.lookup p = some o ∧ o.cls = .type "tuple" ∧ o.dict = none) ∨
      (T = "dict" ∧ ((∃ kvs,H p = some (.dK kvs)) ∨ ∃ kvs,H p = some (.dT kvs))) ∨ (T = "set" ∧ ∃ S n,H p = some (.set S n))
  | _ => False
theorem tyV_is {pins : List (Addr × Obj)} {σ : St} {H : Hp} {s : Shared} {T : String} {x : V} {v : Value} (I : Inv X pins σ H s) (r : RelV x v) (ty : tyV X.K T x H) :
    s.TypeIs v T ∧ ∀ a,v = .ref a → ∃ ob,s.heap.get? a = some ob ∧ ob.dict = none := by
  cases x with
  | str z =>
    obtain ⟨t,rfl⟩ := r
    cases (show T = "str" from ty)
    exact ⟨typeIs_str s z t,fun _ e => nomatch e⟩
  | int i =>
    obtain ⟨t,rfl⟩ := r
    cases (show T = "int" from ty)
    exact ⟨typeIs_int s i t,fun _ e => nomatch e⟩
  | ref p =>
    cases r
    rcases ty with ⟨rfl,xs,hq⟩ | ⟨rfl,o,hk,hc,hd⟩ | ⟨rfl,hk⟩ | ⟨rfl,S,n,hk⟩
    · obtain ⟨its,_,pl,_⟩ := I.list hq
      refine ⟨pl.isList.typeIs,fun a e => ?_⟩
      cases e
      obtain ⟨o,n,e,c,hd,_⟩ := pl
      exact ⟨o,e,hd⟩
    · refine ⟨⟨o,I.kIn p o hk,hc⟩,fun a e => ?_⟩
      cases e
      exact ⟨o,I.kIn _ o hk,hd⟩
    · have z : ∃ o,s.heap.get? p = some o ∧ o.ExactDict := by
        rcases hk with ⟨kvs,hk⟩ | ⟨kvs,hk⟩
        · obtain ⟨_,_,_,_,o,_,_,e,ex,_⟩ := I.hok p _ hk
          exact ⟨o,e,ex⟩
        · obtain ⟨_,_,_,_,o,_,_,e,ex,_⟩ := I.hok p _ hk
          exact ⟨o,e,ex⟩
      obtain ⟨o,e,ex⟩ := z
      refine ⟨⟨o,e,ex.1⟩,fun a e2 => ?_⟩
      cases e2
      exact ⟨o,e,ex.2.1⟩
    · obtain ⟨o,_,_,_,e,ex,_⟩ := I.hok p _ hk
      refine ⟨⟨o,e,ex.1⟩,fun a e2 => ?_⟩
      cases e2
      exact ⟨o,e,ex.2.1⟩
  | _ => exact False.elim ty
noncomputable def tBM (K : PySem.W.Frag) (T : String) (r : V → List V → Hp → VK → Prop) (to : TE) (t : TA) : TE := fun σ H Q => to σ H fun x H1 => tyV K T x H1 ∧ t σ H1 fun xs H2 => r x xs H2 Q
variable {o e : Expr} {es : List Expr} {to : TE} {t : TA} {name : Str} {apos cpos : Pos} {T id : String} {r : V → List V → Hp → VK → Prop}
/- xs.append(e),list.index on a module's tuple .. are MtR facts of 06m -/
end
end L2
namespace L2
open PySem PySem.Spec PyProof.Rows
noncomputable def MtM (X : Cx) (id : String) (r : V → List V → Hp → VK → Prop) : Prop :=
  ∀ (pins : List (Addr × Obj)) (s : Shared) (σ : St) (H : Hp) (x : V) (xs : List V) (v : Value) (us : List Value) (Q : VK),Inv X pins σ H s → RelV x v → Vals xs us → r x xs H Q →
    wpAny (model X.prog X.w) X.A (call (.builtin id) (v :: us)) (EP X pins σ Q) X.xe s
theorem Vals.one {x : V} {us : List Value} (h : Vals [x] us) : ∃ u,us = [u] ∧ RelV x u := by
  cases h with
  | cons r h =>
    cases h
    exact ⟨_,rfl,r⟩
theorem Vals.two {x y : V} {us : List Value} (h : Vals [x,y] us) : ∃ u v,us = [u,v] ∧ RelV x u ∧ RelV y v := by
  cases h with
  | cons r h =>
    cases h with
    | cons q h =>
      cases h
      exact ⟨_,_,rfl,r,q⟩
section
variable {X : Cx} {pins : List (Addr × Obj)} {σ : St} {H : Hp} {s : Shared} {l b : Addr} {xs ys zs : List V}
theorem Inv.lset {its its' : List Value} {n : Nat} {f : Array Value → Array Value} {t' : Nat} (I : Inv X pins σ H s) (hH : H l = some (.lst xs))
    (e : s.heap.get? l = some { cls := .type "list",data := .seq its.toArray n }) (hf : f its.toArray = its'.toArray) (hv : Vals ys its') (hz : ys.length ≤ sizeLine) :
    Inv X pins σ (upd H l (.lst ys)) { s with heap := s.heap.update l (Obj.mapSeq f),toks := t' } := by
  have q := PySem.IsL.update e f
  rw [hf] at q
  refine I.write (x := l) (e := l) (by rw [hH]; exact trivial) (.inl rfl) (fun b' u hb hu => (Heap.get?_update_other s.heap (Obj.mapSeq f) (Ne.symm hb)).trans hu) ⟨_,q⟩ ?_
  exact ⟨hz,its',_,hv,q⟩
theorem Inv.lnew {its : List Value} {t' : Nat} (I : Inv X pins σ H s) (hv : Vals ys its) (hz : ys.length ≤ sizeLine) :
    Inv X pins σ (upd H s.heap.objs.size (.lst ys)) { s with heap := s.heap.push { cls := .type "list",data := .seq its.toArray },toks := t' } :=
  I.laid (fun _ _ q => Heap.get?_push_of_some _ q) (Nat.le_refl _) ⟨hz,its,0,hv,Heap.get?_push_size _ rfl⟩
theorem Inv.fresh (I : Inv X pins σ H s) : H s.heap.objs.size = none := I.hok.fresh (Nat.le_refl _)
theorem Inv.lstM (I : Inv X pins σ H s) (hH : H l = some (.lst xs)) : xs.length ≤ sizeLine ∧ ∃ (its : List Value) (n : Nat),Vals xs its ∧ xs.length = its.length ∧ s.heap.get? l = some { cls := .type "list",data := .seq its.toArray n } := by
  obtain ⟨z,its,n,r,e⟩ := I.hok l _ hH
  exact ⟨z,its,n,r,r.length,e⟩
theorem notLongL {n : Nat} (h : n ≤ sizeLine) : Builtin.List.listTooLong n = false := by
  unfold Builtin.List.listTooLong
  exact decide_eq_false (by omega)
end
section
variable {X : Cx}
inductive AppP (x : V) (vs : List V) (H : Hp) (Q : VK) : Prop
  | mk (l : Addr) (xs : List V) (y : V) (e1 : x = .ref l) (e2 : vs = [y]) (h : H l = some (.lst xs)) (z : xs.length < sizeLine) (q : Q .non (upd H l (.lst (xs ++ [y])))) : AppP x vs H Q
noncomputable def rAppend : V → List V → Hp → VK → Prop := AppP
theorem mt_append : MtM X "list.append" rAppend := by
  intro pins s σ H x vs v us Q I rx rv h
  obtain ⟨l,xs,y,rfl,rfl,hH,hz,q⟩ := h
  cases rx
  obtain ⟨u,rfl,ru⟩ := rv.one
  obtain ⟨z,its,n,r,hl,e⟩ := I.lstM hH
  refine call_meets F.slot_list_append ⟨_,e,rfl⟩ F.entry_list_append (F.args_list_append_2 _ _) (PySem.list_append l its.toArray n u (by rw [List.size_toArray]; omega)) ⟨e,?_⟩
  refine ⟨.non,_,I.lset (its' := its ++ [u]) hH e (by simp) (r.append (.cons ru .nil)) ?_,rfl,q⟩
  rw [List.length_append,List.length_singleton]
  omega
noncomputable def rExtend : V → List V → Hp → VK → Prop := fun x vs H Q => ∃ l b xs zs,x = .ref l ∧ vs = [.ref b] ∧ H l = some (.lst xs) ∧ H b = some (.lst zs) ∧ xs.length + zs.length ≤ sizeLine ∧ Q .non (upd H l (.lst (xs ++ zs)))
theorem mt_extend : MtM X "list.extend" rExtend := by
  intro pins s σ H x vs v us Q I rx rv h
  obtain ⟨l,b,xs,zs,rfl,rfl,hH,hB,hz,q⟩ := h
  cases rx
  obtain ⟨u,rfl,ru⟩ := rv.one
  cases ru
  obtain ⟨z,its,n,r,hl,e⟩ := I.lstM hH
  obtain ⟨z2,its2,n2,r2,hl2,e2⟩ := I.lstM hB
  have hsz : its.toArray.size + its2.toArray.size ≤ sizeLine := by rw [List.size_toArray,List.size_toArray]; omega
  have hlong : ¬ (!its.toArray.isEmpty && Builtin.List.listTooLong (its.toArray.size + its2.toArray.size)) = true := by
    rw [notLongL hsz,Bool.and_false]
    exact Bool.false_ne_true
  refine call_meets F.slot_list_extend ⟨_,e,rfl⟩ F.entry_list_extend (F.args_list_extend_2 _ _)
    (AutoSeq1.list_extend_list_list_0 l its.toArray n b its2.toArray n2 hlong (by rw [List.size_toArray]; omega) (by omega)) ⟨e,e2,?_⟩
  refine ⟨.non,_,I.lset (its' := its ++ its2) hH e (by simp) (r.append r2) ?_,rfl,q⟩
  rw [List.length_append]
  omega
noncomputable def rCat : R2 := fun x y H Q => ∃ l b xs zs,x = .ref l ∧ y = .ref b ∧ H l = some (.lst xs) ∧ H b = some (.lst zs) ∧ xs.length + zs.length ≤ sizeLine ∧ ∀ p,H p = none → Q (.ref p) (upd H p (.lst (xs ++ zs)))
theorem op_cat : OpR X (binaryOp .Add) rCat := by
  intro pins s σ H x y v u Q I rx ry h
  obtain ⟨l,b,xs,zs,rfl,rfl,hH,hB,hz,q⟩ := h
  cases rx
  cases ry
  obtain ⟨z,its,n,r,hl,e⟩ := I.lstM hH
  obtain ⟨z2,its2,n2,r2,hl2,e2⟩ := I.lstM hB
  refine PySem.P.add_list e e2 ?_ (by rw [List.size_toArray,List.size_toArray]; omega)
  have ea : its.toArray ++ its2.toArray = (its ++ its2).toArray := by simp
  rw [ea]
  exact ⟨.ref _,_,I.lnew (t' := s.toks) (r.append r2) (by rw [List.length_append]; omega),rfl,q _ I.fresh⟩
end
section
variable {prog : Program} {w : World} {A : Around} {E : Value → Shared → Prop} {s : Shared}
end
section
variable {X : Cx}
end
end L2
namespace Att
open PySem PySem.W PySem.Calls PyProof.Rows
theorem ints_of_wellAll {P : Params} {h : Heap} : ∀ (ns : List Int) (vs : List Value),WellAll P h vs (ns.map WData.int) → IntsAre vs ns := by
  intro ns
  induction ns with
  | nil =>
    intro vs w
    rw [List.map_nil] at w
    cases w
    exact .nil
  | cons n ns ih =>
    intro vs w
    rw [List.map_cons] at w
    cases w with
    | cons a b =>
      cases a
      exact .cons _ _ (ih _ b)
theorem script_of {l : OpenLaw} {n : Nat} (hn : l.most = some n) {P : Params} {h : Heap} {args : List WData} {vals : List Value}
    (hpre : l.row.toRowW.claim.pre args = true) (hwl : WellAll P h vals args) :
    ∃ a vs ns,vals = [Value.ref a] ∧ args = [WData.list (ns.map WData.int)] ∧ h.get? a = some { cls := .type "list",data := .seq vs.toArray } ∧ IntsAre vs ns ∧ ns.length ≤ n := by
  have hsh : WShape.hasAll [] args [.list .int] = true := (pre_splitW hpre).1
  have hc : l.pre.holds [] { args := args } = true := (pre_splitW hpre).2
  obtain ⟨d,r,rfl,h1,h2⟩ := hasAllW_cons hsh
  obtain rfl := hasAllW_nil h2
  obtain ⟨xs,rfl,h3⟩ := hasW_list h1
  obtain ⟨ns,rfl⟩ := items_int h3
  have hlen : ns.length ≤ n := by
    unfold OpenLaw.pre at hc
    have h4 : (WTm.not (.lt (.lit (.int (n : Int))) (.len (.arg 0)))).holds [] { args := [.list (ns.map .int)] } = true := by
      have h4 := (holds_andW hc).1
      rw [hn] at h4
      exact h4
    have h5 := condW_of h4 (w_not (w_lt w_lit (w_len_list (w_arg rfl))))
    rw [List.length_map] at h5
    refine Nat.le_of_not_lt fun q => ?_
    have q' : (n : Int) < ((ns.length : Nat) : Int) := by omega
    first
      | (rw [decide_eq_true q'] at h5; exact absurd h5 (by decide))
      | (simp at h5; omega)
  cases hwl with
  | cons w1 w2 =>
    cases w2
    cases w1 with
    | list ho hall => exact ⟨_,_,ns,rfl,rfl,ho,ints_of_wellAll ns _ hall,hlen⟩
theorem post_true (l : OpenLaw) (args : List WData) : l.row.toRowW.claim.post args (.bool true) args = true :=
  postW_of (r := l.row.toRowW) (X := (true == true))
    (show WShape.has [] (.bool true) .bool = true by first | rfl | decide | simp [WShape.has,WShape.arms,WShape.armsAll])
    (show (WTm.eq .res (.lit (.bool true))).value [] { args := args,res := some (.bool true),after := args } = some (.bool (true == true)) from w_eq_bool (w_res rfl) w_lit) rfl
theorem attach_call {l : OpenLaw} {n : Nat} {q : Program} {loose : List Str} {XP : (Str → Option Value) → Heap → Prop} {YP : World → Heap → Prop} {d : DefRec}
    (hn : l.most = some n) (hdf : d.params.defaults = [])
    (call : ∀ (w : World) (s₀ s₁ : Shared) (mg mb : Str → Option Value) (fa : Addr) (o : Obj) (pm cd doc : Value) (a : Addr) (vs : List Value) (ns : List Int),
      Ground q loose [] XP w s₀ mg mb s₁.heap → YP w s₁.heap →
      s₁.heap.get? fa = some o → o.data = .func (docDef d.name d.params d.body d.scope pm cd doc) → s₁.heap.CodeRec cd d.name → mg d.name = some (.ref fa) →
      s₁.heap.get? a = some { cls := .type "list",data := .seq vs.toArray } → IntsAre vs ns → ns.length ≤ n → s₁.gens = #[] →
      codeAny (model l.prog w) callerA (.call (.ref fa) ⟨[.ref a],[]⟩) (fun r s' => r = .ok (.ret (.bool true)) ∧ OldK s₁.heap s'.heap ∧ s'.os = s₁.os ∧ AllBare s'.gens) s₁) :
    WalkO q loose XP YP l.row.toRowW d [] (fun f vs => PySem.call f vs) := by
  intro w s₀ s₁ mg mb G Y fa o pm cd doc dV kV ho hd hcd hD hmg hg args vals as hpre hlay hrd hwl hlo
  obtain rfl : dV = .none := Dflts.none hD hdf
  obtain rfl : kV = .none := Dflts.noKw hD
  obtain ⟨a,vs,ns,rfl,rfl,hobj,hints,hlen⟩ := script_of hn hpre hwl
  refine enter_call (codeAny_mono (call w s₀ s₁ mg mb fa o pm cd doc a vs ns G Y ho (fd_plain hd) hcd hmg hobj hints hlen hg) fun r s' hq => ?_)
  obtain ⟨rfl,h2,h3,h4⟩ := hq
  exact ⟨.inl ⟨.bool true,.bool true,[],rfl,fun _ => rfl,.bool true,post_true l _,fun _ => ⟨List.Pairwise.nil,fun _ hm => (nomatch hm)⟩⟩,h2,h3,h4⟩
section
variable {prog : Program} {w : World} {A : Around} {E : Value → Shared → Prop} {s : Shared} {K : Frag}
end
end Att
namespace L2
open PySem PySem.Spec PyProof.Rows
theorem vals_ints : ∀ {vs : List Value} {ns : List Int},IntsAre vs ns → Vals (ns.map V.int) vs := by
  intro vs ns h
  induction h with
  | nil => exact .nil
  | cons n t h ih => exact .cons ⟨t,rfl⟩ ih
noncomputable def Only (H : Hp) : Prop := ∀ b,H b = none ∨ ∃ o xs,H b = some (.frz o (.lst xs))
theorem law_call {P : Program} {w : World} {K : PySem.W.Frag} {mg mb : Str → Option Value} {CX : CXT} {k : Nat} {fa a : Addr} {fd : FuncData} {x : Str} {sp : Sp} {s₁ : Shared} {vs : List Value} {ns : List Int}
    (KX : K.In s₁.heap) (hns : s₁.heap.Ns mainGlobals mg) (hb : s₁.heap.Ns builtinsNs mb) (hbb : ∀ x : Str,x ≠ "__name__" → mb x = bootBuiltins x) (hlim : s₁.heap.NoLimit) (hg : s₁.gens = #[])
    (ha : s₁.heap.get? a = some { cls := .type "list",data := .seq vs.toArray }) (hi : IntsAre vs ns) (hl : ns.length ≤ sizeLine) (hr : Room k callerA)
    (F : ∀ base : Heap,K.In base → base.Ns mainGlobals mg → FnOk P w K mg base CX k fa fd [x] sp) (hbind : ∀ (s : Shared) (u : Value),BindsTo s fd ⟨[u],[]⟩ [(x,u)])
    (hsp : ∀ H : Hp,Only H → SqL K H a (ns.map V.int) → sp [.ref a] H (fun v _ => v = .bl true) fun _ _ _ => False)
    (hCX : ∀ H e s',CX [] H s₁ (fun _ _ _ => False) e s' → False) :
    codeAny (model P w) callerA (.call (.ref fa) ⟨[.ref a],[]⟩) (fun r s' => r = .ok (.ret (.bool true)) ∧ OldK s₁.heap s'.heap ∧ s'.os = s₁.os ∧ AllBare s'.gens) s₁ := by
  have rv := vals_ints hi
  have lenV := hi.length
  have core : ∀ H : Hp,Only H → SqL K H a (ns.map V.int) → HOk P w H s₁.heap → (∀ b,H b ≠ none → b = a) → (H a ≠ none → K.lookup a = none) →
      codeAny (model P w) callerA (.call (.ref fa) ⟨[.ref a],[]⟩) (fun r s' => r = .ok (.ret (.bool true)) ∧ OldK s₁.heap s'.heap ∧ s'.os = s₁.os ∧ AllBare s'.gens) s₁ := by
    intro H hO hS hok hA hK
    have base_of : ∀ {b : Addr} {o : Obj},s₁.heap.get? b = some o → H b = none → (hidT s₁.heap H).get? b = some o := fun e n => hidT_get e n
    have noA : ∀ {b : Addr} {o : Obj} {es : Array DictEntry} {ep : Nat},s₁.heap.get? b = some o → o.data = .dict es ep → H b = none := fun {b o es ep} e d => by
      cases q : H b with
      | none => rfl
      | some u =>
        have e' : b = a := hA b (by rw [q]; simp)
        subst e'
        rw [ha] at e; cases e
        have d' : Data.seq vs.toArray _ = Data.dict es ep := d
        cases d'
    have nsK : ∀ {b : Addr} {m : Str → Option Value},s₁.heap.Ns b m → (hidT s₁.heap H).Ns b m := fun {b m} ⟨o,es,ep,e,d,r⟩ => ⟨o,es,ep,base_of e (noA e d),d,r⟩
    have hKb : K.In (hidT s₁.heap H) := fun b o e => base_of (KX b o e) (by
      cases q : H b with
      | none => rfl
      | some u =>
        have e' : b = a := hA b (by rw [q]; simp)
        subst e'
        rw [hK (by rw [q]; simp)] at e; cases e)
    have hM : Mod K mg (hidT s₁.heap H) := ⟨hKb,nsK hns,⟨mb,nsK hb,hbb⟩,let ⟨mc,h1,h2⟩ := hlim; ⟨mc,nsK h1,h2⟩⟩
    have e0 : Env0 P w K mg (hidT s₁.heap H) callerA [] s₁ H := ⟨rfl,hM,fun b o e => of_hidT e,Nat.le_of_eq (hidT_size _ _),trivial,fun b hb => absurd (show b ∈ ([] : List Addr) from hb) (by simp),hok,.of_eq hg⟩
    refine codeAny_mono ((F _ hKb (nsK hns)).run callerA [] s₁ H ⟨[.ref a],[]⟩ [.ref a] [.ref a] _ _ hr e0 (hbind s₁ (.ref a)) (.cons rfl .nil) (hsp H hO hS)) fun r s' h => ?_
    cases r with
    | error e => exact (hCX H e s' h).elim
    | ok fl =>
      cases fl with
      | next => exact False.elim h
      | brk => exact False.elim h
      | cont => exact False.elim h
      | ret u =>
        obtain ⟨v,H',os,bare,un,hok',r',q⟩ := h
        have q' : v = .bl true := q
        subst q'
        obtain rfl : u = Value.bool true := r'
        refine ⟨rfl,OldK.of_keep fun b o e => ?_,os,bare⟩
        cases q : H b with
        | none => exact un.keep b o e q (by intro z; exact absurd (show b ∈ ([] : List Addr) from z) (by simp)) (by simp)
        | some u =>
          rcases hO b with z | ⟨ob,xs,z⟩
          · rw [q] at z; cases z
          · have z2 := un.frzs b ob _ z
            obtain ⟨e1,_⟩ := hok b _ z
            obtain ⟨e2,_⟩ := hok' b _ z2
            rw [e] at e1; cases e1
            exact e2
  cases hk : K.lookup a with
  | some o =>
    have e := KX a o hk
    rw [ha] at e
    cases e
    refine core (fun _ => none) (fun _ => .inl rfl) (.inr ⟨_,vs.toArray,_,hk,rfl,rfl,rfl,by rw [List.size_toArray,lenV]; exact hl,by simpa using rv⟩) (fun b u z => by have z' : (none : Option HO) = some u := z; cases z') (fun b z => absurd rfl z) fun z => absurd rfl z
  | none =>
    refine core (fun b => if b = a then some (.frz { cls := .type "list",data := .seq vs.toArray } (.lst (ns.map V.int))) else none) (fun b => ?_) (.inl (.inr ⟨{ cls := .type "list",data := .seq vs.toArray },if_pos rfl⟩)) (fun b u z => ?_) (fun b z => ?_) fun _ => hk
    · by_cases hb : b = a
      · exact .inr ⟨_,_,if_pos hb⟩
      · exact .inl (if_neg hb)
    · by_cases hb : b = a
      · have z' := (if_pos hb).symm.trans z
        cases z'
        subst hb
        exact ⟨ha,by rw [List.length_map]; exact hl,vs,_,rv,ha⟩
      · have z' := (if_neg hb).symm.trans z
        cases z'
    · by_cases hb : b = a
      · exact hb
      · exact absurd (if_neg hb) z
end L2
namespace L2
open PySem PySem.Spec PyProof.Rows
theorem walk_of {l : PySem.W.OpenLaw} {n k : Nat} {q : Program} {loose : List Str} {XP : (Str → Option Value) → Heap → Prop} {YP : World → Heap → Prop} {d : DefRec} {K : Params → PySem.W.Frag} {CX : World → CXT} {sp : World → Sp} {x : Str}
    (hn : l.most = some n) (hn2 : n ≤ sizeLine) (hdf : d.params.defaults = []) (hr : Room k callerA)
    (hY : ∀ (w : World) (h : Heap),YP w h → (K w.params).In h)
    (F : ∀ (w : World) (mg : Str → Option Value) (fa : Addr) (h : Heap),(K w.params).In h → h.Ns mainGlobals mg → mg d.name = some (.ref fa) →
      ∃ fd : FuncData,(∀ (s : Shared) (u : Value),BindsTo s fd ⟨[u],[]⟩ [(x,u)]) ∧
        ∀ base : Heap,(K w.params).In base → base.Ns mainGlobals mg → FnOk l.prog w (K w.params) mg base (CX w) k fa fd [x] (sp w))
    (hsp : ∀ (w : World) (H : Hp) (a : Addr) (ns : List Int),ns.length ≤ n → Only H → SqL (K w.params) H a (ns.map V.int) → sp w [.ref a] H (fun v _ => v = .bl true) fun _ _ _ => False)
    (hCX : ∀ (w : World) (H : Hp) (s : Shared) (e : Value) (s' : Shared),CX w [] H s (fun _ _ _ => False) e s' → False) :
    PySem.W.WalkO q loose XP YP l.row.toRowW d [] (fun f vs => PySem.call f vs) := by
  refine Att.attach_call hn hdf fun w s₀ s₁ mg mb fa o pm cd doc a vs ns G Y ho hd hcd hmg hobj hints hlen hg => ?_
  have KX := hY w _ Y
  obtain ⟨fd,hb,hF⟩ := F w mg fa _ KX G.T.g hmg
  exact law_call KX G.T.g G.T.b G.T.builtins G.T.nolimit hg hobj hints (Nat.le_trans hlen hn2) hr hF hb (fun H hO hS => hsp w H a ns hlen hO hS) fun H e s' => hCX w H s₁ e s'
end L2
namespace L2
open PySem PySem.Spec PyProof.Rows
noncomputable def defArgs (s : Stmt) : Arguments := match s with
  | .FunctionDef _ a _ _ _ _ _ _ _ _ => a
  | _ => { posonlyargs := [],args := [],vararg := none,kwonlyargs := [],kw_defaults := [],kwarg := none,defaults := [] }
noncomputable def defBody (s : Stmt) : List Stmt := match s with
  | .FunctionDef _ _ b _ _ _ _ _ _ _ => b
  | _ => []
noncomputable def defScope (s : Stmt) : Scope := match s with
  | .FunctionDef _ _ _ _ _ _ sc _ _ _ => sc
  | _ => { kind := .function,names := [],isGenerator := false,isCoroutine := false }
noncomputable abbrev CX0 : CXT := fun _ _ _ _ _ _ => False
noncomputable abbrev E0 : XK := fun _ _ _ => False
theorem pass0 {X : Cx} : Passes CX0 X E0 := fun _ _ _ _ _ _ _ h => h.elim
structure Fun (K : PySem.W.Frag) (x qual : Str) (st : Stmt) (f : Addr) (fd : FuncData) : Prop where
  ex : ∃ (oc : Value) (od : Option Addr) (kV doc pm : Value) (an : Option Addr) (cdv ct : Value) (osl : Array (Option Value)),
    fd = PySem.W.fnOf x qual (defArgs st) (defBody st) (defScope st) .none kV doc pm an cdv ct ∧ K.lookup f = some ⟨oc,od,.func fd,osl⟩ ∧ PySem.W.codeIn K cdv qual = true
  kp : PySem.W.keepIn K (.ref f) = true
section
variable {P : Program} {w : World} {K : PySem.W.Frag} {mg : Str → Option Value} {base : Heap}
theorem Fun.ok {x qual : Str} {st : Stmt} {f : Addr} {fd : FuncData} {N ps : List Str} {k : Nat} {sp : Sp} (F : Fun K x qual st f fd) (S : FnScope N ps (defScope st)) (len : ∀ vs H Q E,sp vs H Q E → vs.length = ps.length)
    (hbody : ∀ (cdv : Value) (A : Around) (outer : List Env) (s : Shared) (H : Hp) (vs : List V) (Q : VK) (E : XK),Room k (A.deeper (envOfC qual (defScope st) s.heap.objs.size f cdv)) → sp vs H Q E →
      ∃ t,PSs (cxOf CX0 P w K mg base N qual (defScope st) f cdv A outer s H E).nox (defBody st) t ∧ t { nx := fun _ H' => Q .non H',rt := Q } (start N vs) H) : FnOk P w K mg base CX0 (k + 1) f fd ps sp := by
  obtain ⟨oc,od,kV,doc,pm,an,cdv,ct,osl,rfl,lk,hcd⟩ := F.ex
  refine fn_of lk hcd S len fun A outer s H vs Q E hr hsp => ?_
  obtain ⟨t,h,q⟩ := hbody cdv A outer s H vs Q E hr hsp
  exact ⟨t,h.nox,q⟩
theorem Fun.binds {x qual : Str} {st : Stmt} {f : Addr} {fd : FuncData} {ps : List Str} (F : Fun K x qual st f fd)
    (h : ∀ (kV doc pm : Value) (an : Option Addr) (cdv ct : Value) (us : List Value),us.length = ps.length → bindArgs (PySem.W.fnOf x qual (defArgs st) (defBody st) (defScope st) .none kV doc pm an cdv ct) ⟨us,[]⟩ = pure (ps.zip us)) : Binds K fd ps [] := by
  obtain ⟨oc,od,kV,doc,pm,an,cdv,ct,osl,rfl,lk,hcd⟩ := F.ex
  exact .all (h kV doc pm an cdv ct)
theorem fun_mk {x qual : Str} {st : Stmt} {f : Addr} {oc : Value} {od an : Option Addr} {osl : Array (Option Value)} {kV doc pm cdv ct : Value} (l : K.lookup f = some ⟨oc,od,.func (PySem.W.fnOf x qual (defArgs st) (defBody st) (defScope st) .none kV doc pm an cdv ct),osl⟩)
    (c : PySem.W.codeIn K cdv qual = true) (k : PySem.W.keepIn K (.ref f) = true) : Fun K x qual st f (PySem.W.fnOf x qual (defArgs st) (defBody st) (defScope st) .none kV doc pm an cdv ct) := ⟨⟨oc,od,kV,doc,pm,an,cdv,ct,osl,rfl,l,c⟩,k⟩
end
theorem hu_of {A : Around} {k : Nat} (hr : Room k A) : A.units + 1 < cLine := Nat.lt_of_le_of_lt (Nat.add_le_add_left (by decide : 1 ≤ 64) _) hr.units
section
variable {X : Cx}
theorem pv (i : Nat) {x : Str} {pos : Pos} (hN : X.N[i]? = some x := by rfl) (hv : Vis X.env.scope x := by first | exact Or.inl rfl | exact Or.inr (Or.inl rfl) | exact Or.inr (Or.inr rfl)) (hd : (x == ("__debug__" : Str)) = false := by decide)
    (hcd : (x == ("__classdict__" : Str)) = false := by decide) : PE X (.Name x pos) (tVar i) := pe_var hN hv hd hcd
end
theorem iteF {A B : Prop} (h : B) : if false = true then A else B := by
  rw [if_neg Bool.false_ne_true]
  exact h
theorem iteT {A B : Prop} (h : A) : if true = true then A else B := by
  rw [if_pos rfl]
  exact h
theorem ite2 {c A B : Prop} [Decidable c] (h1 : c → A) (h2 : ¬ c → B) : if c then A else B := by
  by_cases h : c
  · rw [if_pos h]
    exact h1 h
  · rw [if_neg h]
    exact h2 h
theorem iteNS {c A B : Prop} [Decidable c] (hc : c) (h : B) : if (!decide c) = true then A else B := by
  rw [decide_eq_true hc]
  exact iteF h
noncomputable def Same (H H' : Hp) : Prop := ∀ b o,H b = some o → H' b = some o
theorem Same.refl (H : Hp) : Same H H := fun _ _ h => h
theorem Same.trans {H H1 H2 : Hp} (a : Same H H1) (b : Same H1 H2) : Same H H2 := fun c o h => b c o (a c o h)
theorem Same.free {H H' : Hp} (e : Same H H') {l : Addr} (h : H' l = Option.none) : H l = Option.none := by
  cases q : H l with
  | none => rfl
  | some o =>
    rw [e l o q] at h
    cases h
theorem Same.seq {K : PySem.W.Frag} {H H' : Hp} {a : Addr} {xs : List V} (e : Same H H') (h : SqL K H a xs) : SqL K H' a xs := by
  rcases h with (h | ⟨o,h⟩) | h
  · exact .inl (.inl (e _ _ h))
  · exact .inl (.inr ⟨o,e _ _ h⟩)
  · exact .inr h
end L2
namespace L2
open PySem PySem.Spec PyProof.Rows
section
variable {κ : Type} [DecidableEq κ]
noncomputable def valV (kvs : List (κ × V)) (k : κ) : Option V := (kvs.find? fun kv => decide (kv.1 = k)).map (·.2)
noncomputable def putK (kvs : List (κ × V)) (k : κ) (v : V) : List (κ × V) :=
  if (kvs.any fun kv => decide (kv.1 = k)) = true then kvs.map (fun kv => if kv.1 = k then (kv.1,v) else kv) else kvs ++ [(k,v)]
theorem valV_pos {p : κ × V} {r : List (κ × V)} {k : κ} (e : p.1 = k) : valV (p :: r) k = some p.2 := by simp [valV,List.find?_cons,e]
theorem valV_neg {p : κ × V} {r : List (κ × V)} {k : κ} (e : ¬ p.1 = k) : valV (p :: r) k = valV r k := by simp [valV,List.find?_cons,e]
theorem valV_any (k : κ) : ∀ kvs : List (κ × V),(kvs.any fun kv => decide (kv.1 = k)) = (valV kvs k).isSome
  | [] => rfl
  | p :: r => by
    rw [List.any_cons]
    by_cases e : p.1 = k
    · simp only [valV_pos e,decide_eq_true e,Bool.true_or,Option.isSome_some]
    · rw [valV_neg e,decide_eq_false e,Bool.false_or]; exact valV_any k r
theorem valV_map (k j : κ) (y : V) : ∀ kvs : List (κ × V),valV (kvs.map fun kv => if kv.1 = k then (kv.1,y) else kv) j = (valV kvs j).map fun x => if j = k then y else x
  | [] => rfl
  | p :: r => by
    have ih := valV_map k j y r
    rw [List.map_cons]
    by_cases h : p.1 = k
    · rw [if_pos h]
      by_cases e : p.1 = j
      · rw [valV_pos (p := (p.1,y)) e,valV_pos e,Option.map_some,if_pos (e.symm.trans h)]
      · rw [valV_neg (p := (p.1,y)) e,valV_neg e,ih]
    · rw [if_neg h]
      by_cases e : p.1 = j
      · rw [valV_pos (p := p) e,valV_pos e,Option.map_some,if_neg (fun z => h (e.trans z))]
      · rw [valV_neg (p := p) e,valV_neg e,ih]
theorem valV_snoc (k j : κ) (y : V) : ∀ kvs : List (κ × V),valV kvs k = none → valV (kvs ++ [(k,y)]) j = if j = k then some y else valV kvs j
  | [],_ => by
    by_cases e : k = j
    · rw [if_pos e.symm]; exact valV_pos (p := (k,y)) e
    · rw [if_neg (fun z => e z.symm)]; exact valV_neg (p := (k,y)) e
  | p :: r,hn => by
    rw [List.cons_append]
    have hk : ¬ p.1 = k := fun z => by rw [valV_pos z] at hn; cases hn
    rw [valV_neg hk] at hn
    have ih := valV_snoc k j y r hn
    by_cases e : p.1 = j
    · rw [valV_pos e,valV_pos e,if_neg (fun z => hk (e.trans z))]
    · rw [valV_neg e,valV_neg e,ih]
theorem valV_put (kvs : List (κ × V)) (k j : κ) (y : V) : valV (putK kvs k y) j = if j = k then some y else valV kvs j := by
  unfold putK
  by_cases a : (kvs.any fun kv => decide (kv.1 = k)) = true
  · rw [if_pos a,valV_map]
    rw [valV_any] at a
    by_cases e : j = k
    · obtain ⟨x,hx⟩ := Option.isSome_iff_exists.mp a
      rw [if_pos e,e,hx,Option.map_some,if_pos rfl]
    · rw [if_neg e]
      cases valV kvs j with
      | none => rfl
      | some x => rw [Option.map_some,if_neg e]
  · rw [if_neg a]
    refine valV_snoc k j y kvs ?_
    rw [valV_any] at a
    cases q : valV kvs k with
    | none => rfl
    | some x => rw [q] at a; exact (a rfl).elim
theorem length_putK (kvs : List (κ × V)) (k : κ) (v : V) : (putK kvs k v).length ≤ kvs.length + 1 := by
  unfold putK
  split
  · rw [List.length_map]; omega
  · rw [List.length_append,List.length_cons,List.length_nil]; omega
theorem putK_new {kvs : List (κ × V)} {k : κ} (v : V) (h : valV kvs k = none) : putK kvs k v = kvs ++ [(k,v)] := by
  unfold putK
  rw [valV_any,h]
  exact if_neg (by decide)
theorem RelO.isSome_eq {o : Option V} {u : Option Value} (r : RelO o u) : o.isSome = u.isSome := by
  cases o with
  | none => cases u with
    | none => rfl
    | some _ => exact (show False from r).elim
  | some _ => cases u with
    | none => exact (show False from r).elim
    | some _ => rfl
theorem RelO.getD {o : Option V} {u : Option Value} {d : V} {d' : Value} (r : RelO o u) (rd : RelV d d') : RelV (o.getD d) (u.getD d') := by
  cases o with
  | none => cases u with
    | none => exact rd
    | some _ => exact (show False from r).elim
  | some _ => cases u with
    | none => exact (show False from r).elim
    | some _ => exact r
theorem KV.val {kvs : List (κ × V)} {vs : List (κ × Value)} (r : KV kvs vs) (k : κ) : RelO (valV kvs k) (valueAt vs k) := by
  unfold KV at r
  induction r with
  | nil => exact True.intro
  | @cons p q ps qs h t ih =>
    obtain ⟨h1,h2⟩ := h
    by_cases e : p.1 = k
    · have e' : q.1 = k := h1.symm.trans e
      have b : valueAt (q :: qs) k = some q.2 := by simp [valueAt,List.find?_cons,e']
      rw [valV_pos e,b]; exact h2
    · have e' : ¬ q.1 = k := fun z => e (h1.trans z)
      have b : valueAt (q :: qs) k = valueAt qs k := by simp [valueAt,List.find?_cons,e']
      rw [valV_neg e,b]; exact ih
theorem KV.any {kvs : List (κ × V)} {vs : List (κ × Value)} (r : KV kvs vs) (k : κ) : (kvs.any fun kv => decide (kv.1 = k)) = vs.any fun kv => decide (kv.1 = k) := by
  unfold KV at r
  induction r with
  | nil => rfl
  | cons h t ih => rw [List.any_cons,List.any_cons,ih,h.1]
theorem KV.repl {kvs : List (κ × V)} {vs : List (κ × Value)} (r : KV kvs vs) (k : κ) {y : V} {u : Value} (ry : RelV y u) :
    KV (kvs.map fun kv => if kv.1 = k then (kv.1,y) else kv) (vs.map fun kv => if kv.1 = k then (kv.1,u) else kv) := by
  unfold KV at r ⊢
  induction r with
  | nil => exact .nil
  | @cons p q ps qs h t ih =>
    rw [List.map_cons,List.map_cons]
    refine .cons ?_ ih
    obtain ⟨h1,h2⟩ := h
    by_cases e : p.1 = k
    · rw [if_pos e,if_pos (h1.symm.trans e)]; exact ⟨h1,ry⟩
    · rw [if_neg e,if_neg (fun z => e (h1.trans z))]; exact ⟨h1,h2⟩
theorem KV.put {kvs : List (κ × V)} {vs : List (κ × Value)} (r : KV kvs vs) (k : κ) {y : V} {u : Value} (ry : RelV y u) : KV (putK kvs k y) (stored vs k u) := by
  unfold putK stored
  rw [r.any k]
  by_cases e : (vs.any fun kv => decide (kv.1 = k)) = true
  · rw [if_pos e,if_pos e]; exact r.repl k ry
  · rw [if_neg e,if_neg e]; exact Paired.snoc r ⟨rfl,ry⟩
theorem KV.length {kvs : List (κ × V)} {vs : List (κ × Value)} (r : KV kvs vs) : kvs.length = vs.length := Paired.length r
end
theorem kV_is {P : Program} {w : World} {k : Key} {u : Value} (r : RelV (kV k) u) : (mixKind P w).is k u = true := by
  cases k with
  | inl i => obtain ⟨t,e⟩ := (show ∃ t,u = Value.int i t from r); subst e; exact mixKind_int P w i t
  | inr x => obtain ⟨t,e⟩ := (show ∃ t,u = Value.str x t from r); subst e; exact mixKind_str P w x t
theorem items_are {P : Program} {w : World} : ∀ {ks : List Key} {us : List Value},Vals (ks.map kV) us → ItemsAre (mixKind P w) ks us
  | [],_,r => by rw [List.map_nil] at r; cases r; exact .nil
  | k :: ks,_,r => by
    rw [List.map_cons] at r
    cases r with
    | cons h t => exact .cons (kV_is h) (items_are t)
noncomputable abbrev KT (H : Hp) : List (List Key × V) → List (List Key × Addr × Value) → Prop := Paired fun p q => p.1 = q.1 ∧ H q.2.1 = some (.tup (p.1.map kV)) ∧ RelV p.2 q.2.2
theorem KT.val {H : Hp} {kvs : List (List Key × V)} {xs : List (List Key × Addr × Value)} (r : KT H kvs xs) (k : List Key) : RelO (valV kvs k) ((atKey xs k).map (·.2)) := by
  induction r with
  | nil => exact True.intro
  | @cons p q ps qs h t ih =>
    obtain ⟨h1,_,h2⟩ := h
    by_cases e : p.1 = k
    · have e' : q.1 = k := h1.symm.trans e
      have b : atKey (q :: qs) k = some q.2 := by simp [atKey,List.find?_cons,e']
      rw [valV_pos e,b]; exact h2
    · have e' : ¬ q.1 = k := fun z => e (h1.trans z)
      have b : atKey (q :: qs) k = atKey qs k := by simp [atKey,List.find?_cons,e']
      rw [valV_neg e,b]; exact ih
theorem KT.repl {H : Hp} {kvs : List (List Key × V)} {xs : List (List Key × Addr × Value)} (r : KT H kvs xs) (k : List Key) {y : V} {u : Value} (ry : RelV y u) :
    KT H (kvs.map fun kv => if kv.1 = k then (kv.1,y) else kv) (xs.map (putAt k u)) := by
  induction r with
  | nil => exact .nil
  | @cons p q ps qs h t ih =>
    rw [List.map_cons,List.map_cons]
    refine .cons ?_ ih
    obtain ⟨h1,h2,h3⟩ := h
    unfold putAt
    by_cases e : p.1 = k
    · rw [if_pos e,if_pos (h1.symm.trans e)]; exact ⟨h1,h2,ry⟩
    · rw [if_neg e,if_neg (fun z => e (h1.trans z))]; exact ⟨h1,h2,h3⟩
theorem KT.put {H : Hp} {kvs : List (List Key × V)} {xs : List (List Key × Addr × Value)} (r : KT H kvs xs) (k : List Key) {b : Addr} {y : V} {u : Value} (hb : H b = some (.tup (k.map kV))) (ry : RelV y u) :
    KT H (putK kvs k y) (storedH xs k b u) := by
  have e : (kvs.any fun kv => decide (kv.1 = k)) = (atKey xs k).isSome := by
    rw [valV_any,(r.val k).isSome_eq,Option.isSome_map]
  unfold putK storedH
  rw [e]
  by_cases q : (atKey xs k).isSome = true
  · rw [if_pos q,if_pos q]; exact r.repl k ry
  · rw [if_neg q,if_neg q]; exact Paired.snoc r ⟨rfl,hb,ry⟩
theorem KT.keeps {H H' : Hp} {kvs : List (List Key × V)} {xs : List (List Key × Addr × Value)} (r : KT H kvs xs) (ht : ∀ b ys,H b = some (.tup ys) → H' b = some (.tup ys)) : KT H' kvs xs :=
  Paired.mapP r fun _ _ z => ⟨z.1,ht _ _ z.2.1,z.2.2⟩
section
variable {P : Program} {w : World} {H : Hp} {h : Heap} {a : Addr}
theorem rd_of {u : HO} (ok : HOk P w H h) (e : Rd H a u) : ObjOk P w H h a u := e.ok ok
theorem dk_rd {kvs : List (Key × V)} (ok : HOk P w H h) (e : Rd H a (.dK kvs)) : kvs.length ≤ sizeLine ∧ (a == sysModules) = false ∧ ∃ vs,KV kvs vs ∧ h.DictOf (mixKind P w) a vs :=
  show ObjOk P w H h a (.dK kvs) from rd_of ok e
theorem dk_of {kvs : List (Key × V)} (ok : HOk P w H h) (e : H a = some (.dK kvs)) : kvs.length ≤ sizeLine ∧ (a == sysModules) = false ∧ ∃ vs,KV kvs vs ∧ h.DictOf (mixKind P w) a vs := dk_rd ok (.inl e)
theorem key_of {ks : List Key} (ok : HOk P w H h) (e : H a = some (.tup (ks.map kV))) : (tupleKind (mixKind P w)).is h ks a := by
  obtain ⟨_,its,r,o,h1,h2,n,h3⟩ := (show ObjOk P w H h a (.tup (ks.map kV)) from ok a _ e)
  exact ⟨o,its.toArray,n,h1,h2,h3,by simpa using items_are r⟩
theorem dt_rd {kvs : List (List Key × V)} (ok : HOk P w H h) (e : Rd H a (.dT kvs)) : kvs.length ≤ sizeLine ∧ (a == sysModules) = false ∧
    ∃ xs,KT H kvs xs ∧ h.DictOfH (tupleKind (mixKind P w)) a xs := by
  obtain ⟨z,y,xs,r,o,es,ep,h1,h2,h3,h4,h5⟩ := (show ObjOk P w H h a (.dT kvs) from rd_of ok e)
  refine ⟨z,y,xs,r,o,es,ep,h1,h2,h3,h4,fun x hx => ?_,h5⟩
  have all : ∀ {l : List (List Key × V)} {m : List (List Key × Addr × Value)},KT H l m → ∀ x ∈ m,(tupleKind (mixKind P w)).is h x.1 x.2.1 := by
    intro l m q
    induction q with
    | nil => intro x hx; exact nomatch hx
    | @cons p q ps qs hq t ih =>
      intro x hx
      rcases List.mem_cons.mp hx with e | hx
      · subst e
        exact key_of ok (by rw [← hq.1]; exact hq.2.1)
      · exact ih x hx
  exact all r x hx
theorem dt_of {kvs : List (List Key × V)} (ok : HOk P w H h) (e : H a = some (.dT kvs)) : kvs.length ≤ sizeLine ∧ (a == sysModules) = false ∧
    ∃ xs,KT H kvs xs ∧ h.DictOfH (tupleKind (mixKind P w)) a xs := dt_rd ok (.inl e)
end
noncomputable def DGet (H : Hp) (a : Addr) (y : V) (r : Option V) : Prop :=
  (∃ kvs k,Rd H a (.dK kvs) ∧ y = kV k ∧ r = valV kvs k) ∨ ∃ kvs k b,Rd H a (.dT kvs) ∧ y = .ref b ∧ H b = some (.tup (k.map kV)) ∧ r = valV kvs k
noncomputable def DPut (H : Hp) (a : Addr) (y v : V) (H' : Hp) : Prop :=
  (∃ kvs k,H a = some (.dK kvs) ∧ y = kV k ∧ kvs.length < sizeLine ∧ H' = upd H a (.dK (putK kvs k v))) ∨
  ∃ kvs k b,H a = some (.dT kvs) ∧ y = .ref b ∧ H b = some (.tup (k.map kV)) ∧ kvs.length < sizeLine ∧ H' = upd H a (.dT (putK kvs k v))
theorem DGet.k {H : Hp} {a : Addr} {kvs : List (Key × V)} {k : Key} (e : H a = some (.dK kvs)) : DGet H a (kV k) (valV kvs k) := .inl ⟨kvs,k,.inl e,rfl,rfl⟩
theorem DGet.t {H : Hp} {a b : Addr} {kvs : List (List Key × V)} {k : List Key} (e : H a = some (.dT kvs)) (eb : H b = some (.tup (k.map kV))) : DGet H a (.ref b) (valV kvs k) := .inr ⟨kvs,k,b,.inl e,rfl,eb,rfl⟩
theorem DPut.k {H : Hp} {a : Addr} {kvs : List (Key × V)} {k : Key} {v : V} (e : H a = some (.dK kvs)) (hl : kvs.length < sizeLine) : DPut H a (kV k) v (upd H a (.dK (putK kvs k v))) := .inl ⟨kvs,k,e,rfl,hl,rfl⟩
theorem DPut.t {H : Hp} {a b : Addr} {kvs : List (List Key × V)} {k : List Key} {v : V} (e : H a = some (.dT kvs)) (eb : H b = some (.tup (k.map kV))) (hl : kvs.length < sizeLine) :
    DPut H a (.ref b) v (upd H a (.dT (putK kvs k v))) := .inr ⟨kvs,k,b,e,rfl,eb,hl,rfl⟩
section
variable {X : Cx} {pins : List (Addr × Obj)} {σ : St} {H : Hp} {s : Shared} {a : Addr} {y v : V} {u r : Value} {o : Option V} {A : Around} {E : Value → Shared → Prop}
theorem Inv.big (I : Inv X pins σ H s) : sysModules < s.heap.objs.size := by
  have h : mainGlobals < s.heap.objs.size := (I.mod.glob.keeps I.bk).lt
  exact Nat.lt_trans (by decide) h
theorem d_notIn {Q : Value → Shared → Prop} (hu : A.units + 1 < cLine) (I : Inv X pins σ H s) (g : DGet H a y o) (ry : RelV y u) (h : ∀ s',Inv X pins σ H s' → Q (.bool (!o.isSome)) s') :
    wpAny (model X.prog X.w) A (compareOp .NotIn u (.ref a)) Q E s := by
  rcases g with ⟨kvs,k,e,ey,l⟩ | ⟨kvs,k,b,e,ey,eb,l⟩
  · subst ey
    obtain ⟨z,hd,vs,rel,dd⟩ := dk_rd I.hok e
    refine wpAny_notIn_of (kV_is ry) hd dd.mapOf ?_
    rw [← (rel.val k).isSome_eq,← l]
    exact h _ (I.tok _)
  · subst ey
    cases (show u = Value.ref b from ry)
    obtain ⟨z,hd,xs,rel,dd⟩ := dt_rd I.hok e
    refine wpAny_notIn_heap (tupleKind_room_in1 hu) (key_of I.hok eb) hd dd ?_
    have q := (rel.val k).isSome_eq
    rw [Option.isSome_map] at q
    rw [← q,← l]
    exact h _ (I.tok _)
theorem d_write {h' : Heap} {t' : Nat} {ob : HO} (I : Inv X pins σ H s) (mu : Mut (H a)) (hs : Heap.SameBut a s.heap h') (he : ∃ q,h'.get? a = some q) (new : ObjOk X.prog X.w (upd H a ob) h' a ob) :
    Inv X pins σ (upd H a ob) { s with heap := h',toks := t' } :=
  I.write (x := a) (e := a) mu (.inl rfl) (fun b q hb z => (hs.2 b hb).trans z) he new
theorem dk_new {P : Program} {w : World} {H' : Hp} {h' : Heap} {kvs : List (Key × V)} {vs : List (Key × Value)} (z : kvs.length ≤ sizeLine) (hd : (a == sysModules) = false) (rel : KV kvs vs) (dd : h'.DictOf (mixKind P w) a vs) :
    ObjOk P w H' h' a (.dK kvs) := ⟨z,hd,vs,rel,dd⟩
theorem d_setItem {H' : Hp} {Q : Unit → Shared → Prop} (hu : A.units + 1 < cLine) (I : Inv X pins σ H s) (g : DPut H a y v H') (ry : RelV y u) (rv : RelV v r) (h : ∀ s',Inv X pins σ H' s' → Q () s') :
    wpAny (model X.prog X.w) A (setItem (.ref a) u r) Q E s := by
  rcases g with ⟨kvs,k,e,ey,l,eH⟩ | ⟨kvs,k,b,e,ey,eb,l,eH⟩
  · subst ey eH
    obtain ⟨z,hd,vs,rel,dd⟩ := dk_of I.hok e
    have hz : vs.length ≤ sizeLine := by rw [← rel.length]; exact z
    have hl : (putK kvs k v).length ≤ sizeLine := by have := length_putK kvs k v; omega
    refine wpAny_setItem_pairs (hsz := hz) (kV_is ry) dd fun h' dd' hs => h _ ?_
    have he : ∃ q,h'.get? a = some q := let ⟨q,_,_,hq,_⟩ := dd'; ⟨q,hq⟩
    exact d_write I (by rw [e]; exact True.intro) hs he (dk_new hl hd (rel.put k rv) dd')
  · subst ey eH
    cases (show u = Value.ref b from ry)
    obtain ⟨z,hd,xs,rel,dd⟩ := dt_of I.hok e
    have hz : xs.length ≤ sizeLine := by rw [← Paired.length rel]; exact z
    have hl : (putK kvs k v).length ≤ sizeLine := by have := length_putK kvs k v; omega
    refine wpAny_setItem_heap (hsz := hz) (tupleKind_room_in1 hu) (key_of I.hok eb) dd fun h' dd' hs => h _ ?_
    obtain ⟨q,es,ep,hq,h2,h3,h4,_,h5⟩ := dd'
    refine d_write I (by rw [e]; exact True.intro) hs ⟨q,hq⟩ ⟨hl,hd,_,(rel.put k eb rv).keeps fun c ys ec => ?_,q,es,ep,hq,h2,h3,h4,h5⟩
    rw [upd_ne (ne_of ec e (fun z => nomatch z))]
    exact ec
end
section
variable {X : Cx} {pins : List (Addr × Obj)} {σ : St} {H : Hp} {s : Shared} {a : Addr} {kvs : List (Key × V)} {k : Key} {u : Value} {A : Around} {E : Value → Shared → Prop}
end
noncomputable def tDNotIn (ty td : TE) : TE := fun σ H Q => ty σ H fun y H1 => td σ H1 fun x H2 => ∃ a o,x = .ref a ∧ DGet H2 a y o ∧ Q (.bl (!o.isSome)) H2
noncomputable def sDPut (td ty tv : TE) : TS := fun D σ H => tv σ H fun v H1 => td σ H1 fun x H2 => ty σ H2 fun y H3 => ∃ a H4,x = .ref a ∧ DPut H3 a y v H4 ∧ D.nx σ H4
section
variable {X : Cx} {o i e value : Expr} {pos pos' tpos : Pos} {td ty tv : TE}
theorem pc_dnotin (hu : X.A.units + 1 < cLine) (hi : PE X i ty) (ho : PE X o td) : PC X .NotIn i o (tDNotIn ty td) := by
  intro pins s σ H Q I h
  refine thn (hi pins s σ H _ I h) fun iv s1 ⟨y,H1,I1,ry,q1⟩ => thn (ho pins s1 σ H1 _ I1 q1) fun u s2 zy => ?_
  obtain ⟨x,H2,I2,rx,a,ov,ex,g,q2⟩ := zy
  subst ex
  obtain rfl : u = Value.ref a := rx
  exact d_notIn hu I2 g ry fun s3 I3 => ⟨.bl (!ov.isSome),H2,I3,rfl,q2⟩
theorem ps_dput (hu : X.A.units + 1 < cLine) (ho : PE X o td) (hi : PE X i ty) (hv : PE X value tv) (hs : swapsWith value (some (.Subscript o i pos')) pos.line X.env = pure false) :
    PS X (.Assign [.Subscript o i pos'] value pos) (sDPut td ty tv) := by
  intro pins s σ H D I h
  refine wpAny_Assign_Subscript (thn (hv pins s σ H _ I h) fun r s1 ⟨v,H1,I1,rv,q1⟩ => thn (ho pins s1 σ H1 _ I1 q1) fun u s2 ⟨x,H2,I2,rx,q2⟩ => thn (hi pins s2 σ H2 _ I2 q2) fun iv s3 zy => ?_) hs
  obtain ⟨y,H3,I3,ry,a,H4,ex,g,q3⟩ := zy
  subst ex
  obtain rfl : u = Value.ref a := rx
  exact d_setItem hu I3 g ry rv fun s4 I4 => ⟨σ,H4,I4,q3⟩
end
theorem dk_empty {P : Program} {w : World} {H : Hp} (h : Heap) (hb : sysModules < h.objs.size) : ObjOk P w H (h.push { cls := .type "dict",data := .dict #[] }) h.objs.size (.dK []) :=
  ⟨Nat.zero_le _,beq_eq_false_iff_ne.mpr (Ne.symm (Nat.ne_of_lt hb)),[],.nil,Heap.DictOf.new h⟩
theorem dt_empty {P : Program} {w : World} {H : Hp} (h : Heap) (hb : sysModules < h.objs.size) : ObjOk P w H (h.push { cls := .type "dict",data := .dict #[] }) h.objs.size (.dT []) :=
  ⟨Nat.zero_le _,beq_eq_false_iff_ne.mpr (Ne.symm (Nat.ne_of_lt hb)),[],.nil,_,#[],0,Heap.get?_push_size _ rfl,⟨rfl,rfl,rfl⟩,rfl,rfl,List.nodup_nil⟩
noncomputable def tDNewK : TE := fun _ H Q => ∀ p,H p = none → Q (.ref p) (upd H p (.dK []))
noncomputable def tDNewT : TE := fun _ H Q => ∀ p,H p = none → Q (.ref p) (upd H p (.dT []))
section
variable {X : Cx} {pos : Pos}
theorem pe_dnewK : PE X (.Dict [] [] pos) tDNewK := fun pins s σ H Q I h =>
  wpAny_Dict_empty ⟨.ref s.heap.objs.size,_,I.laid (a := s.heap.objs.size) (o := .dK []) (t' := s.toks) (fun _ _ q => Heap.get?_push_of_some _ q) (Nat.le_refl _) (dk_empty s.heap I.big),rfl,h _ (I.hok.fresh (Nat.le_refl _))⟩
theorem pe_dnewT : PE X (.Dict [] [] pos) tDNewT := fun pins s σ H Q I h =>
  wpAny_Dict_empty ⟨.ref s.heap.objs.size,_,I.laid (a := s.heap.objs.size) (o := .dT []) (t' := s.toks) (fun _ _ q => Heap.get?_push_of_some _ q) (Nat.le_refl _) (dt_empty s.heap I.big),rfl,h _ (I.hok.fresh (Nat.le_refl _))⟩
end
structure M1 (X : Cx) (o : Expr) (m : Str) (apos : Pos) (e : Expr) (cpos : Pos) : Prop where
  base : attributeBase o m X.env (eval o X.env) = eval o X.env
  few : ((backTo cpos (starEach [e] X.env)).all (fun x => !x.1) && (backToKw cpos (keywordEach [] X.env)).all (fun x => x.1.isSome)
    && decide (([e] : List Expr).length + ([] : List Keyword).length + (if ([] : List Keyword).isEmpty then 0 else 1) < 30)) = true
  line : (apos.endLine == cpos.line) = true
  trees : backTo cpos (starEach [e] X.env) = [(false,eval e X.env)]
structure M2 (X : Cx) (o : Expr) (m : Str) (apos : Pos) (e f : Expr) (cpos : Pos) : Prop where
  base : attributeBase o m X.env (eval o X.env) = eval o X.env
  few : ((backTo cpos (starEach [e,f] X.env)).all (fun x => !x.1) && (backToKw cpos (keywordEach [] X.env)).all (fun x => x.1.isSome)
    && decide (([e,f] : List Expr).length + ([] : List Keyword).length + (if ([] : List Keyword).isEmpty then 0 else 1) < 30)) = true
  line : (apos.endLine == cpos.line) = true
  trees : backTo cpos (starEach [e,f] X.env) = [(false,eval e X.env),(false,eval f X.env)]
noncomputable def IsD (H : Hp) (a : Addr) : Prop := (∃ kvs,Rd H a (.dK kvs)) ∨ ∃ kvs,Rd H a (.dT kvs)
theorem isD_at {X : Cx} {pins : List (Addr × Obj)} {σ : St} {H : Hp} {s : Shared} {a : Addr} (I : Inv X pins σ H s) (d : IsD H a) :
    s.TypeIs (.ref a) "dict" ∧ (∀ b,Value.ref a = .ref b → ∃ ob,s.heap.get? b = some ob ∧ ob.dict = none) ∧ (a == sysModules) = false := by
  rcases d with ⟨kvs,e⟩ | ⟨kvs,e⟩
  · obtain ⟨_,hd,vs,_,dd⟩ := dk_rd I.hok e
    refine ⟨dd.typeIs,fun b q => ?_,hd⟩
    cases q
    obtain ⟨ob,_,_,h1,h2,_⟩ := dd
    exact ⟨ob,h1,h2.2.1⟩
  · obtain ⟨_,hd,xs,_,dd⟩ := dt_rd I.hok e
    refine ⟨dd.typeIs,fun b q => ?_,hd⟩
    cases q
    obtain ⟨ob,_,_,h1,h2,_⟩ := dd
    exact ⟨ob,h1,h2.2.1⟩
section
variable {X : Cx} {pins : List (Addr × Obj)} {σ : St} {H : Hp} {s : Shared} {a : Addr} {y d : V} {u r : Value} {o : Option V} {A : Around} {E : Value → Shared → Prop}
theorem d_get2 {Q : Value → Shared → Prop} (hu : A.units + 1 < cLine) (I : Inv X pins σ H s) (g : DGet H a y o) (ry : RelV y u) (rd : RelV d r) (h : ∀ w' s',Inv X pins σ H s' → RelV (o.getD d) w' → Q w' s') :
    wpAny (model X.prog X.w) A (call (.builtin "dict.get") [.ref a,u,r]) Q E s := by
  rcases g with ⟨kvs,k,e,ey,l⟩ | ⟨kvs,k,b,e,ey,eb,l⟩
  · subst ey
    obtain ⟨z,hd,vs,rel,dd⟩ := dk_rd I.hok e
    refine call_meetsIn PySem.F.slot_dict_get dd.typeIs PySem.F.entry_dict_get (PySem.F.args_dict_get_3 _ _ _) (meets_dict_get_default (mixKind X.prog X.w) a (kV_is ry) hd r) ⟨_,dd.mapOf,h _ _ (I.tok _) ?_⟩
    rw [l]
    exact (rel.val k).getD rd
  · subst ey
    cases (show u = Value.ref b from ry)
    obtain ⟨z,hd,xs,rel,dd⟩ := dt_rd I.hok e
    refine call_meetsIn PySem.F.slot_dict_get dd.typeIs PySem.F.entry_dict_get (PySem.F.args_dict_get_3 _ _ _) (meetsH_dict_get_default (tupleKind (mixKind X.prog X.w)) a b hd r) ⟨tupleKind_room_in1 hu,k,xs,key_of I.hok eb,dd,h _ _ (I.tok _) ?_⟩
    rw [l]
    exact (rel.val k).getD rd
end
noncomputable def tDGet2 (td ty tx : TE) : TE := fun σ H Q => td σ H fun x H1 => ∃ a,x = .ref a ∧ IsD H1 a ∧ ty σ H1 fun y H2 => tx σ H2 fun z H3 => ∃ o,DGet H3 a y o ∧ Q (o.getD z) H3
section
variable {X : Cx} {o e f : Expr} {apos cpos : Pos} {td ty tx : TE}
theorem pe_dget2 (hu : X.A.units + 1 < cLine) (ho : PE X o td) (he : PE X e ty) (hf : PE X f tx) (m : M2 X o "get" apos e f cpos) : PE X (.Call (.Attribute o "get" apos) [e,f] [] cpos) (tDGet2 td ty tx) := by
  intro pins s σ H Q I h
  refine wpAny_Call_method m.base m.few m.line PySem.F.plainAttrs_dict PySem.F.slot_dict_get PySem.F.type_dict_get (thn (ho pins s σ H _ I h) fun u s1 zy => ?_)
  obtain ⟨x,H1,I1,rx,a,ex,d,q1⟩ := zy
  subst ex
  obtain rfl : u = Value.ref a := rx
  obtain ⟨t1,t2,_⟩ := isD_at I1 d
  refine ⟨t1,t2,?_⟩
  rw [m.trees]
  refine Calls.callWith_builtin rfl (Calls.evalArgs_plain (Calls.spliced_cons (thn (he pins s1 σ H1 _ I1 q1) fun iv s2 ⟨y,H2,I2,ry,q2⟩ =>
    Calls.spliced_cons (thn (hf pins s2 σ H2 _ I2 q2) fun fv s3 ⟨z,H3,I3,rz,ov,g,q3⟩ => Calls.spliced_nil ?_))))
  exact d_get2 hu I3 g ry rz fun w' s4 I4 rw' => ⟨_,H3,I4,rw',q3⟩
end
section
variable {X : Cx} {pins : List (Addr × Obj)} {σ : St} {H : Hp} {s : Shared} {a : Addr} {kvs : List (Key × V)} {A : Around} {E : Value → Shared → Prop}
theorem d_copyOf {Q : Value → Shared → Prop} (I : Inv X pins σ H s) (e : Rd H a (.dK kvs)) (h : ∀ p s',H p = none → Inv X pins σ (upd H p (.dK kvs)) s' → Q (.ref p) s') : wpAny (model X.prog X.w) A (call (.type "dict") [.ref a]) Q E s := by
  obtain ⟨z,hd,vs,rel,dd⟩ := dk_rd I.hok e
  refine kt_call_dict hd dd (by rw [← rel.length]; exact z) fun h' dd' hs => ?_
  refine h _ _ (I.hok.fresh (Nat.le_refl _)) (I.laid (a := s.heap.objs.size) (o := .dK kvs) (t' := s.toks) (fun b q hq => ?_) (Nat.le_refl _) (dk_new z (beq_eq_false_iff_ne.mpr (Ne.symm (Nat.ne_of_lt I.big))) rel dd'))
  exact (hs.2 b (Nat.ne_of_lt (Heap.lt_size hq))).trans (Heap.get?_push_of_some _ hq)
end
section
variable {X : Cx} {pins : List (Addr × Obj)} {σ : St} {H : Hp} {s : Shared} {a : Addr} {y : V} {u : Value} {A : Around} {E : Value → Shared → Prop}
end
end L2
namespace L2
open PySem PySem.Spec PyProof.Rows
section
variable {X : Cx}
end
section
variable {κ : Type} [DecidableEq κ]
theorem valV_not {kvs : List (κ × V)} {k : κ} (h : valV kvs k = none) : ¬ k ∈ kvs.map (·.1) := by
  intro m
  obtain ⟨p,hp,e⟩ := List.mem_map.mp m
  have q : (kvs.any fun kv => decide (kv.1 = k)) = true := List.any_eq_true.mpr ⟨p,hp,decide_eq_true e⟩
  rw [valV_any,h] at q
  exact absurd q (by simp)
theorem nd_snoc : ∀ {l : List κ} {k : κ},l.Nodup → ¬ k ∈ l → (l ++ [k]).Nodup
  | [],k,_,_ => by simp
  | a :: r,k,h,hk => by
    obtain ⟨h1,h2⟩ := List.nodup_cons.mp h
    show (a :: (r ++ [k])).Nodup
    refine List.nodup_cons.mpr ⟨fun m => ?_,nd_snoc h2 fun m => hk (List.mem_cons.mpr (Or.inr m))⟩
    rcases List.mem_append.mp m with q | q
    · exact h1 q
    · exact hk (List.mem_cons.mpr (Or.inl (List.mem_singleton.mp q).symm))
theorem nd_putK {kvs : List (κ × V)} {k : κ} (v : V) (hn : (kvs.map (·.1)).Nodup) (h : valV kvs k = none) : ((putK kvs k v).map (·.1)).Nodup := by
  rw [putK_new v h,List.map_append]
  exact nd_snoc hn (valV_not h)
end
end L2
namespace L2
open PySem PySem.Spec PyProof.Rows
noncomputable def clOf (env : Env) : List (Str × NameKind) → List (Str × Addr) → List (Str × Addr)
  | [],acc => acc
  | (n,k) :: r,acc => if k = .free then (match env.cells.lookup n with | some a => clOf env r ((n,a) :: acc) | none => clOf env r acc) else clOf env r acc
theorem clOf_sub {env : Env} : ∀ {names : List (Str × NameKind)} {acc : List (Str × Addr)} {x : Str} {c : Addr},(clOf env names acc).lookup x = some c → acc.lookup x = some c ∨ env.cells.lookup x = some c
  | [],_,_,_,h => .inl h
  | (n,k) :: r,acc,x,c,h => by
    unfold clOf at h
    by_cases hk : k = .free
    · rw [if_pos hk] at h
      cases e : env.cells.lookup n with
      | none => rw [e] at h; exact clOf_sub h
      | some a =>
        rw [e] at h
        rcases clOf_sub h with q | q
        · rw [List.lookup_cons] at q
          cases hx : x == n with
          | true =>
            rw [hx] at q
            have hx' : x = n := eq_of_beq hx
            exact .inr (by rw [hx',e]; exact q)
          | false => rw [hx] at q; exact .inl q
        · exact .inr q
    · rw [if_neg hk] at h; exact clOf_sub h
theorem clOf_keep {env : Env} {x : Str} : ∀ {names : List (Str × NameKind)} {acc : List (Str × Addr)},(∃ c,acc.lookup x = some c) → ∃ c,(clOf env names acc).lookup x = some c
  | [],_,h => h
  | (n,k) :: r,acc,h => by
    unfold clOf
    by_cases hk : k = .free
    · rw [if_pos hk]
      cases e : env.cells.lookup n with
      | none => exact clOf_keep h
      | some a =>
        refine clOf_keep ?_
        rw [List.lookup_cons]
        cases hx : x == n with
        | true => exact ⟨a,rfl⟩
        | false => exact h
    · rw [if_neg hk]; exact clOf_keep h
theorem clOf_has {env : Env} {x : Str} : ∀ {names : List (Str × NameKind)} {acc : List (Str × Addr)},names.lookup x = some .free → (∃ c,env.cells.lookup x = some c) → ∃ c,(clOf env names acc).lookup x = some c
  | [],_,h,_ => by cases h
  | (n,k) :: r,acc,h,hc => by
    unfold clOf
    rw [List.lookup_cons] at h
    cases hx : x == n with
    | true =>
      rw [hx] at h
      have hk : k = .free := Option.some.inj h
      have hn : x = n := eq_of_beq hx
      obtain ⟨c,e⟩ := hc
      rw [if_pos hk,← hn,e]
      refine clOf_keep ⟨c,?_⟩
      rw [List.lookup_cons,beq_self_eq_true]
    | false =>
      rw [hx] at h
      by_cases hk : k = .free
      · rw [if_pos hk]
        cases e : env.cells.lookup n with
        | none => exact clOf_has h hc
        | some a => exact clOf_has h hc
      · rw [if_neg hk]; exact clOf_has h hc
theorem relab_free {env : Env} : ∀ {names : List (Str × NameKind)} {x : Str},names.lookup x = some .free →
    (names.map fun (n,k) => if (k == NameKind.free && env.scope.kind == .function && env.kindOf n == some .cell) then (n,NameKind.cell) else (n,k)).lookup x = some .free ∨
    (names.map fun (n,k) => if (k == NameKind.free && env.scope.kind == .function && env.kindOf n == some .cell) then (n,NameKind.cell) else (n,k)).lookup x = some .cell
  | [],_,h => by simp at h
  | (n,k) :: r,x,h => by
    have ih := @relab_free env r x
    show List.lookup x ((if (k == NameKind.free && env.scope.kind == .function && env.kindOf n == some .cell) = true then (n,NameKind.cell) else (n,k)) :: _) = _ ∨
      List.lookup x ((if (k == NameKind.free && env.scope.kind == .function && env.kindOf n == some .cell) = true then (n,NameKind.cell) else (n,k)) :: _) = _
    cases hx : x == n with
    | true =>
      simp only [List.lookup_cons,hx] at h
      cases h
      by_cases hc : (NameKind.free == NameKind.free && env.scope.kind == .function && env.kindOf n == some .cell) = true
      · rw [if_pos hc]; exact .inr (by simp only [List.lookup_cons,hx])
      · rw [if_neg hc]; exact .inl (by simp only [List.lookup_cons,hx])
    | false =>
      simp only [List.lookup_cons,hx] at h
      by_cases hc : (k == NameKind.free && env.scope.kind == .function && env.kindOf n == some .cell) = true
      · rw [if_pos hc]; simp only [List.lookup_cons,hx]; exact ih h
      · rw [if_neg hc]; simp only [List.lookup_cons,hx]; exact ih h
theorem relab_of {env : Env} : ∀ {names : List (Str × NameKind)} {x : Str} {k' : NameKind},(∀ y ∈ names,y.2 ≠ .cell) → (k' = .cell ∨ k' = .free) →
    (names.map fun (n,k) => if (k == NameKind.free && env.scope.kind == .function && env.kindOf n == some .cell) then (n,NameKind.cell) else (n,k)).lookup x = some k' → names.lookup x = some .free
  | [],_,_,_,_,h => by simp at h
  | (n,k) :: r,x,k',hn,hk,h => by
    have ih := @relab_of env r x k' (fun y hy => hn y (List.mem_cons_of_mem _ hy)) hk
    replace h : List.lookup x ((if (k == NameKind.free && env.scope.kind == .function && env.kindOf n == some .cell) = true then (n,NameKind.cell) else (n,k)) :: r.map fun (n,k) => if (k == NameKind.free && env.scope.kind == .function && env.kindOf n == some .cell) then (n,NameKind.cell) else (n,k)) = some k' := h
    cases hx : x == n with
    | true =>
      simp only [List.lookup_cons,hx]
      by_cases hc : (k == NameKind.free && env.scope.kind == .function && env.kindOf n == some .cell) = true
      · have : k = .free := by
          simp only [Bool.and_eq_true] at hc
          exact eq_of_beq hc.1.1
        rw [this]
      · rw [if_neg hc] at h
        simp only [List.lookup_cons,hx] at h
        have e : k = k' := Option.some.inj h
        rcases hk with z | z
        · exact absurd (e.trans z) (hn (n,k) List.mem_cons_self)
        · rw [e,z]
    | false =>
      simp only [List.lookup_cons,hx]
      by_cases hc : (k == NameKind.free && env.scope.kind == .function && env.kindOf n == some .cell) = true
      · rw [if_pos hc] at h; simp only [List.lookup_cons,hx] at h; exact ih h
      · rw [if_neg hc] at h; simp only [List.lookup_cons,hx] at h; exact ih h
noncomputable def cxLc (X : Cx) (vs : List Str) (js : List Nat) (scope : Scope) (C : Addr) (s₀ : Shared) (H₀ : Hp) (ex : List Addr) : Cx where
  prog := X.prog
  w := X.w
  K := X.K
  mg := X.mg
  base := X.base
  A := X.A
  N := vs ++ js.map fun j => X.N.getD j Str.empty
  s₀ := s₀
  H₀ := H₀
  env := compEnvC scope (clOf X.env scope.names []) C X.env
  outer := X.stack
  stack := X.stack
  ex := ex
  fn := fun _ => false
  calm := X.calm
  pn := X.pn
  xe := fun _ _ => False
noncomputable def stLc (vs : List Str) (js : List Nat) (σ : St) : St := vs.map (fun _ => none) ++ js.map fun j => σ.getD j none
noncomputable def PTs (X : Cx) (ifs : List Expr) (t : TT) : Prop :=
  ∀ (pins : List (Addr × Obj)) (s : Shared) (σ : St) (H : Hp) (Q : Bool → Hp → Prop),Inv X pins σ H s → t σ H Q →
    wpAny (model X.prog X.w) X.A (forIn ifs true fun c r => if r = true then do let ok ← isTrue c X.env (eval c X.env); pure (ForInStep.yield ok) else pure (ForInStep.yield r)) (TP X pins σ Q) X.xe s
noncomputable def tTrue : TT := fun _ H Q => Q true H
theorem pts_nil {X : Cx} : PTs X [] tTrue := fun _ _ _ H _ I h => wpAny_tests_nil ⟨H,I,h⟩
theorem pts_one {X : Cx} {c : Expr} {t : TT} (h : PT X c t) : PTs X [c] t := fun pins s σ H Q I q => wpAny_tests_one (h pins s σ H Q I q)
section
variable {prog : Program} {w : World} {A : Around} {R : Result → Shared → Prop} {s : Shared}
theorem compLoop_any {elt target iter : Expr} {ifs : List Expr} {scope : Scope} {pos : Pos} {it acc : Value} {env : Env} (I : Nat → Shared → Prop)
    (turn : ∀ n s,I n s → wpAny (model prog w) A (pyNext it) (fun r s₁ => match r with
      | none => R (.ok .next) s₁
      | some v => wpAny (model prog w) A (letOwnedTupleGo target it v) (fun _ s₁' => wpAny (model prog w) A (assign target env v) (fun _ s₂ =>
          wpAny (model prog w) A (forIn ifs true fun c r => if r = true then do let ok ← isTrue c env (eval c env); pure (ForInStep.yield ok) else pure (ForInStep.yield r)) (fun ok s₃ =>
            if ok = true then wpAny (model prog w) A (eval elt env) (fun x s₄ =>
              wpAny (model prog w) A (call (.builtin "list.append") [acc,x]) (fun _ s₅ => ∃ m,m < n ∧ I m s₅) (fun _ _ => False) s₄) (fun _ _ => False) s₃
            else ∃ m,m < n ∧ I m s₃) (fun _ _ => False) s₂) (fun _ _ => False) s₁') (fun _ _ => False) s₁) (fun _ _ => False) s)
    (n : Nat) (h : I n s) : codeAny (model prog w) A (.compLoop (.ListComp elt [⟨target,iter,ifs,0⟩] scope pos) 0 it acc env) R s := by
  refine codeAny_loop rfl I (fun n s hI => ?_) n h
  show wpAny _ A ((compTurn (.ListComp elt [⟨target,iter,ifs,0⟩] scope pos) 0 it acc env).onRaise (fun x => do noteFrame x env; theTreesLotGoes x)) _ _ s
  refine wpAny_noted ?_
  rw [compTurn_list]
  refine wpAny_bind (wpAny_standAt (wpAny_bind (wpAny_mono (turn n s hI) (fun r s₁ h₁ => ?_) fun _ _ h' => h'.elim)))
  cases r with
  | none => exact wpAny_pure h₁
  | some v =>
    refine wpAny_bind (wpAny_mono h₁ (fun _ s₁' h₁' => ?_) fun _ _ h' => h'.elim)
    refine wpAny_bind (wpAny_mono h₁' (fun _ s₂ h₂ => wpAny_bind (wpAny_mono h₂ (fun ok s₃ h₃ => ?_) fun _ _ h' => h'.elim)) fun _ _ h' => h'.elim)
    cases ok with
    | false => exact wpAny_pure ⟨rfl,h₃⟩
    | true =>
      exact wpAny_bind (wpAny_bind (wpAny_mono h₃ (fun x s₄ h₄ => wpAny_bind (wpAny_mono h₄ (fun _ s₅ h₅ => wpAny_pure (wpAny_pure ⟨rfl,h₅⟩)) fun _ _ h' => h'.elim)) fun _ _ h' => h'.elim))
end
noncomputable def LcW (J : It) (g : TG) (tt : TT) (te : TE) (D : Addr) (τ : St) (H : Hp) (Q : Hp → Prop) : Prop :=
  ∃ (n : Nat) (W : Nat → List V → St → Hp → Prop),W 0 [] τ (upd H D (.lst [])) ∧ ∀ i ys τ H,W i ys τ H → H D = some (.lst ys) ∧ i ≤ n ∧
    ((J.stop i H ∧ Q H) ∨ (J.go i H ∧ ∀ x H',J.yld i H x H' → g x τ H' fun τ2 H2 => tt τ2 H2 fun b H3 =>
      if b = true then te τ2 H3 fun v H4 => H4 D = some (.lst ys) ∧ ys.length < sizeLine ∧ W (i + 1) (ys ++ [v]) τ2 (upd H4 D (.lst (ys ++ [v]))) else W (i + 1) ys τ2 H3))
section
variable {X : Cx}
theorem lc_run {tg iter elt : Expr} {ifs : List Expr} {scope : Scope} {pos : Pos} {vs : List Str} {js : List Nat} {g : TG} {tt : TT} {te : TE} {pins : List (Addr × Obj)} {s2 : Shared} {σ : St} {H2 : Hp} {it : Addr} {fp : List Addr} {tn : Nat → Heap → Prop} {J : It}
    (I2 : Inv X pins σ H2 s2) (T : Turn X.prog X.w X.K tg J fp it tn) (st : tn 0 s2.heap) (f2 : ∀ b ∈ fp,FpOk X pins H2 b) (hc : X.calm = true) (hkind : scope.kind = .function) (hcell : ∀ y ∈ scope.names,y.2 ≠ .cell)
    (hfc : ∀ y ∈ scope.names,y.2 = .free → X.env.kindOf y.1 = some .cell ∨ X.env.kindOf y.1 = some .free) (hvs : ∀ x ∈ vs,scope.names.lookup x = some .local)
    (hcap : ∀ j ∈ js,scope.names.lookup (X.N.getD j Str.empty) = some .free)
    (hY : ∀ C s0 H0,PG (cxLc X vs js scope C s0 H0 fp) tg g ∧ PTs (cxLc X vs js scope C s0 H0 fp) ifs tt ∧ PE (cxLc X vs js scope C s0 H0 fp) elt te)
    {Q : Addr → Hp → Prop} (hW : ∀ D,H2 D = none → LcW J g tt te D (stLc vs js σ) H2 (Q D)) {E : Value → Shared → Prop} {RR : Value → Addr → Result → Shared → Prop}
    (fin : ∀ D C Hf s' m,Inv X pins σ Hf s' → s'.heap.Ns C m → Hf C = none → C ≠ X.env.locals → X.s₀.heap.objs.size ≤ C → (∀ x c,X.env.cells.lookup x = some c → c ≠ C) → (∀ p ∈ X.pn ++ pins,p.1 ≠ C) → Q D Hf → RR (.ref D) C (.ok .next) s') :
    wpAny (model X.prog X.w) X.A (newList []) (fun acc s₃ => wpAny (model X.prog X.w) X.A (newFunctionEnv scope X.env.globals (clOf X.env scope.names []) [] X.env.qual none .none (some X.env)) (fun cenv s₄ =>
      codeAny (model X.prog X.w) X.A (.compStart (.ListComp elt [⟨tg,iter,ifs,0⟩] scope pos) 0 (.ref it) acc { cenv with scope := relabel scope X.env }) (RR acc cenv.locals) s₄) E s₃) E s2 := by
  refine wpAny_newObj_type (wpAny_newFunctionEnv hcell (by intro y hy; simp at hy) (fun h₁ hns₁ hsb₁ => ?_) hkind)
  have I3 : Inv X pins σ (upd H2 s2.heap.objs.size (.lst [])) { s2 with heap := s2.heap.push { cls := .type "list",data := .seq ([] : List Value).toArray },toks := s2.toks } := I2.lnew (its := []) .nil (Nat.zero_le _)
  have wD := hW s2.heap.objs.size I2.fresh
  generalize hD : s2.heap.objs.size = D at *
  obtain ⟨n,W,w0,turn⟩ := wD
  generalize hS3 : ({ s2 with heap := s2.heap.push { cls := .type "list",data := .seq ([] : List Value).toArray },toks := s2.toks } : Shared) = s3 at *
  have e3 : s3.heap = s2.heap.push { cls := .type "list",data := .seq ([] : List Value).toArray } := by rw [← hS3]
  generalize hCs : s3.heap.objs.size = C at *
  have old : ∀ b o,s3.heap.get? b = some o → h₁.get? b = some o := fun b o e => by
    have hb : b ≠ C := by rw [← hCs]; exact Nat.ne_of_lt (Heap.lt_size e)
    exact hsb₁.extBut b o hb (Heap.get?_push_of_some _ e)
  have I4 : Inv X pins σ (upd H2 D (.lst [])) { s3 with heap := h₁,toks := s3.toks } := I3.kept old
  have hCX : X.env.locals ≠ C := by rw [← hCs]; exact Nat.ne_of_lt I3.lt
  have hCs0 : X.s₀.heap.objs.size ≤ C := by rw [← hCs]; exact I3.sz
  have cellLt : ∀ x c,X.env.cells.lookup x = some c → c < s3.heap.objs.size := fun x c e => by
    obtain ⟨v,o,ho,_⟩ := I3.cell x c e
    exact Heap.lt_size ho
  have cellNe : ∀ x c,X.env.cells.lookup x = some c → c ≠ C := fun x c e => by rw [← hCs]; exact Nat.ne_of_lt (cellLt x c e)
  have fpLt : ∀ b ∈ fp,b < s3.heap.objs.size := fun b hb => by
    obtain ⟨o,e,_⟩ := T.obj _ _ st b hb
    rw [e3,Heap.size_push]
    exact Nat.lt_succ_of_lt (Heap.lt_size e)
  have pinLt : ∀ p ∈ X.pn ++ pins,p.1 < s3.heap.objs.size := fun p hp => Heap.lt_size (I3.pin p hp).1
  have hH1C : (upd H2 D (.lst [])) C = none := by
    rw [← hCs]; exact I3.fresh
  have fp1 : ∀ b ∈ fp,(upd H2 D (.lst [])) b = none := fun b hb => by
    obtain ⟨o,e,_⟩ := T.obj _ _ st b hb
    rw [upd_ne (by rw [← hD]; exact Nat.ne_of_lt (Heap.lt_size e))]
    exact (f2 b hb).1
  have okY : (cxLc X vs js scope C s3 (upd H2 D (.lst [])) fp).Ok := by
    refine ⟨I2.ok.mod,hkind,I2.ok.glob,I2.ok.blt,Nat.le_of_eq hCs,fun x y c e1 e2 => ?_,fun x hx => ?_,(fun x c z => nomatch z),I2.ok.hd,I2.ok.frames,.inl rfl,fun b hb => ⟨?_,fun x c e => ?_⟩,fun b o e => I3.bs b o e,Nat.le_trans I2.ok.bsz I3.sz,fun b o e hb => ?_,fun b hb hs => ?_,I3.stack,I3.stkFree⟩
    · rcases clOf_sub e1 with z | z
      · cases z
      · rcases clOf_sub e2 with z' | z'
        · cases z'
        · exact I2.ok.inj x y c z z'
    · have hf : scope.names.lookup x = some .free := by
        rcases hx with hx | hx
        · exact relab_of hcell (.inl rfl) hx
        · exact relab_of hcell (.inr rfl) hx
      refine clOf_has hf ?_
      exact I2.ok.has x (hfc (x,.free) (by
        have := List.lookup_eq_some_iff.mp hf
        obtain ⟨l1,l2,e,_⟩ := this
        rw [e]; simp) rfl)
    · exact fun e => absurd (fpLt b hb) (by rw [e,hCs]; exact Nat.lt_irrefl _)
    · rcases clOf_sub e with z | z
      · cases z
      · exact (f2 b hb).2.2.2.2.1 x c z
    · rcases (f2 b hb).2.2.2.1 with z | z
      · exact I2.ok.noex b o e z
      · exact absurd (Nat.lt_of_lt_of_le (Heap.lt_size e) (Nat.le_trans I2.ok.bsz z)) (Nat.lt_irrefl _)
    · rcases List.mem_cons.mp (I3.stkSub b hs) with z | z
      · exact (f2 b hb).2.1 z
      · exact (f2 b hb).2.2.1 z
  have I5 : Inv (cxLc X vs js scope C s3 (upd H2 D (.lst [])) fp) pins (stLc vs js σ) (upd H2 D (.lst [])) { s3 with heap := h₁,toks := s3.toks } := by
    refine ⟨okY,rfl,I3.bare,Un.kept old,⟨_,hns₁,fun i x v e1 e2 e3' => ?_⟩,fun x c e => ?_,hH1C,fun x c e => ?_,fun p hp => ?_,I4.hok,?_⟩
    · -- the names that are taken along
      obtain ⟨m,hm,hl⟩ := I4.loc
      by_cases hi : i < vs.length
      · exfalso
        have : (stLc vs js σ)[i]? = some none := by
          unfold stLc
          rw [List.getElem?_append_left (by simpa using hi)]
          simp [hi]
        rw [this] at e2; cases e2
      · have hi' : vs.length ≤ i := Nat.le_of_not_lt hi
        have e1' : (js.map fun j => X.N.getD j Str.empty)[i - vs.length]? = some x := by
          have := e1
          show _ = _
          rw [← this]
          exact (List.getElem?_append_right hi').symm
        have e2' : (js.map fun j => σ.getD j none)[i - vs.length]? = some (some v) := by
          rw [← e2]
          unfold stLc
          rw [List.getElem?_append_right (by simpa using hi')]
          simp
        rw [List.getElem?_map] at e1' e2'
        cases ej : js[i - vs.length]? with
        | none => rw [ej] at e1'; cases e1'
        | some j =>
          rw [ej] at e1' e2'
          have e1'' : X.N.getD j Str.empty = x := Option.some.inj e1'
          have e2'' : σ.getD j none = some v := Option.some.inj e2'
          have hjs : j ∈ js := List.mem_of_getElem? ej
          have hσ : σ[j]? = some (some v) := by
            rw [List.getD_eq_getElem?_getD] at e2''
            cases q : σ[j]? with
            | none => rw [q] at e2''; cases e2''
            | some o => rw [q] at e2''; exact congrArg some e2''
          have hjl : j < X.N.length := by rw [← I2.len]; exact (List.getElem?_eq_some_iff.mp hσ).1
          have hN : X.N[j]? = some x := by
            rw [List.getD_eq_getElem?_getD] at e1''
            cases q : X.N[j]? with
            | none => rw [List.getElem?_eq_none_iff] at q; exact absurd hjl (Nat.not_lt.mpr q)
            | some o => rw [q] at e1''; exact congrArg some e1''
          have hf : scope.names.lookup x = some .free := by rw [← e1'']; exact hcap j hjs
          have hk := hfc (x,.free) (by
            obtain ⟨l1,l2,e,_⟩ := List.lookup_eq_some_iff.mp hf
            rw [e]; simp) rfl
          obtain ⟨u,ru,lk⟩ := hl j x v hN hσ (by
            rcases hk with z | z
            · exact .inr (.inl z)
            · exact .inr (.inr z))
          refine ⟨u,ru,.inr ⟨?_,?_⟩⟩
          · rcases relab_free (env := X.env) hf with z | z
            · exact .inr z
            · exact .inl z
          · rcases lk with ⟨z,_⟩ | ⟨_,c,e,z⟩
            · rcases hk with q | q <;> (rw [show X.env.kindOf x = some .local from z] at q; cases q)
            · obtain ⟨c',e'⟩ := clOf_has (env := X.env) (acc := []) hf ⟨c,e⟩
              have : c' = c := by
                rcases clOf_sub e' with q | q
                · cases q
                · rw [e] at q; exact (Option.some.inj q).symm
              exact ⟨c,by rw [← this]; exact e',z⟩
    · rcases clOf_sub e with z | z
      · cases z
      · exact I4.cell x c z
    · rcases clOf_sub e with z | z
      · cases z
      · exact I4.freeC x c z
    · obtain ⟨q1,q2,q3,q4,q5⟩ := I4.pin p hp
      refine ⟨q1,q2,?_,fun z => ?_,q5⟩
      · rw [show (cxLc X vs js scope C s3 (upd H2 D (.lst [])) fp).env.locals = C from rfl,← hCs]
        exact Nat.ne_of_lt (pinLt p hp)
      · rcases List.mem_cons.mp (I3.stkSub p.1 z) with y | y
        · exact q3 y
        · exact q4 y
    · show (stLc vs js σ).length = (vs ++ js.map fun j => X.N.getD j Str.empty).length
      unfold stLc
      simp
  have stat : ∀ {H' : Hp},(∀ b ∈ fp,H' b = none) → ∀ b ∈ fp,FpOk (cxLc X vs js scope C s3 (upd H2 D (.lst [])) fp) pins H' b := fun hn b hb =>
    ⟨hn b hb,(okY.exf b hb).1,okY.exfs b hb,.inl hb,(okY.exf b hb).2,fun p hp => (f2 b hb).2.2.2.2.2 p hp⟩
  have st1 : tn 0 h₁ := T.keep _ _ _ st fun b hb o e => old b o (by rw [e3]; exact Heap.get?_push_of_some _ e)
  obtain ⟨hG,hT,hE⟩ := hY C s3 (upd H2 D (.lst []))
  have loop : codeAny (model X.prog X.w) X.A (.compLoop (.ListComp elt [⟨tg,iter,ifs,0⟩] scope pos) 0 (.ref it) (.ref D) (compEnvC scope (clOf X.env scope.names []) C X.env)) (RR (.ref D) C) { s3 with heap := h₁,toks := s3.toks } := by
    refine compLoop_any (fun k s' => ∃ i ys τ H',Inv (cxLc X vs js scope C s3 (upd H2 D (.lst [])) fp) pins τ H' s' ∧ tn i s'.heap ∧ (∀ b ∈ fp,H' b = none) ∧ W i ys τ H' ∧ k = n + 1 - i) ?_ (n + 1 - 0) ⟨0,[],_,_,I5,st1,fp1,w0,rfl⟩
    rintro k s' ⟨i,ys,τ,H',I',st',fr',w',rfl⟩
    obtain ⟨hDl,hin,q⟩ := turn i ys τ H' w'
    rcases q with ⟨stop,qn⟩ | ⟨go,step⟩
    · refine thn (T.done (cxLc X vs js scope C s3 (upd H2 D (.lst [])) fp) rfl rfl rfl hc i pins s' τ H' _ I' (stat fr') st' stop) fun r s4 zy => ?_
      obtain ⟨hr,I4'⟩ := zy
      subst hr
      obtain ⟨m,hm,_⟩ := I4'.loc
      refine fin D C H' s4 m ?_ hm I4'.free hCX.symm hCs0 cellNe (fun p hp => by rw [← hCs]; exact Nat.ne_of_lt (pinLt p hp)) qn
      exact I3.call' I4'.os I4'.base I4'.hok I4'.bare fun b hb => ⟨(f2 b hb).2.2.2.1,(f2 b hb).2.1,(f2 b hb).2.2.2.2.1,fun p hp => (f2 b hb).2.2.2.2.2 p hp⟩
    · refine thn (T.item (cxLc X vs js scope C s3 (upd H2 D (.lst [])) fp) rfl rfl rfl hc i pins s' τ H' _ I' (stat fr') st' go) fun r s4 zy => ?_
      obtain ⟨u,hr,h4⟩ := zy
      subst hr
      refine thn h4 fun _ s5 zy => ?_
      obtain ⟨x,H5,I5',r5,y5,st5,fr5⟩ := zy
      have I5'' := I5'.pinned (stat fr5) (T.obj _ _ st5)
      refine thn (hG _ s5 τ H5 x u _ I5'' r5 (step x H5 y5)) fun _ s6 zy => ?_
      obtain ⟨τ6,H6,I6,q6⟩ := zy
      refine thn (hT _ s6 τ6 H6 _ I6 q6) fun ok s7 zy => ?_
      obtain ⟨H7,I7,q7⟩ := zy
      have back : ∀ {τ8 : St} {H8 : Hp} {s8 : Shared} {ys' : List V},Inv (cxLc X vs js scope C s3 (upd H2 D (.lst [])) fp) (pins ++ pinsAt fp s5.heap) τ8 H8 s8 → W (i + 1) ys' τ8 H8 →
          ∃ m,m < n + 1 - i ∧ ∃ i ys τ H',Inv (cxLc X vs js scope C s3 (upd H2 D (.lst [])) fp) pins τ H' s8 ∧ tn i s8.heap ∧ (∀ b ∈ fp,H' b = none) ∧ W i ys τ H' ∧ m = n + 1 - i := fun {τ8 H8 s8 ys'} I8 w8 => by
        have h8 := (turn (i + 1) ys' τ8 H8 w8).2.1
        refine ⟨n + 1 - (i + 1),by omega,i + 1,ys',τ8,H8,I8.unpinned,T.keep _ _ _ st5 fun b hb o e => (I8.pin (b,o) (List.mem_append_right _ (List.mem_append_right _ (mem_pinsAt hb e)))).1,fun b hb => ?_,w8,rfl⟩
        obtain ⟨o,e,d⟩ := T.obj _ _ st5 b hb
        exact (I8.pin (b,o) (List.mem_append_right _ (List.mem_append_right _ (mem_pinsAt hb e)))).2.1
      cases ok with
      | false =>
        rw [if_neg (by decide)] at q7 ⊢
        exact back I7 q7
      | true =>
        rw [if_pos rfl] at q7 ⊢
        refine thn (hE _ s7 τ6 H7 _ I7 q7) fun y s8 zy => ?_
        obtain ⟨v,H8,I8,r8,hD8,hlen,w8⟩ := zy
        refine thn (mt_append (X := cxLc X vs js scope C s3 (upd H2 D (.lst [])) fp) _ s8 τ6 H8 (.ref D) [v] (.ref D) [y] (fun z Hz => Hz = upd H8 D (.lst (ys ++ [v]))) I8 rfl (.cons r8 .nil) ⟨D,ys,v,rfl,rfl,hD8,hlen,rfl⟩) fun _ s9 zy => ?_
        obtain ⟨_,H9,I9,_,e9⟩ := zy
        subst e9
        exact back I9 w8
  have self : ∀ E',wpAny (model X.prog X.w) X.A (pyIter (.ref it)) (fun it' s' => codeAny (model X.prog X.w) X.A (.compLoop (.ListComp elt [⟨tg,iter,ifs,0⟩] scope pos) 0 it' (.ref D) (compEnvC scope (clOf X.env scope.names []) C X.env)) (RR (.ref D) C) s') E' { s3 with heap := h₁,toks := s3.toks } :=
    fun E' => T.self _ 0 _ _ _ st1 loop
  have res := codeAny_compStart_list (R := RR (.ref D) C) loop (self _)
  exact res
theorem fc_of {X : Cx} {scope : Scope} (h : (scope.names.all fun y => !(y.2 == .free) || (X.env.kindOf y.1 == some .cell || X.env.kindOf y.1 == some .free)) = true) :
    ∀ y ∈ scope.names,y.2 = .free → X.env.kindOf y.1 = some .cell ∨ X.env.kindOf y.1 = some .free := fun y hy e => by
  have := List.all_eq_true.mp h y hy
  rw [e] at this
  simpa using this
theorem cap_of {X : Cx} {scope : Scope} {js : List Nat} (h : (js.all fun j => scope.names.lookup (X.N.getD j Str.empty) == some .free) = true) :
    ∀ j ∈ js,scope.names.lookup (X.N.getD j Str.empty) = some .free := fun j hj => by
  have := List.all_eq_true.mp h j hj
  simpa using this
noncomputable def tLc (vs : List Str) (js : List Nat) (wi : TI) (g : TG) (tt : TT) (te : TE) : TE := fun σ H Q => wi σ H fun J H1 => ∀ D,H1 D = none → LcW J g tt te D (stLc vs js σ) H1 fun H' => Q (.ref D) H'
theorem pe_lc {tg iter elt : Expr} {ifs : List Expr} {scope : Scope} {pos : Pos} (vs : List Str) (js : List Nat) {wi : TI} {g : TG} {tt : TT} {te : TE} (hc : X.calm = true) (hi : PI X tg iter wi)
    (hY : ∀ C s0 H0 fp,PG (cxLc X vs js scope C s0 H0 fp) tg g ∧ PTs (cxLc X vs js scope C s0 H0 fp) ifs tt ∧ PE (cxLc X vs js scope C s0 H0 fp) elt te)
    (hkind : scope.kind = .function := by rfl) (hcell : ∀ y ∈ scope.names,y.2 ≠ .cell := by decide +kernel) (hnames : ∀ x ∈ scope.names,x.2 = .local → scope.names.lookup x.1 = some .local := by decide +kernel)
    (hfc : (scope.names.all fun y => !(y.2 == .free) || (X.env.kindOf y.1 == some .cell || X.env.kindOf y.1 == some .free)) = true := by rfl) (hvs : ∀ x ∈ vs,scope.names.lookup x = some .local := by decide +kernel)
    (hcap : (js.all fun j => scope.names.lookup (X.N.getD j Str.empty) == some .free) = true := by rfl)
    (hclos : closureFor scope X.env = pure (clOf X.env scope.names []) := by with_unfolding_all rfl) (hs : ∀ x,foldedSetIterable iter X.env x = pure x := by intro _; rfl) :
    PE X (.ListComp elt [⟨tg,iter,ifs,0⟩] scope pos) (tLc vs js wi g tt te) := by
  intro pins s σ H Q I h
  rw [eval_ListComp]
  refine wpAny_comprehension_free (use := none) rfl hs hclos hkind hnames (thn (hi pins s σ H _ I h) fun xv s1 h1 => thn h1 fun itv s2 h2 => ?_)
  obtain ⟨it,fp,tn,J,H2,e,I2,T,st2,f2,hW⟩ := h2
  subst e
  refine lc_run (RR := fun acc C => compPost (model X.prog X.w) X.A X.xe none (EP X pins σ Q) acc C) I2 T st2 f2 hc hkind hcell (fc_of hfc) hvs (cap_of hcap) (fun C s0 H0 => hY C s0 H0 fp) (Q := fun D Hf => Q (.ref D) Hf) hW ?_
  intro D C Hf s' m I' hm hn hL h0 hcl hpn q
  refine ⟨m,hm,fun h' sb => ⟨.ref D,Hf,?_,rfl,q⟩⟩
  exact I'.turned (t' := s'.toks) (fun b o hb e => (sb.2 b hb).trans e) hn hL (.inr h0) hcl hpn
theorem ps_setLc {i : Nat} {y : Str} {py spos : Pos} {tg iter elt : Expr} {ifs : List Expr} {scope : Scope} {pos : Pos} (vs : List Str) (js : List Nat) {wi : TI} {g : TG} {tt : TT} {te : TE} (hN : X.N.Nodup) (hyi : X.N[i]? = some y) (hy : Loc X.env.scope y)
    (hc : X.calm = true) (hi : PI X tg iter wi)
    (hY : ∀ C s0 H0 fp,PG (cxLc X vs js scope C s0 H0 fp) tg g ∧ PTs (cxLc X vs js scope C s0 H0 fp) ifs tt ∧ PE (cxLc X vs js scope C s0 H0 fp) elt te)
    (hsw : swapsWith (.ListComp elt [⟨tg,iter,ifs,0⟩] scope pos) (some (.Name y py)) spos.line X.env = pure true := by with_unfolding_all rfl)
    (hkind : scope.kind = .function := by rfl) (hcell : ∀ y ∈ scope.names,y.2 ≠ .cell := by decide +kernel) (hnames : ∀ x ∈ scope.names,x.2 = .local → scope.names.lookup x.1 = some .local := by decide +kernel)
    (hfc : (scope.names.all fun y => !(y.2 == .free) || (X.env.kindOf y.1 == some .cell || X.env.kindOf y.1 == some .free)) = true := by rfl) (hvs : ∀ x ∈ vs,scope.names.lookup x = some .local := by decide +kernel)
    (hcap : (js.all fun j => scope.names.lookup (X.N.getD j Str.empty) == some .free) = true := by rfl)
    (hclos : closureFor scope X.env = pure (clOf X.env scope.names []) := by with_unfolding_all rfl) (hs : ∀ x,foldedSetIterable iter X.env x = pure x := by intro _; rfl)
    (hf : X.fn y = true ∨ X.env.scope.names.lookup y = some .local := by first | exact .inl rfl | exact .inr rfl | assumption) :
    PS X (.Assign [.Name y py] (.ListComp elt [⟨tg,iter,ifs,0⟩] scope pos) spos) (tAsg (tLc vs js wi g tt te) (gName i)) := by
  intro pins s σ H D I h
  rw [exec_Assign_Name_used _ _ _ _ hsw]
  refine wpAny_bind (wpAny_standAt (wpAny_bind ?_))
  show wpAny _ _ (do let _ ← comprehension (.ListComp elt [⟨tg,iter,ifs,0⟩] scope pos) scope X.env _ (newList []) false (eval iter X.env) (some (assign (.Name y py) X.env))) _ _ s
  refine wpAny_bind (thn (wpAny_comprehension_free (use := some (assign (.Name y py) X.env)) (Q := fun _ s' => SP X pins D .next s') rfl hs hclos hkind hnames (thn (hi pins s σ H _ I h) fun xv s1 h1 => thn h1 fun itv s2 h2 => ?_)) fun _ s' q => wpAny_pure (wpAny_pure q))
  obtain ⟨it,fp,tn,J,H2,e,I2,T,st2,f2,hW⟩ := h2
  subst e
  refine lc_run (RR := fun acc C => compPost (model X.prog X.w) X.A X.xe (some (assign (.Name y py) X.env)) (fun _ s' => SP X pins D .next s') acc C) I2 T st2 f2 hc hkind hcell (fc_of hfc) hvs (cap_of hcap) (fun C s0 H0 => hY C s0 H0 fp) (Q := fun A Hf => gName i (.ref A) σ Hf D.nx) hW ?_
  intro A C Hf s' m I' hm hn hL h0 hcl hpn q
  refine wpAny_assign_Name (store_ok2 (v := .ref A) I' hN hyi hy rfl (fun s2 I2 zy => ?_) hf)
  obtain ⟨a,sb,ha⟩ := zy
  have hCa : C ≠ a := by
    rcases ha with z | z
    · rw [z]; exact hL
    · exact (hcl y a z).symm
  refine ⟨m,hm.sameBut sb hCa,fun h' sb' => ⟨_,Hf,?_,q⟩⟩
  exact I2.turned (t' := s2.toks) (fun b o hb e => (sb'.2 b hb).trans e) hn hL (.inr h0) hcl hpn
end
end L2
namespace L2
open PySem PySem.Spec PyProof.Rows
noncomputable def Ite (K : PySem.W.Frag) (a : Addr) : It :=
  ⟨fun i H => ∃ xs x,SqL K H a xs ∧ xs[i]? = some x,
   fun i H x H' => ∃ p v,x = .ref p ∧ H p = none ∧ H' = upd H p (.tup [.int (i : Int),v]) ∧ ∀ xs,SqL K H a xs → xs[i]? = some v,
   fun i H => ∃ xs,SqL K H a xs ∧ xs.length ≤ i⟩
theorem turn_enum {P : Program} {w : World} {K : PySem.W.Frag} {es : List Expr} {x1} {tp : Pos} (a e it : Addr) (hei : e ≠ it) :
    Turn P w K (.Tuple es x1 tp) (Ite K a) [e,it] e (fun i h => (∃ old,IsEnum h e it (i : Int) old) ∧ h.IsListIter it a i) where
  mem := by simp
  obj := fun i h st b hb => by
    obtain ⟨⟨old,he⟩,o,ho,_,hd⟩ := st
    rcases List.mem_cons.mp hb with z | z
    · rw [z]; exact ⟨_,he,fun v q => nomatch q⟩
    · have z' : b = it := by simpa using z
      rw [z']; exact ⟨o,ho,fun v q => by rw [hd] at q; cases q⟩
  keep := fun i h h' st k => ⟨let ⟨old,he⟩ := st.1; ⟨old,k e (by simp) _ he⟩,st.2.at fun o q => k it (by simp) o q⟩
  item := by
    intro X hP hw hK hc i pins s σ H E I hf st hg
    subst hP hw hK
    obtain ⟨xs,x,hq,hx⟩ := hg
    obtain ⟨⟨old,he⟩,hit⟩ := st
    obtain ⟨its,rv,p,hz⟩ := I.list hq
    obtain ⟨u,hu,ru⟩ := rv.get hx
    obtain ⟨f0,f1,f2,f3,f4,f5⟩ := hf e (by simp)
    obtain ⟨g0,g1,g2,g3,g4,g5⟩ := hf it (by simp)
    refine wpAny_pyNext_enum_item he hit p.isList (x := u) (by simpa using hu) hei fun h1 ho1 hit1 ht1 hz1 hk1 => ⟨_,rfl,?_⟩
    refine wpAny_letOwnedTupleGo_enum ho1 fun h2 he2 sb2 => ?_
    replace sb2 : Heap.SameBut e h1 h2 := sb2
    have elt : e < s.heap.objs.size := Heap.lt_size he
    have ilt : it < s.heap.objs.size := by obtain ⟨o,q,_⟩ := hit; exact Heap.lt_size q
    have pe : s.heap.objs.size ≠ e := Nat.ne_of_gt elt
    have kp : ∀ b o,b ∉ [e,it] → s.heap.get? b = some o → h2.get? b = some o := fun b o hb q =>
      (sb2.2 b (fun z => hb (by simp [z]))).trans (hk1 b o (fun z => hb (by simp [z])) (fun z => hb (by simp [z])) q)
    have ht2 : h2.get? s.heap.objs.size = some { cls := .type "tuple",data := .seq #[.int (i : Int) s.toks,u] } := (sb2.2 _ pe).trans ht1
    have hfr : H s.heap.objs.size = none := I.fresh
    have neP : ∀ b o,s.heap.get? b = some o → b ≠ s.heap.objs.size := fun b o q => Nat.ne_of_lt (Heap.lt_size q)
    have tr : ∀ b ob,H b = some ob → b ∉ [e,it] := fun b ob q hb => by
      rcases List.mem_cons.mp hb with z | z
      · rw [z,f0] at q; cases q
      · have z' : b = it := by simpa using z
        rw [z',g0] at q; cases q
    have trp : ∀ b ob,H b = some ob → b ≠ s.heap.objs.size := fun b ob q z => by rw [z,hfr] at q; cases q
    have I2 : Inv X pins σ (upd H s.heap.objs.size (.tup [.int (i : Int),x])) { s with heap := h2,toks := s.toks + 1 } := by
      refine I.step (g' := s.gens) (d' := s.drawn) (ch := [e,it]) (fun b hb => ?_) (fun b o _ _ hb q _ => kp b o hb q) (fun b o _ _ hb q _ => ⟨o.slots,kp b o hb q⟩) (fun b o _ q n => ?_) (fun b o hb q => ⟨o,kp b o hb q⟩)
        (fun b ys q => ?_) (fun b o ys q => ?_) (fun b ps q => ⟨#[],?_⟩) (fun m hm => ?_) (fun b ob q => ?_) I.bare
      · rcases List.mem_cons.mp hb with z | z
        · rw [z]; exact ⟨f3,f1,f4,f5⟩
        · have z' : b = it := by simpa using z
          rw [z']; exact ⟨g3,g1,g4,g5⟩
      · rw [upd_ne (neP b o q)]; exact n
      · rw [upd_ne (trp b _ q)]; exact q
      · rw [upd_ne (trp b _ q)]; exact q
      · rw [upd_ne (trp b _ q),q]; simp
      · obtain ⟨o,es,ep,ho,r⟩ := hm
        refine ⟨o,es,ep,kp _ o (fun hb => ?_) ho,r⟩
        rcases List.mem_cons.mp hb with z | z
        · exact f1 z.symm
        · exact g1 (by simpa using z : X.env.locals = it).symm
      · by_cases hb : b = s.heap.objs.size
        · subst hb
          rw [upd_same] at q
          cases q
          refine ⟨(by show 2 ≤ sizeLine; decide),[.int (i : Int) s.toks,u],.cons ⟨_,rfl⟩ (.cons ru .nil),_,ht2,rfl,_,rfl⟩
        · rw [upd_ne hb] at q
          refine (I.hok b ob q).stay (fun c v hc' z => kp c v ?_ z) (fun c z => ?_) fun c ys z => ?_
          · rcases hc' with y | y
            · rw [y]; exact tr b ob q
            · exact tr c _ y
          · rw [upd_ne (trp c _ z)]; exact z
          · rw [upd_ne (trp c _ z)]; exact z
    refine ⟨.ref s.heap.objs.size,_,I2,rfl,⟨_,x,rfl,hfr,rfl,fun ys hy => by rw [I.list_inj hy hq]; exact hx⟩,⟨⟨_,by simpa using he2⟩,hit1.at fun o q => (sb2.2 it hei.symm).trans q⟩,fun b hb => ?_⟩
    have : b ≠ s.heap.objs.size := by
      rcases List.mem_cons.mp hb with z | z
      · rw [z]; exact pe.symm
      · rw [show b = it by simpa using z]; exact Nat.ne_of_lt ilt
    rw [upd_ne this]
    exact (hf b hb).1
  done := by
    intro X hP hw hK hc i pins s σ H E I hf st hg
    subst hP hw hK
    obtain ⟨xs,hq,hx⟩ := hg
    obtain ⟨⟨old,he⟩,hit⟩ := st
    obtain ⟨its,rv,p,hz⟩ := I.list hq
    obtain ⟨g0,g1,g2,g3,g4,g5⟩ := hf it (by simp)
    have hl := rv.length
    exact wpAny_pyNext_enum_end (I.ok.hd hc) he hit p.isList (by simp; omega) fun h' eb => ⟨rfl,I.turned (t' := s.toks) (fun b o hb q => eb b o hb q) g0 g1 g3 g4 g5⟩
  self := fun A i s Q E st q => by
    obtain ⟨⟨old,he⟩,_⟩ := st
    exact wpAny_pyIter_enum he q
section
variable {X : Cx}
noncomputable def iEnum (K : PySem.W.Frag) (ta : TA) : TI := fun σ H R => ta σ H fun vs H1 => ∃ a,vs = [.ref a] ∧ (∃ xs,SqL K H1 a xs) ∧ R (Ite K a) H1
end
inductive EqV (K : PySem.W.Frag) (H : Hp) : Nat → V → V → Bool → Prop where
  | same {n : Nat} (v : V) (h : ∀ x,v ≠ .flt x) (h' : ∀ x,v ≠ .byt x) : EqV K H n v v true
  | int {n : Nat} (i j : Int) : EqV K H n (.int i) (.int j) (i == j)
  | bl {n : Nat} (i j : Bool) : EqV K H n (.bl i) (.bl j) (i == j)
  | str {n : Nat} (i j : Str) : EqV K H n (.str i) (.str j) (i == j)
  | tup {n : Nat} {a b : Addr} {xs ys : List V} {e : Nat → Bool} (ne : a ≠ b) (ha : SqT K H a xs) (hb : SqT K H b ys) (h : ∀ j x y,xs[j]? = some x → ys[j]? = some y → EqV K H n x y (e j)) :
      EqV K H (n + 1) (.ref a) (.ref b) ((List.range (min xs.length ys.length)).all e && xs.length == ys.length)
  | lst {n : Nat} {a b : Addr} {xs ys : List V} {e : Nat → Bool} (ne : a ≠ b) (ha : SqL K H a xs) (hb : SqL K H b ys) (hl : xs.length = ys.length) (h : ∀ j x y,xs[j]? = some x → ys[j]? = some y → EqV K H n x y (e j)) :
      EqV K H (n + 1) (.ref a) (.ref b) ((List.range xs.length).all e)
  | lstL {n : Nat} {a b : Addr} {xs ys : List V} (ne : a ≠ b) (ha : SqL K H a xs) (hb : SqL K H b ys) (hl : xs.length ≠ ys.length) : EqV K H (n + 1) (.ref a) (.ref b) false
section
variable {X : Cx}
theorem in1_le (A : Around) : A.in1.units ≤ A.units + 1 := Nat.le_refl _
theorem isTup_isTuple {h : Heap} {a : Addr} {its : Array Value} (x : IsTup h a its) : h.IsTuple a its := let ⟨o,e,c,n,d⟩ := x; ⟨o,e,c,n,d⟩
theorem items_at {xs : List V} {its : List Value} (r : Vals xs its) {j : Nat} (h1 : j < its.toArray.size) : ∃ x,xs[j]? = some x ∧ RelV x its.toArray[j] := by
  have hl := r.length
  have hj : j < xs.length := by rw [hl]; simpa using h1
  obtain ⟨u,e,ru⟩ := r.get (i := j) (x := xs[j]) (by simp [hj])
  refine ⟨xs[j],by simp [hj],?_⟩
  have : its.toArray[j] = u := by
    have h2 : j < its.length := by simpa using h1
    rw [List.getElem?_eq_getElem h2] at e
    simpa using Option.some.inj e
  rw [this]; exact ru
theorem EqV.at {pins : List (Addr × Obj)} {σ : St} {H : Hp} {s : Shared} (I : Inv X pins σ H s) : ∀ {n : Nat} {x y : V} {k : Bool},EqV X.K H n x y k → ∀ {A : Around} {u v : Value},A.units + n < cLine → RelV x u → RelV y v → SeqAt.EqAt A s u v k := by
  intro n x y k h
  induction h with
  | same v hv hv' =>
    intro A u v' _ r r'
    cases v with
    | non => cases (show u = Value.none from r); cases (show v' = Value.none from r'); exact SeqAt.EqAt.same _
    | bl b => cases (show u = Value.bool b from r); cases (show v' = Value.bool b from r'); exact SeqAt.EqAt.same _
    | int i => obtain ⟨t,q⟩ := (show ∃ t,u = Value.int i t from r); obtain ⟨t',q'⟩ := (show ∃ t,v' = Value.int i t from r'); subst q q'; have := SeqAt.EqAt.int_int (A := A) (s := s) i t i t'; rwa [beq_self_eq_true] at this
    | str i => obtain ⟨t,q⟩ := (show ∃ t,u = Value.str i t from r); obtain ⟨t',q'⟩ := (show ∃ t,v' = Value.str i t from r'); subst q q'; have := SeqAt.EqAt.str_str (A := A) (s := s) i t i t'; rwa [beq_self_eq_true] at this
    | byt i => exact absurd rfl (hv' i)
    | flt i => exact absurd rfl (hv i)
    | ref a => cases (show u = Value.ref a from r); cases (show v' = Value.ref a from r'); exact SeqAt.EqAt.same _
    | ty a => cases (show u = Value.type a from r); cases (show v' = Value.type a from r'); exact SeqAt.EqAt.same _
  | int i j =>
    intro A u v _ r r'
    obtain ⟨t,q⟩ := (show ∃ t,u = Value.int i t from r); obtain ⟨t',q'⟩ := (show ∃ t,v = Value.int j t from r'); subst q q'
    exact SeqAt.EqAt.int_int i t j t'
  | bl i j =>
    intro A u v _ r r'
    cases (show u = Value.bool i from r); cases (show v = Value.bool j from r')
    exact SeqAt.EqAt.bool_bool i j
  | str i j =>
    intro A u v _ r r'
    obtain ⟨t,q⟩ := (show ∃ t,u = Value.str i t from r); obtain ⟨t',q'⟩ := (show ∃ t,v = Value.str j t from r'); subst q q'
    exact SeqAt.EqAt.str_str i t j t'
  | @tup n a b xs ys e ne ha hb h ih =>
    intro A u v hu r r'
    cases (show u = Value.ref a from r); cases (show v = Value.ref b from r')
    obtain ⟨its,rv,pl,hz⟩ := I.tuple ha
    obtain ⟨its',rv',pl',hz'⟩ := I.tuple hb
    have hl := rv.length; have hl' := rv'.length
    have := SeqAt.RcAt.tuples (A := A) (s := s) (e := e) (isTup_isTuple pl) (isTup_isTuple pl') (by omega) fun j h1 h2 => by
      obtain ⟨x,ex,rx⟩ := items_at rv h1
      obtain ⟨y,ey,ry⟩ := items_at rv' h2
      exact ih j x y ex ey (by have := in1_le A; omega) rx ry
    rw [List.size_toArray,List.size_toArray,← hl,← hl'] at this
    exact SeqAt.EqAt.of_refs ne this
  | @lst n a b xs ys e ne ha hb hlen h ih =>
    intro A u v hu r r'
    cases (show u = Value.ref a from r); cases (show v = Value.ref b from r')
    obtain ⟨its,rv,pl,hz⟩ := I.list ha
    obtain ⟨its',rv',pl',hz'⟩ := I.list hb
    have hl := rv.length; have hl' := rv'.length
    have := SeqAt.RcAt.lists (A := A) (s := s) (e := e) pl.isList pl'.isList (by simp; omega) (by omega) fun j h1 h2 => by
      obtain ⟨x,ex,rx⟩ := items_at rv h1
      obtain ⟨y,ey,ry⟩ := items_at rv' h2
      exact ih j x y ex ey (by have := in1_le A; omega) rx ry
    rw [List.size_toArray,← hl] at this
    exact SeqAt.EqAt.of_refs ne this
  | @lstL n a b xs ys ne ha hb hlen =>
    intro A u v hu r r'
    cases (show u = Value.ref a from r); cases (show v = Value.ref b from r')
    obtain ⟨its,rv,pl,hz⟩ := I.list ha
    obtain ⟨its',rv',pl',hz'⟩ := I.list hb
    have hl := rv.length; have hl' := rv'.length
    exact SeqAt.EqAt.of_refs ne (SeqAt.RcAt.lists_lengths pl.isList pl'.isList (by simp; omega) (by omega))
noncomputable def rEqS (K : PySem.W.Frag) : R2 := fun x y H Q => ∃ n a b k,x = .ref a ∧ y = .ref b ∧ a ≠ b ∧ n ≤ 20 ∧ EqV K H n x y k ∧ Q (.bl k) H
theorem op_eqS (hu : X.A.units + 30 < cLine) : OpR X (compareOp .Eq) (rEqS X.K) := by
  intro pins s σ H x y v u Q I rx ry h
  obtain ⟨n,a,b,k,rfl,rfl,ne,hn,he,q⟩ := h
  cases (show v = Value.ref a from rx); cases (show u = Value.ref b from ry)
  cases he with
  | same => exact absurd rfl ne
  | @tup n _ _ xs ys e _ ha hb h =>
    obtain ⟨its,rv,pl,hz⟩ := I.tuple ha
    obtain ⟨its',rv',pl',hz'⟩ := I.tuple hb
    have hl := rv.length; have hl' := rv'.length
    refine SeqAt.eq_tupleAt (e := e) (isTup_isTuple pl) (isTup_isTuple pl') (by omega) (fun j h1 h2 => ?_) ⟨.bl _,H,I,rfl,?_⟩
    · obtain ⟨x,ex,rx⟩ := items_at rv h1
      obtain ⟨y,ey,ry⟩ := items_at rv' h2
      exact (h j x y ex ey).at I (by have := in1_le X.A; omega) rx ry
    · rw [List.size_toArray,List.size_toArray,← hl,← hl']; exact q
  | @lst n _ _ xs ys e _ ha hb hlen h =>
    obtain ⟨its,rv,pl,hz⟩ := I.list ha
    obtain ⟨its',rv',pl',hz'⟩ := I.list hb
    have hl := rv.length; have hl' := rv'.length
    refine SeqAt.eq_listAt (e := e) pl.isList pl'.isList (by simp; omega) (by omega) (fun j h1 h2 => ?_) ⟨.bl _,H,I,rfl,?_⟩
    · obtain ⟨x,ex,rx⟩ := items_at rv h1
      obtain ⟨y,ey,ry⟩ := items_at rv' h2
      exact (h j x y ex ey).at I (by have := in1_le X.A; omega) rx ry
    · rw [List.size_toArray,← hl]; exact q
  | @lstL n _ _ xs ys _ ha hb hlen =>
    obtain ⟨its,rv,pl,hz⟩ := I.list ha
    obtain ⟨its',rv',pl',hz'⟩ := I.list hb
    have hl := rv.length; have hl' := rv'.length
    exact SeqAt.eq_list_lengthsAt pl.isList pl'.isList (by simp; omega) (by omega) ⟨.bl _,H,I,rfl,q⟩
theorem call_isinst : CallR X (.builtin "isinstance") (fun xs H Q => ∃ x n t b,xs = [x,.ty n] ∧ TyOf X.K H x t ∧ PySem.W.kitOne X.K t (.type n) = some b ∧ Q (.bl b) H) := by
  intro pins s σ H xs us Q I r h
  obtain ⟨x,n,t,b,rfl,ty,e,q⟩ := h
  obtain ⟨u,v,rfl,ru,rv⟩ := r.two
  cases (show v = Value.type n from rv)
  exact isinst_ok I ru ty e fun tk => ⟨.bl b,H,I.tok tk,rfl,q⟩
end
end L2
namespace L2
open PySem PySem.Spec PyProof.Rows
theorem for_enum {K : PySem.W.Frag} {a : Addr} {xs : List V} {g : TG} {tb : TS} {D : Ends} {σ : St} {H : Hp} (Pv : Nat → St → Hp → Prop) (h0 : Pv 0 σ H) (hl : ∀ i σ H,i ≤ xs.length → Pv i σ H → SqL K H a xs)
    (hs : ∀ i x σ H p,xs[i]? = some x → Pv i σ H → H p = none → g (.ref p) σ (upd H p (.tup [.int (i : Int),x])) fun σ2 H2 => tb (D.lp (Pv (i + 1))) σ2 H2) (hd : ∀ σ H,Pv xs.length σ H → D.nx σ H) :
    ∃ W : Nat → Nat → St → Hp → Prop,(∃ m,W 0 m σ H) ∧ ∀ i m σ H,W i m σ H →
      ((Ite K a).stop i H ∧ D.nx σ H) ∨ ((Ite K a).go i H ∧ ∃ N : St → Hp → Prop,(∀ σ' H',N σ' H' → ∃ m',m' < m ∧ W (i + 1) m' σ' H') ∧ ∀ x H',(Ite K a).yld i H x H' → g x σ H' fun σ2 H2 => tb (D.lp (N)) σ2 H2) := by
  refine ⟨fun i m σ H => m = xs.length - i ∧ i ≤ xs.length ∧ Pv i σ H,⟨xs.length,by simp,Nat.zero_le _,h0⟩,?_⟩
  rintro i m σ H ⟨rfl,hi,p⟩
  have q := hl i σ H hi p
  by_cases hlt : i < xs.length
  · refine .inr ⟨⟨xs,xs[i],q,by simp [hlt]⟩,Pv (i + 1),fun σ' H' p' => ⟨xs.length - (i + 1),by omega,rfl,hlt,p'⟩,fun x H' y => ?_⟩
    obtain ⟨b,v,rfl,hb,rfl,hv⟩ := y
    exact hs i v σ H b (hv xs q) p hb
  · have e : i = xs.length := by omega
    subst e
    exact .inl ⟨⟨xs,q,Nat.le_refl _⟩,hd σ H p⟩
section
variable {K : PySem.W.Frag} {g : TG} {tt : TT} {te : TE} {D : Addr} {τ : St} {H : Hp} {Q : Hp → Prop}
theorem lc_range {lo : Int} {n : Nat} (Pv : Nat → List V → St → Hp → Prop) (h0 : Pv 0 [] τ (upd H D (.lst []))) (hD : ∀ i ys τ H,i ≤ n → Pv i ys τ H → H D = some (.lst ys))
    (hs : ∀ i ys τ H,i < n → Pv i ys τ H → g (.int (lo + i)) τ H fun τ2 H2 => tt τ2 H2 fun b H3 => if b = true then te τ2 H3 fun v H4 => H4 D = some (.lst ys) ∧ ys.length < sizeLine ∧ Pv (i + 1) (ys ++ [v]) τ2 (upd H4 D (.lst (ys ++ [v]))) else Pv (i + 1) ys τ2 H3)
    (hd : ∀ ys τ H,Pv n ys τ H → Q H) : LcW (Itr lo n) g tt te D τ H Q := by
  suffices key : ∃ W : Nat → List V → St → Hp → Prop,W 0 [] τ (upd H D (.lst [])) ∧ ∀ i ys τ H,W i ys τ H → H D = some (.lst ys) ∧ i ≤ n ∧ (((Itr lo n).stop i H ∧ Q H) ∨ ((Itr lo n).go i H ∧ ∀ x H',(Itr lo n).yld i H x H' → g x τ H' fun τ2 H2 => tt τ2 H2 fun b H3 =>
      if b = true then te τ2 H3 fun v H4 => H4 D = some (.lst ys) ∧ ys.length < sizeLine ∧ W (i + 1) (ys ++ [v]) τ2 (upd H4 D (.lst (ys ++ [v]))) else W (i + 1) ys τ2 H3)) from ⟨n,key⟩
  refine ⟨fun i ys τ H => i ≤ n ∧ (i ≤ n → Pv i ys τ H),⟨Nat.zero_le _,fun _ => h0⟩,?_⟩
  rintro i ys τ H ⟨hi,p⟩
  replace p := p hi
  refine ⟨hD i ys τ H hi p,hi,?_⟩
  by_cases hlt : i < n
  · refine .inr ⟨hlt,fun x H' y => ?_⟩
    obtain ⟨rfl,rfl⟩ := y
    have q : ∀ P : Prop,(i + 1 ≤ n ∧ (i + 1 ≤ n → P)) = P := fun P => propext ⟨fun z => z.2 z.1,fun z => ⟨hlt,fun _ => z⟩⟩
    simp only [q]
    exact hs i ys τ _ hlt p
  · have e : i = n := by omega
    subst e
    exact .inl ⟨Nat.le_refl _,hd ys τ H p⟩
theorem lc_list {a : Addr} {xs : List V} (Pv : Nat → List V → St → Hp → Prop) (h0 : Pv 0 [] τ (upd H D (.lst []))) (hD : ∀ i ys τ H,i ≤ xs.length → Pv i ys τ H → H D = some (.lst ys) ∧ SqL K H a xs)
    (hs : ∀ i x ys τ H,xs[i]? = some x → Pv i ys τ H → g x τ H fun τ2 H2 => tt τ2 H2 fun b H3 => if b = true then te τ2 H3 fun v H4 => H4 D = some (.lst ys) ∧ ys.length < sizeLine ∧ Pv (i + 1) (ys ++ [v]) τ2 (upd H4 D (.lst (ys ++ [v]))) else Pv (i + 1) ys τ2 H3)
    (hd : ∀ ys τ H,Pv xs.length ys τ H → Q H) : LcW (Itl K a) g tt te D τ H Q := by
  refine ⟨xs.length,fun i ys τ H => i ≤ xs.length ∧ (i ≤ xs.length → Pv i ys τ H),⟨Nat.zero_le _,fun _ => h0⟩,?_⟩
  rintro i ys τ H ⟨hi,p⟩
  replace p := p hi
  obtain ⟨hd1,hd2⟩ := hD i ys τ H hi p
  refine ⟨hd1,hi,?_⟩
  by_cases hlt : i < xs.length
  · refine .inr ⟨⟨xs,xs[i],hd2,by simp [hlt]⟩,fun x H' y => ?_⟩
    obtain ⟨rfl,y⟩ := y
    have q : ∀ P : Prop,(i + 1 ≤ xs.length ∧ (i + 1 ≤ xs.length → P)) = P := fun P => propext ⟨fun z => z.2 z.1,fun z => ⟨hlt,fun _ => z⟩⟩
    simp only [q]
    exact hs i x ys τ _ (y xs hd2) p
  · have e : i = xs.length := by omega
    subst e
    exact .inl ⟨⟨xs,hd2,Nat.le_refl _⟩,hd ys τ H p⟩
theorem lc_tup {a : Addr} {xs : List V} (Pv : Nat → List V → St → Hp → Prop) (h0 : Pv 0 [] τ (upd H D (.lst []))) (hD : ∀ i ys τ H,i ≤ xs.length → Pv i ys τ H → H D = some (.lst ys) ∧ SqT K H a xs)
    (hs : ∀ i x ys τ H,xs[i]? = some x → Pv i ys τ H → g x τ H fun τ2 H2 => tt τ2 H2 fun b H3 => if b = true then te τ2 H3 fun v H4 => H4 D = some (.lst ys) ∧ ys.length < sizeLine ∧ Pv (i + 1) (ys ++ [v]) τ2 (upd H4 D (.lst (ys ++ [v]))) else Pv (i + 1) ys τ2 H3)
    (hd : ∀ ys τ H,Pv xs.length ys τ H → Q H) : LcW (Itt K a) g tt te D τ H Q := by
  refine ⟨xs.length,fun i ys τ H => i ≤ xs.length ∧ (i ≤ xs.length → Pv i ys τ H),⟨Nat.zero_le _,fun _ => h0⟩,?_⟩
  rintro i ys τ H ⟨hi,p⟩
  replace p := p hi
  obtain ⟨hd1,hd2⟩ := hD i ys τ H hi p
  refine ⟨hd1,hi,?_⟩
  by_cases hlt : i < xs.length
  · refine .inr ⟨⟨xs,xs[i],hd2,by simp [hlt]⟩,fun x H' y => ?_⟩
    obtain ⟨rfl,y⟩ := y
    have q : ∀ P : Prop,(i + 1 ≤ xs.length ∧ (i + 1 ≤ xs.length → P)) = P := fun P => propext ⟨fun z => z.2 z.1,fun z => ⟨hlt,fun _ => z⟩⟩
    simp only [q]
    exact hs i x ys τ _ (y xs hd2) p
  · have e : i = xs.length := by omega
    subst e
    exact .inl ⟨⟨xs,hd2,Nat.le_refl _⟩,hd ys τ H p⟩
theorem lc_enum {a : Addr} {xs : List V} (Pv : Nat → List V → St → Hp → Prop) (h0 : Pv 0 [] τ (upd H D (.lst []))) (hD : ∀ i ys τ H,i ≤ xs.length → Pv i ys τ H → H D = some (.lst ys) ∧ SqL K H a xs)
    (hs : ∀ i x ys τ H p,xs[i]? = some x → Pv i ys τ H → H p = none → g (.ref p) τ (upd H p (.tup [.int (i : Int),x])) fun τ2 H2 => tt τ2 H2 fun b H3 => if b = true then te τ2 H3 fun v H4 => H4 D = some (.lst ys) ∧ ys.length < sizeLine ∧ Pv (i + 1) (ys ++ [v]) τ2 (upd H4 D (.lst (ys ++ [v]))) else Pv (i + 1) ys τ2 H3)
    (hd : ∀ ys τ H,Pv xs.length ys τ H → Q H) : LcW (Ite K a) g tt te D τ H Q := by
  refine ⟨xs.length,fun i ys τ H => i ≤ xs.length ∧ (i ≤ xs.length → Pv i ys τ H),⟨Nat.zero_le _,fun _ => h0⟩,?_⟩
  rintro i ys τ H ⟨hi,p⟩
  replace p := p hi
  obtain ⟨hd1,hd2⟩ := hD i ys τ H hi p
  refine ⟨hd1,hi,?_⟩
  by_cases hlt : i < xs.length
  · refine .inr ⟨⟨xs,xs[i],hd2,by simp [hlt]⟩,fun x H' y => ?_⟩
    obtain ⟨b,v,rfl,hb,rfl,hv⟩ := y
    have q : ∀ P : Prop,(i + 1 ≤ xs.length ∧ (i + 1 ≤ xs.length → P)) = P := fun P => propext ⟨fun z => z.2 z.1,fun z => ⟨hlt,fun _ => z⟩⟩
    simp only [q]
    exact hs i v ys τ _ b (hv xs hd2) p hb
  · have e : i = xs.length := by omega
    subst e
    exact .inl ⟨⟨xs,hd2,Nat.le_refl _⟩,hd ys τ H p⟩
end
end L2
namespace L2
open PySem PySem.Spec PyProof.Rows
section
variable {X : Cx} {K : PySem.W.Frag}
end
end L2
namespace L2
theorem lcT {τ : St} {H : Hp} {A B : Hp → Prop} (h : A H) : tTrue τ H fun b H3 => if b = true then A H3 else B H3 := by
  show if true = true then A H else B H
  rw [if_pos rfl]; exact h
end L2
namespace L2
theorem lcN {i : Nat} {v : V} {τ : St} {H : Hp} {A B : St → Hp → Prop} (h : A (τ.set i (some v)) H) : gName i v τ H fun τ2 H2 => tTrue τ2 H2 fun b H3 => if b = true then A τ2 H3 else B τ2 H3 := by
  show if true = true then A (τ.set i (some v)) H else B (τ.set i (some v)) H
  rw [if_pos rfl]; exact h
end L2
namespace L2
open PySem PySem.Spec PyProof.Rows
section
variable {X : Cx} {pins : List (Addr × Obj)} {σ : St} {H : Hp} {s : Shared} {a : Addr} {kvs : List (Key × V)} {k : Key} {u r : Value} {A : Around} {E : Value → Shared → Prop}
theorem d_setDef {v : V} {Q : Value → Shared → Prop} (I : Inv X pins σ H s) (e : H a = some (.dK kvs)) (ry : RelV (kV k) u) (rv : RelV v r) (hl : kvs.length < sizeLine)
    (h1 : ∀ x w' s',valV kvs k = some x → Inv X pins σ H s' → RelV x w' → Q w' s') (h2 : ∀ s',valV kvs k = none → Inv X pins σ (upd H a (.dK (putK kvs k v))) s' → Q r s') :
    wpAny (model X.prog X.w) A (call (.builtin "dict.setdefault") [.ref a,u,r]) Q E s := by
  obtain ⟨z,hd,vs,rel,dd⟩ := dk_of I.hok e
  have hz : (putK kvs k v).length ≤ sizeLine := by have := length_putK kvs k v; omega
  refine call_meetsIn PySem.F.slot_dict_setdefault dd.typeIs PySem.F.entry_dict_setdefault (PySem.F.args_dict_setdefault_3 _ _ _) (kt_meets_setdefault (mixKind X.prog X.w) a (kV_is ry) hd r)
    ⟨vs,dd,by rw [← rel.length]; exact z,fun w' hw => ?_,fun hn h' dd' hs => ?_⟩
  · cases l : valV kvs k with
    | none =>
      have := RelO.none_of (o := valueAt vs k) (by rw [← l]; exact rel.val k)
      rw [hw] at this; cases this
    | some x =>
      obtain ⟨w2,hw2,rw2⟩ := RelO.some_of (v := x) (o := valueAt vs k) (by rw [← l]; exact rel.val k)
      rw [hw] at hw2
      cases hw2
      exact h1 x w' _ l (I.tok _) rw2
  · have l : valV kvs k = none := by
      cases l : valV kvs k with
      | none => rfl
      | some x =>
        obtain ⟨w2,hw2,_⟩ := RelO.some_of (v := x) (o := valueAt vs k) (by rw [← l]; exact rel.val k)
        rw [hn] at hw2; cases hw2
    have he : ∃ q,h'.get? a = some q := let ⟨q,_,_,hq,_⟩ := dd'; ⟨q,hq⟩
    exact h2 _ l (d_write I (by rw [e]; exact True.intro) hs he (dk_new hz hd (rel.put k rv) dd'))
end
noncomputable def tDSet2 (td ty tx : TE) : TE := fun σ H Q => td σ H fun x H1 => ∃ a,x = .ref a ∧ IsD H1 a ∧ ty σ H1 fun y H2 => tx σ H2 fun z H3 => ∃ kvs k,y = kV k ∧ H3 a = some (.dK kvs) ∧ kvs.length < sizeLine ∧
  (∀ v,valV kvs k = some v → Q v H3) ∧ (valV kvs k = none → Q z (upd H3 a (.dK (putK kvs k z))))
theorem pe_dset2 {X : Cx} {o e f : Expr} {apos cpos : Pos} {td ty tx : TE} (ho : PE X o td) (he : PE X e ty) (hf : PE X f tx) (m : M2 X o "setdefault" apos e f cpos) : PE X (.Call (.Attribute o "setdefault" apos) [e,f] [] cpos) (tDSet2 td ty tx) := by
  intro pins s σ H Q I h
  refine wpAny_Call_method m.base m.few m.line PySem.F.plainAttrs_dict PySem.F.slot_dict_setdefault PySem.F.type_dict_setdefault (thn (ho pins s σ H _ I h) fun u s1 zy => ?_)
  obtain ⟨x,H1,I1,rx,a,ex,d,q1⟩ := zy
  subst ex
  obtain rfl : u = Value.ref a := rx
  obtain ⟨t1,t2,_⟩ := isD_at I1 d
  refine ⟨t1,t2,?_⟩
  rw [m.trees]
  refine Calls.callWith_builtin rfl (Calls.evalArgs_plain (Calls.spliced_cons (thn (he pins s1 σ H1 _ I1 q1) fun iv s2 ⟨y,H2,I2,ry,q2⟩ =>
    Calls.spliced_cons (thn (hf pins s2 σ H2 _ I2 q2) fun fv s3 ⟨z,H3,I3,rz,kvs,k,ey,ea,hl,q3,q4⟩ => Calls.spliced_nil ?_))))
  subst ey
  exact d_setDef I3 ea ry rz hl (fun x w' s' l I4 rw' => ⟨x,H3,I4,rw',q3 x l⟩) fun s' l I4 => ⟨z,_,I4,rz,q4 l⟩
end L2
namespace L2
open PySem PySem.Spec PyProof.Rows
noncomputable def ints2 (i j : Int) : List V := (List.range (j - i).toNat).map fun k => .int (i + (k : Nat))
theorem vals_rng {a : Int} {n : Nat} : ∀ (l : List Value),l.length = n → (∀ (k : Nat) v,l[k]? = some v → ∃ t,v = Value.int (a + k * 1) t) → Vals ((List.range n).map fun k => V.int (a + (k : Nat))) l := by
  induction n with
  | zero => intro l h _; rw [List.length_eq_zero_iff.mp h]; exact .nil
  | succ n ih =>
    intro l hl h
    have hne : l ≠ [] := fun q => by rw [q] at hl; cases hl
    have e := List.dropLast_concat_getLast hne
    have hdl : l.dropLast.length = n := by rw [List.length_dropLast,hl]; rfl
    rw [← e,List.range_succ,List.map_append]
    have app : ∀ {xs ys : List V} {us vs : List Value},Vals xs us → Vals ys vs → Vals (xs ++ ys) (us ++ vs) := by
      intro xs ys us vs h1 h2
      induction h1 with
      | nil => exact h2
      | cons r _ ih => exact .cons r ih
    refine app (ih _ hdl fun k v hk => h k v ?_) (.cons ?_ .nil)
    · rw [← e,List.getElem?_append_left (List.getElem?_eq_some_iff.mp hk).1]; exact hk
    · obtain ⟨t,q⟩ := h n (l.getLast hne) (by rw [← List.getLast?_eq_some_getLast hne,List.getLast?_eq_getElem?,hl]; rfl)
      refine ⟨t,?_⟩
      rw [q,Int.mul_one]
noncomputable def tLR2 (ta : TA) : TE := fun σ H Q => ta σ H fun vs H1 => ∃ i j : Int,vs = [.int i,.int j] ∧ (-(2 ^ 62) ≤ i ∧ i < 2 ^ 62 ∧ -(2 ^ 62) ≤ j ∧ j < 2 ^ 62) ∧ (j - i).toNat ≤ 2 ^ 24 ∧ ∀ l,H1 l = none → Q (.ref l) (upd H1 l (.lst (ints2 i j)))
theorem pe_listRange2 {X : Cx} {a b : Expr} {ta : TA} {p p' pos pos' : Pos} (hh : X.A.handled = none) (hgl : Gl X "list") (hml : X.mg "list" = none) (hg : Gl X "range") (hm : X.mg "range" = none) (ha : PA X [a,b] ta)
    (hs : starEach [a,b] X.env = [(false,eval a X.env),(false,eval b X.env)] := by rfl) (hs2 : starEach [b] X.env = [(false,eval b X.env)] := by rfl)
    (hs3 : starEach [.Call (.Name "range" p') [a,b] [] pos'] X.env = [(false,eval (.Call (.Name "range" p') [a,b] [] pos') X.env)] := by rfl) :
    PE X (.Call (.Name "list" p) [.Call (.Name "range" p') [a,b] [] pos'] [] pos) (tLR2 ta) := by
  intro pins s σ H Q I h
  refine wpAny_Call_Name_kw (ld_blt I hgl hml boot_list ?_)
  refine PyProof.Rows.callWith_type1 ?_ (by rw [hs3]; rfl) rfl
  rw [hs3]
  show wpAny _ _ (spliced ((false,eval (.Call (.Name "range" p') [a,b] [] pos') X.env) :: [])) _ _ s
  refine Calls.spliced_cons ?_
  refine Call_ (ld_blt I hg hm boot_range (PyProof.Rows.callWith_type1 (thn (ha pos' pins s σ H _ I h) fun us s1 zy => ?_) (by rw [hs,hs2]) (by rw [hs2]; rfl)))
  obtain ⟨vs,H1,I1,r1,q1⟩ := zy
  obtain ⟨i,j,e,⟨q1,q2,q3,q4⟩,qz,q⟩ := q1
  subst e
  cases r1 with
  | cons r rr =>
    cases rr with
    | cons r' rr =>
      cases rr
      obtain ⟨t,rfl⟩ := r
      obtain ⟨t',rfl⟩ := r'
      refine call_range_2 ?_
      refine Calls.spliced_nil ?_
      have I2 : Inv X pins σ H1 { s1 with heap := s1.heap.push { cls := .type "range",data := .fields #[.int i t,.int j t',.int 1 s1.toks] },toks := s1.toks + 1 } := I1.kept fun b o e => Heap.get?_push_of_some _ e
      refine call_list_range (n := (j - i).toNat) hh (IsRange.new ..) (small_one q1 q2 q3 q4) (by rw [rangeSize_one]; split <;> omega) qz fun h' tk acc' c' hk hS' hacc => ?_
      refine ⟨.ref _,_,I2.laid (t' := tk) hk (Nat.le_refl _) (show ObjOk X.prog X.w _ h' _ (.lst (ints2 i j)) from ⟨?_,acc'.toList,c',?_,?_⟩),rfl,q _ (I2.hok.fresh (Nat.le_refl _))⟩
      · unfold ints2; rw [List.length_map,List.length_range]; exact qz
      · unfold ints2
        refine vals_rng acc'.toList (by simp [hacc.1]) fun k v hv => ?_
        exact hacc.2 k v (by simpa using hv)
      · simpa using hS'
end L2
namespace L2
open PySem PySem.Spec PyProof.Rows
section
variable {prog : Program} {w : World} {A : Around} {R : Result → Shared → Prop} {I : Addr} {fp wr : List Addr} {n : Nat} {P : Nat → Value → Prop} {St : Nat → Heap → Prop}
noncomputable abbrev two (vb : Value) (c : Nat) : Obj := { cls := .type "list",dict := none,data := .seq #[vb,vb] c,slots := #[] }
noncomputable abbrev none2 (c : Nat) : Obj := { cls := .type "list",dict := none,data := .seq #[] c,slots := #[] }
noncomputable abbrev mxCode (I S : Addr) (kw : List (Str × Value)) : Code := .builtin "max.loop" ⟨[.ref I,.none,.ref S],kw⟩
theorem mx_name : (toString "max" ++ toString ".loop" : String) = "max.loop" := by decide
theorem mxGo (wk : Walks prog w A.in1 I fp wr n P St) (bt : Nat → Nat → Bool) (cm : CmpOf prog w A.in1 .Gt P bt) (S : Addr) (nS : S ∉ fp) (kw : List (Str × Value)) :
    ∀ (k j : Nat) (s : Shared) (vb : Value) (c : Nat),n - (j + 1) = k → j + 1 ≤ n → St (j + 1) s.heap → P (argBest bt j) vb → s.heap.get? S = some (two vb c) →
    (∀ u g z,P (argBest bt (n - 1)) u → (∀ b o,b ∉ wr → b ≠ S → s.heap.get? b = some o → g.get? b = some o) → R (.ok (.ret u)) { s with heap := g,toks := z }) →
    codeAny (model prog w) A (mxCode I S kw) R s := by
  have nw : S ∉ wr := fun q => nS (wk.sub _ q)
  intro k
  induction k with
  | zero =>
    intro j s vb c ek ej h1 h2 h3 fin
    have en : j + 1 = n := by omega
    refine codeAny_builtin F.entry_max_loop (by
      rw [Around.under_plainId F.plain_max_loop _]
      refine wpAny_bind (wpAny_seqItems h3 rfl ?_)
      refine wpAny_bind (wpAny_tryCatch (wk.done s _ _ (en ▸ h1) fun g z kp => ?_))
      refine wpAny_bind (wpAny_updateSeq (kp S _ nw h3) rfl (wpAny_bind (wpAny_letGo (wpAny_pure ?_))))
      exact fin vb _ z (by rw [← en]; exact h2) fun b o q1 q2 e => (Heap.get?_update_other _ _ (Ne.symm q2)).trans (kp b o q1 e))
  | succ k ih =>
    intro j s vb c ek ej h1 h2 h3 fin
    have lt : j + 1 < n := by omega
    refine codeAny_builtin F.entry_max_loop (by
      rw [Around.under_plainId F.plain_max_loop _]
      refine wpAny_bind (wpAny_seqItems h3 rfl ?_)
      refine wpAny_bind (wpAny_tryCatch (wk.item (j + 1) s _ _ lt h1 fun v g z hv st kp => ?_))
      have h3' := kp S _ nw h3
      show wpAny _ A.in1 (tryCatch (holding [v,v] (richCompare .Gt v vb >>= fun answer => _)) _ >>= _) _ _ _
      refine wpAny_bind (wpAny_tryCatch (wpAny_holding (wpAny_bind (cm (j + 1) (argBest bt j) v vb _ _ _ hv h2 (wpAny_bind (wpAny_holding (wpAny_truthy_bool (wpAny_bind (wpAny_letGo (wpAny_pure ?_))))))))))
      cases hb : bt (j + 1) (argBest bt j) with
      | true =>
        simp only [if_true]
        refine wpAny_bind (wpAny_updateSeq h3' rfl (wpAny_bind (wpAny_letGo ?_)))
        rw [mx_name]
        refine wpAny_pure ⟨plainId_quiet F.plain_max_loop _,ih (j + 1) _ v _ (by omega) lt (wk.frame _ _ _ st fun b q o e => (Heap.get?_update_other _ _ (fun y : S = b => nS (by rw [y]; exact q))).trans e)
          (by simp only [argBest,hb,if_true]; exact hv) (Heap.get?_update_self _ h3' rfl) fun u g2 z2 hu kp2 => fin u g2 z2 hu fun b o q1 q2 e => kp2 b o q1 q2 ((Heap.get?_update_other _ _ (Ne.symm q2)).trans (kp b o q1 e))⟩
      | false =>
        simp only [Bool.false_eq_true,if_false]
        refine wpAny_bind (wpAny_letGo ?_)
        rw [mx_name]
        exact wpAny_pure ⟨plainId_quiet F.plain_max_loop _,ih (j + 1) _ vb c (by omega) lt st (by simp only [argBest,hb,Bool.false_eq_true,if_false]; exact h2) h3' fun u g2 z2 hu kp2 => fin u g2 z2 hu fun b o q1 q2 e => kp2 b o q1 q2 (kp b o q1 e)⟩)
theorem mxFirst (wk : Walks prog w A.in1 I fp wr n P St) (bt : Nat → Nat → Bool) (cm : CmpOf prog w A.in1 .Gt P bt) (S : Addr) (nS : S ∉ fp) (nm : Str) (d : Value) {s : Shared} {c : Nat} (h1 : St 0 s.heap) (h3 : s.heap.get? S = some (none2 c))
    (f1 : 0 < n → ∀ u g z,P (argBest bt (n - 1)) u → (∀ b o,b ∉ wr → b ≠ S → s.heap.get? b = some o → g.get? b = some o) → R (.ok (.ret u)) { s with heap := g,toks := z })
    (f2 : n = 0 → ∀ g z,(∀ b o,b ∉ wr → b ≠ S → s.heap.get? b = some o → g.get? b = some o) → R (.ok (.ret d)) { s with heap := g,toks := z }) :
    codeAny (model prog w) A (mxCode I S [(nm,d)]) R s := by
  have nw : S ∉ wr := fun q => nS (wk.sub _ q)
  refine codeAny_builtin F.entry_max_loop (by
    rw [Around.under_plainId F.plain_max_loop _]
    refine wpAny_bind (wpAny_seqItems h3 rfl ?_)
    by_cases pos : 0 < n
    · refine wpAny_bind (wpAny_tryCatch (wk.item 0 s _ _ pos h1 fun v g z hv st kp => ?_))
      have h3' := kp S _ nw h3
      show wpAny _ A.in1 (updateSeq S (fun _ => #[v,v]) >>= fun _ => _) _ _ _
      refine wpAny_bind ?_
      refine wpAny_updateSeq h3' rfl ?_
      rw [mx_name]
      exact wpAny_pure ⟨plainId_quiet F.plain_max_loop _,mxGo wk bt cm S nS _ _ 0 _ v _ rfl pos (wk.frame _ _ _ st fun b q o e => (Heap.get?_update_other _ _ (fun y : S = b => nS (by rw [y]; exact q))).trans e) hv (Heap.get?_update_self _ h3' rfl)
        fun u g2 z2 hu kp2 => f1 pos u g2 z2 hu fun b o q1 q2 e => kp2 b o q1 q2 ((Heap.get?_update_other _ _ (Ne.symm q2)).trans (kp b o q1 e))⟩
    · have n0 : n = 0 := by omega
      refine wpAny_bind (wpAny_tryCatch (wk.done s _ _ (n0 ▸ h1) fun g z kp => ?_))
      exact wpAny_bind (wpAny_rule (wpAny_pure (f2 n0 g z fun b o q1 _ e => kp b o q1 e))))
end
theorem call_treeK {prog : Program} {w : World} {A : Around} {E : Value → Shared → Prop} {s : Shared} {id : String} {b : Builtin} {args : List Value} {kw : List (Str × Value)} {Q : Value → Shared → Prop} (k1 : builtinKind id = none) (k2 : plainId id = true) (k3 : entryFor table id = some b) (k4 : argsOk id ⟨args,kw⟩)
    (body : wpAny (model prog w) A.in1 (b ⟨args,kw⟩) (fun fin s' => match fin with
      | .done f => (match (Except.ok f : Result) with | .ok (.ret v) => Q v s' | .ok _ => False | .error e => E e s')
      | .again c' => c'.quiet = true ∧ codeAny (model prog w) A c' (fun r s' => match r with | .ok (.ret v) => Q v s' | .ok _ => False | .error e => E e s') s') E s) :
    wpAny (model prog w) A (call (.builtin id) args kw) Q E s := wpAny_call (codeAny_call_builtin k2 k3 (by
  simp only [checkBuiltinCall,k1]
  cases sg : Manifest.signature? id with
  | none => exact wpAny_pure body
  | some sig =>
    have e : Bind.checkArgs id sig ⟨args,kw⟩ = pure () := by simpa only [argsOk,sg] using k4
    simp only [e]
    exact wpAny_pure body))
theorem args_maxD (a d : Value) : argsOk "max" ⟨[a],[("default",d)]⟩ := by unfold argsOk; kernel_rfl
theorem call_maxD {prog : Program} {w : World} {A : Around} {E : Value → Shared → Prop} {s : Shared} {l : Addr} {xs : Array (Int × Tok)} {d : Value} {Q : Value → Shared → Prop} (hh : A.handled = none) (hl : s.heap.IsList l (intItems xs))
    (f1 : 0 < xs.size → ∀ v g z,(intItems xs)[argBest (fun i j => decide (numAt xs i > numAt xs j)) (xs.size - 1)]? = some v → (∀ b o,s.heap.get? b = some o → g.get? b = some o) → Q v { s with heap := g,toks := z })
    (f2 : xs.size = 0 → ∀ g z,(∀ b o,s.heap.get? b = some o → g.get? b = some o) → Q d { s with heap := g,toks := z }) :
    wpAny (model prog w) A (call (.builtin "max") [.ref l] [("default",d)]) Q E s := by
  refine call_treeK F.kind_max F.plain_max F.entry_max (args_maxD _ _) ?_
  show wpAny _ A.in1 (Builtin.Builtins.bindParams "max" ["key","default"] 0 ⟨[],[("default",d)]⟩ >>= fun _ => _) _ _ s
  refine wpAny_bind (wpAny_of_eq (show Builtin.Builtins.bindParams "max" ["key","default"] 0 ⟨[],[("default",d)]⟩ = pure [none,some d] from rfl) (wpAny_bind (wpAny_pure ?_)))
  refine wpAny_bind (iter_intList hl fun s2 e st hf hI => ?_)
  subst e
  refine wpAny_bind (wpAny_newObj_type ?_)
  rw [mx_name]
  have nS := fun q => Nat.lt_irrefl _ (hf _ q)
  have wk := Walks.list (prog := prog) (w := w) (A := A.in1) hh _ l hI (intItems xs)
  refine wpAny_pure ⟨plainId_quiet F.plain_max_loop _,mxFirst wk _ (CmpOf.ints_gt (numAt xs) (fun _ _ => intItems_at)) _ nS _ d (wk.frame _ _ _ st fun b _ o e => Heap.get?_push_of_some _ e) (Heap.get?_push_size _ rfl) (fun pos u g z hu kp => ?_) (fun n0 g z kp => ?_)⟩
  · refine f1 (by simpa [intItems] using pos) u g z (by simpa [intItems] using hu) (old_kept (l := l) (s := s) fun b o q e => ?_)
    exact kp b o q (Nat.ne_of_lt (Heap.lt_size e)) (Heap.get?_push_of_some _ e)
  · refine f2 (by simpa [intItems] using n0) g z (old_kept (l := l) (s := s) fun b o q e => ?_)
    exact kp b o q (Nat.ne_of_lt (Heap.lt_size e)) (Heap.get?_push_of_some _ e)
end L2
namespace L2
open PySem PySem.Spec PyProof.Rows
theorem best_max (xs : Array (Int × Tok)) : ∀ k,argBest (fun i j => decide (numAt xs i > numAt xs j)) k ≤ k ∧ ∀ j,j ≤ k → numAt xs j ≤ numAt xs (argBest (fun i j => decide (numAt xs i > numAt xs j)) k)
  | 0 => ⟨Nat.le_refl _,fun j hj => by rw [Nat.le_zero.mp hj]; exact Int.le_refl _⟩
  | k + 1 => by
    obtain ⟨h1,h2⟩ := best_max xs k
    show (if decide (numAt xs (k + 1) > numAt xs (argBest (fun i j => decide (numAt xs i > numAt xs j)) k)) = true then k + 1 else argBest (fun i j => decide (numAt xs i > numAt xs j)) k) ≤ k + 1 ∧ ∀ j,j ≤ k + 1 → numAt xs j ≤ numAt xs (if decide (numAt xs (k + 1) > numAt xs (argBest (fun i j => decide (numAt xs i > numAt xs j)) k)) = true then k + 1 else argBest (fun i j => decide (numAt xs i > numAt xs j)) k)
    by_cases q : decide (numAt xs (k + 1) > numAt xs (argBest (fun i j => decide (numAt xs i > numAt xs j)) k)) = true
    · rw [if_pos q]
      have q' := of_decide_eq_true q
      refine ⟨Nat.le_refl _,fun j hj => ?_⟩
      by_cases e : j = k + 1
      · rw [e]; exact Int.le_refl _
      · have := h2 j (by omega); omega
    · rw [if_neg q]
      have q' : ¬ numAt xs (k + 1) > numAt xs (argBest (fun i j => decide (numAt xs i > numAt xs j)) k) := fun z => q (decide_eq_true z)
      refine ⟨Nat.le_succ_of_le h1,fun j hj => ?_⟩
      by_cases e : j = k + 1
      · rw [e]; omega
      · exact h2 j (by omega)
theorem toks_of : ∀ {ns : List Int} {its : List Value},Vals (ns.map V.int) its → ∃ ps : List (Int × Tok),its = ps.map (fun p => Value.int p.1 p.2) ∧ ps.map (·.1) = ns
  | [],_,.nil => ⟨[],rfl,rfl⟩
  | n :: ns,_,.cons r t => by
    obtain ⟨tk,rfl⟩ := r
    obtain ⟨ps,h1,h2⟩ := toks_of t
    exact ⟨(n,tk) :: ps,by rw [h1]; rfl,by rw [List.map_cons,h2]⟩
noncomputable def tMaxD (te td : TE) : TE := fun σ H Q => te σ H fun x H1 => td σ H1 fun y H2 => ∃ a ns,x = .ref a ∧ H2 a = some (.lst (ns.map V.int)) ∧ (∀ m,m ∈ ns → (∀ n ∈ ns,n ≤ m) → Q (.int m) H2) ∧ (ns = [] → Q y H2)
theorem pe_maxD {X : Cx} {e d : Expr} {te td : TE} {p pos kp : Pos} (hh : X.A.handled = none) (hg : Gl X "max") (hm : X.mg "max" = none) (he : PE X e te) (hd : PE X d td)
    (h1 : starEach [e] X.env = [(false,eval e X.env)] := by rfl) : PE X (.Call (.Name "max" p) [e] [⟨some "default",d,kp⟩] pos) (tMaxD te td) := by
  intro pins s σ H Q I h
  refine wpAny_Call_Name_kw (ld_blt I hg hm boot_max ?_)
  refine callWith_kw ?_ (by rw [h1]; rfl) (by rw [h1]; rfl)
  rw [h1]
  show wpAny _ _ (spliced ((false,eval e X.env) :: [])) _ _ s
  refine Calls.spliced_cons (thn (he pins s σ H _ I h) fun u s1 hx => ?_)
  obtain ⟨x,H1,I1,rx,q1⟩ := hx
  refine Calls.spliced_nil ?_
  refine kws_cons (name := "default") (value := d) (kp := kp) (rest := []) ?_
  refine thn (hd pins s1 σ H1 _ I1 q1) fun v s2 hy => ?_
  obtain ⟨y,H2,I2,ry,a,ns,ex,ha,f1,f2⟩ := hy
  refine kws_nil ?_
  subst ex
  obtain rfl : u = Value.ref a := rx
  obtain ⟨its,rv,pl,hz⟩ := I2.list (SqL.of ha)
  obtain ⟨ps,e1,e2⟩ := toks_of rv
  have hil : s2.heap.IsList a (intItems ps.toArray) := by
    have := pl.isList
    rw [e1] at this
    simpa [intItems] using this
  show wpAny _ _ (call (.builtin "max") [.ref a] [("default",v)]) _ _ s2
  refine call_maxD hh hil (fun pos w' g z hw kp => ?_) (fun n0 g z kp => ?_)
  · obtain ⟨b1,b2⟩ := best_max ps.toArray (ps.toArray.size - 1)
    generalize argBest (fun i j => decide (numAt ps.toArray i > numAt ps.toArray j)) (ps.toArray.size - 1) = k at hw b1 b2
    have hsz : ps.toArray.size = ps.length := by simp
    rw [hsz] at b1 b2 pos
    have hk : k < ps.length := by omega
    have hw' : w' = .int ps[k].1 ps[k].2 := by
      have : (intItems ps.toArray)[k]? = some (.int ps[k].1 ps[k].2) := by simp [intItems,hk]
      rw [this] at hw
      exact (Option.some.inj hw).symm
    subst hw'
    have num : ∀ j (hj : j < ps.length),numAt ps.toArray j = ps[j].1 := fun j hj => by simp [numAt,hj]
    refine ⟨.int ps[k].1,H2,I2.kept kp,⟨_,rfl⟩,f1 _ ?_ ?_⟩
    · rw [← e2]; exact List.mem_map.mpr ⟨ps[k],List.getElem_mem hk,rfl⟩
    · intro n hn
      rw [← e2] at hn
      obtain ⟨q,hq,rfl⟩ := List.mem_map.mp hn
      obtain ⟨j,hj,rfl⟩ := List.getElem_of_mem hq
      have := b2 j (by omega)
      rw [num j hj,num k hk] at this
      exact this
  · have hnil : ns = [] := by
      rw [← e2]
      have : ps = [] := List.length_eq_zero_iff.mp (by simpa using n0)
      rw [this]; rfl
    exact ⟨y,H2,I2.kept kp,ry,f2 hnil⟩
end L2
namespace L2
open PySem PySem.Spec PyProof.Rows
section
variable {X : Cx}
end
end L2
namespace L2
open PySem PySem.Spec PyProof.Rows
section
variable {P : Program} {w : World} {A : Around} {E : Value → Shared → Prop} {s : Shared}
theorem one_at_most {α : Type} (f : α → Int) (v : Int) : ∀ {l : List α},(l.map f).Nodup → (l.filter fun e => f e == v).length ≤ 1
  | [],_ => Nat.zero_le _
  | a :: l,h => by
    rw [List.map_cons,List.nodup_cons] at h
    have ih := one_at_most f v h.2
    by_cases q : (f a == v) = true
    · rw [List.filter_cons_of_pos (p := fun e => f e == v) q]
      have : l.filter (fun e => f e == v) = [] := List.filter_eq_nil_iff.mpr fun b hb z => h.1 (List.mem_map.mpr ⟨b,hb,by
        have e1 := beq_iff_eq.mp q
        have e2 := beq_iff_eq.mp z
        rw [e1,e2]⟩)
      rw [this]; exact Nat.le_refl _
    · rw [List.filter_cons_of_neg (p := fun e => f e == v) q]; exact ih
noncomputable abbrev tk (P : Program) (w : World) : HeapKind P w (List Key) := tupleKind (mixKind P w)
theorem tk_type {h : Heap} {ks : List Key} {a : Addr} {s : Shared} (hs : s.heap = h) (i : (tk P w).is h ks a) : s.TypeIs (.ref a) "tuple" := by
  obtain ⟨o,its,n,h1,h2,_⟩ := i
  exact ⟨o,by rw [hs]; exact h1,h2⟩
theorem entriesH {nm : String} {d : Addr} {o : Obj} {es ep} {xs : List (List Key × Addr × Value)} {Q : Array DictEntry → Shared → Prop} (ho : s.heap.get? d = some o) (hd : o.data = .dict es ep) (he : es.toList = xs.map (entryOfKey (tk P w)))
    (his : ∀ x ∈ xs,(tk P w).is s.heap x.1 x.2.1) (hh : (xs.map fun x => (tk P w).hash x.1).Nodup) (h : Q es s) : wpAny (model P w) A (Builtin.Dict.entriesForEmpty nm d) Q E s := by
  unfold Builtin.Dict.entriesForEmpty
  refine wpAny_bind (wpAny_dictEntries ho hd ?_)
  refine wpAny_bind ?_
  refine wpAny_forIn_array' _ (fun rest _ s' => s' = s ∧ ∀ e ∈ rest,e ∈ es.toList) _ ?_ ?_ es PUnit.unit ⟨rfl,fun e h => h⟩
  · rintro e rest b s' ⟨rfl,hr⟩
    have hm := hr e List.mem_cons_self
    rw [he] at hm
    obtain ⟨x,hx,rfl⟩ := List.mem_map.mp hm
    refine wpAny_bind ?_
    show wpAny _ _ (specialOf (.ref x.2.1) "__eq__" >>= fun r => pure (r == some (.builtin "object.__eq__"))) _ _ _
    refine wpAny_bind (wpAny_specialOf (tk_type rfl (his x hx)) PySem.F.slot_tuple_eq.lookup (wpAny_pure ?_))
    have one : ¬ (es.filter fun e => e.hash == (entryOfKey (tk P w) x).hash).size > 1 := by
      have hn : (es.toList.map fun e => e.hash).Nodup := by
        rw [he,List.map_map]; exact hh
      have := one_at_most (fun e : DictEntry => e.hash) (entryOfKey (tk P w) x).hash hn
      have e2 : (es.filter fun e => e.hash == (entryOfKey (tk P w) x).hash).size = (es.toList.filter fun e => e.hash == (entryOfKey (tk P w) x).hash).length := by
        rw [← Array.length_toList,Array.toList_filter]
      omega
    rw [if_pos (by decide +kernel),if_neg one]
    exact wpAny_pure ⟨rfl,fun e h => hr e (List.mem_cons_of_mem _ h)⟩
  · rintro b s' ⟨rfl,_⟩
    exact wpAny_pure h
theorem mergeH {nm : String} {d o : Addr} {xs : List (List Key × Addr × Value)} {Q : Unit → Shared → Prop} {od : Obj} {epd : Nat} (hdo : d ≠ o) (hoS : (o == sysModules) = false) (hd : s.heap.get? d = some od) (hcd : od.ExactDict) (hdd : od.data = .dict #[] epd)
    (ho : s.heap.DictOfH (tk P w) o xs) (hsz : xs.length ≤ sizeLine) (hh : (xs.map fun x => (tk P w).hash x.1).Nodup)
    (hQ : ∀ h',h'.DictOfH (tk P w) d xs → Heap.SameBut d s.heap h' → Q () { s with heap := h' }) : wpAny (model P w) A (Builtin.Dict.mergeDict nm d o) Q E s := by
  obtain ⟨oo,es,ep,h1,h2,h3,h4,h5,h6⟩ := id ho
  have hsz' : es.size = xs.length := by rw [← Array.length_toList,h4,List.length_map]
  unfold Builtin.Dict.mergeDict
  rw [if_neg (by simpa using hdo)]
  unfold Builtin.Dict.showsAll
  rw [if_neg (by rw [hoS]; exact Bool.false_ne_true)]
  refine wpAny_bind (wpAny_pure (wpAny_bind (wpAny_dictEntries h1 h3 ?_)))
  dsimp only
  cases hx : xs with
  | nil =>
    rw [hx] at h4 hQ
    have hes : es = #[] := Array.toList_eq_nil_iff.mp h4
    subst hes
    rw [if_neg (by simp)]
    refine wpAny_bind (wpAny_dictEpoch h1 h3 (wpAny_bind (wpAny_dictEntries h1 h3 (wpAny_bind ?_))))
    rw [Std.Legacy.Range.forIn_eq_forIn_range']
    refine wpAny_pure (wpAny_pure ?_)
    exact hQ s.heap ⟨od,#[],epd,hd,hcd,hdd,rfl,⟨fun x h => (List.not_mem_nil h).elim,List.nodup_nil⟩⟩ (Heap.SameBut.refl _ _)
  | cons x xs' =>
    have hl : es.toList = entryOfKey (tk P w) x :: xs'.map (entryOfKey (tk P w)) := by rw [h4,hx]; rfl
    have hall : (es.all fun e => (keyPart e.key).isSome) = false := by
      rw [← Array.all_toList,hl,List.all_cons]; rfl
    have hne : es.isEmpty = false := by
      rw [← Array.isEmpty_toList,hl]; rfl
    rw [if_pos (by rw [hall,Bool.and_false]; rfl)]
    refine wpAny_bind (wpAny_dictEntries hd hdd ?_)
    rw [if_pos (by simp)]
    refine wpAny_bind (entriesH h1 h3 h4 h5 hh ?_)
    rw [hne,if_pos (by simp)]
    refine wpAny_bind (wpAny_updateDictKeysTo hd hdd (wpAny_pure ?_) (by show es.size ≤ _; omega))
    rw [hx] at hQ
    refine hQ _ ⟨_,es,_,Heap.get?_update_self _ hd (Obj.isFreed_of_dict (Obj.data_mapDictKeys hdd _)),hcd.mapDictKeys _,Obj.data_mapDictKeys hdd _,by rw [h4,hx],fun y hy => (tk P w).keeps (h5 y (by rw [hx]; exact hy)) hd hdd (Heap.SameBut.update ..),by rw [← hx]; exact h6⟩ (Heap.SameBut.update ..)
theorem call_dictH {o : Addr} {xs : List (List Key × Addr × Value)} {Q : Value → Shared → Prop} (hoS : (o == sysModules) = false) (ho : s.heap.DictOfH (tk P w) o xs) (hsz : xs.length ≤ sizeLine) (hh : (xs.map fun x => (tk P w).hash x.1).Nodup)
    (h : ∀ h',h'.DictOfH (tk P w) s.heap.objs.size xs → (∀ b q,s.heap.get? b = some q → h'.get? b = some q) → Q (.ref s.heap.objs.size) { s with heap := h' }) : wpAny (model P w) A (call (.type "dict") [.ref o]) Q E s := by
  refine callType_codes (Q₁ := fun obj s₁ => obj = .ref s.heap.objs.size ∧ s₁ = { s with heap := s.heap.push { cls := .type "dict",data := .dict #[] } }) F.kt_called_dict (F.kt_typeCall_dict_1 _) F.entry_dict_init (kt_code_dict_new _ ⟨rfl,rfl⟩) fun obj s1 hs1 => ?_
  obtain ⟨rfl,rfl⟩ := hs1
  have hnew : (s.heap.push { cls := .type "dict",data := .dict #[] }).DictOf (mixKind P w) s.heap.objs.size [] := Heap.DictOf.new s.heap
  have ho' : (s.heap.push { cls := .type "dict",data := .dict #[] }).DictOfH (tk P w) o xs := by
    obtain ⟨oo,es,ep,h1,h2,h3,h4,h5,h6⟩ := id ho
    refine ⟨oo,es,ep,Heap.get?_push_of_some _ h1,h2,h3,h4,fun x hx => ?_,h6⟩
    obtain ⟨q,its,n,k1,k2⟩ := h5 x hx
    exact ⟨q,its,n,Heap.get?_push_of_some _ k1,k2⟩
  have hdo : s.heap.objs.size ≠ o := by
    obtain ⟨_,_,_,hg,_⟩ := ho
    exact fun e => absurd (Heap.lt_size hg) (by rw [e]; exact Nat.lt_irrefl _)
  refine ⟨hnew.typeIs,F.args_dict_init_2 _ _,?_⟩
  unfold Builtin.«dict.__init__» Builtin.Dict.selfAndRest
  refine wpAny_bind (wpAny_bind (wpAny_notOrdered_dict hnew.typeIs (show wpAny _ _ (pure (s.heap.objs.size,[Value.ref o])) _ _ _ from wpAny_pure ?_)))
  show wpAny _ _ (Builtin.Dict.updateFrom "dict.__init__" s.heap.objs.size (.ref o) [] .none) _ _ _
  unfold Builtin.Dict.updateFrom
  refine wpAny_bind (wpAny_typeOf ho'.typeIs ?_)
  rw [if_neg (by decide)]
  unfold Builtin.Dict.merge Builtin.Dict.readDirectly
  refine wpAny_bind (wpAny_bind (wpAny_bind (wpAny_isInstance ho'.typeIs isSubtype_dict_dict ?_)))
  simp only [Bool.not_true,Bool.false_eq_true,if_false]
  refine wpAny_bind (wpAny_specialOf ho'.typeIs F.slot_dict_iter.lookup (wpAny_pure ?_))
  simp only [beq_self_eq_true,if_true]
  refine wpAny_bind (wpAny_pure ?_)
  refine mergeH hdo hoS (Heap.get?_push_size _ rfl) ⟨rfl,rfl,rfl⟩ rfl ho' hsz hh fun h' hd' hs' => ?_
  exact wpAny_bind (wpAny_pure (wpAny_pure ⟨rfl,h h' hd' fun b q e => (hs'.2 b (Nat.ne_of_lt (Heap.lt_size e))).trans (Heap.get?_push_of_some _ e)⟩))
theorem samePairsH {nm : String} {a b : Addr} {xs ys : List (List Key × Addr × Value)} {Q : Bool → Shared → Prop} (ha : (a == sysModules) = false) (hb : (b == sysModules) = false) (da : s.heap.DictOfH (tk P w) a xs) (db : s.heap.DictOfH (tk P w) b ys)
    (hk : xs.map (·.1) = ys.map (·.1)) (hu : A.units < cLine) (hv : ∀ (i : Nat) x y,xs[i]? = some x → ys[i]? = some y → SeqAt.EqAt A s x.2.2 y.2.2 true) (h : Q true s) : wpAny (model P w) A (Builtin.Dict.samePairs nm a b) Q E s := by
  obtain ⟨oa,ea,pa,a1,a2,a3,a4,a5,a6⟩ := da
  obtain ⟨ob,eb,pb,b1,b2,b3,b4,b5,b6⟩ := db
  have la : ea.size = xs.length := by rw [← Array.length_toList,a4,List.length_map]
  have lb : eb.size = ys.length := by rw [← Array.length_toList,b4,List.length_map]
  have lxy : xs.length = ys.length := by have := congrArg List.length hk; simpa using this
  unfold Builtin.Dict.samePairs Builtin.Dict.showsAll
  rw [if_neg (by rw [ha]; exact Bool.false_ne_true),if_neg (by rw [hb]; exact Bool.false_ne_true)]
  refine wpAny_bind (wpAny_pure (wpAny_bind (wpAny_pure (wpAny_bind (wpAny_dictEntries a1 a3 ?_)))))
  dsimp only
  refine wpAny_bind (wpAny_dictEntries b1 b3 ?_)
  rw [if_neg (by rw [la,lb,lxy]; simp)]
  refine wpAny_bind (wpAny_dictEpoch a1 a3 (wpAny_bind ?_))
  rw [Std.Legacy.Range.forIn_eq_forIn_range']
  simp only [Std.Legacy.Range.size,Nat.sub_zero,Nat.add_sub_cancel,Nat.div_one]
  refine wpAny_forIn_list _ (fun rest q s' => s' = s ∧ q = (none,()) ∧ ∃ i,rest = List.range' i (ea.size - i) ∧ i ≤ ea.size) _ ?_ ?_ _ _ ⟨rfl,rfl,0,by simp,Nat.zero_le _⟩
  · rintro n rest q s' ⟨rfl,rfl,i,hr,hi⟩
    have lt : i < ea.size := Nat.lt_of_not_le fun z => by rw [Nat.sub_eq_zero_of_le z] at hr; simp at hr
    obtain ⟨rfl,hrest⟩ : n = i ∧ rest = List.range' (i + 1) (ea.size - (i + 1)) := by
      rw [show ea.size - i = (ea.size - (i + 1)) + 1 by omega,List.range'_succ] at hr
      injection hr with q1 q2
      exact ⟨q1,q2⟩
    have hxn : xs[n]? = some (xs[n]'(by omega)) := List.getElem?_eq_getElem _
    have hyn : ys[n]? = some (ys[n]'(by omega)) := List.getElem?_eq_getElem _
    have kxy : (xs[n]'(by omega)).1 = (ys[n]'(by omega)).1 := by
      have := congrArg (fun l => l[n]?) hk
      simp only [List.getElem?_map,hxn,hyn,Option.map_some] at this
      exact Option.some.inj this
    have hen : ea[n]? = some (entryOfKey (tk P w) (xs[n]'(by omega))) := by rw [entry_at a4,hxn]; rfl
    refine wpAny_bind (wpAny_dictEntries a1 a3 ?_)
    rw [hen]
    show wpAny _ _ (holding [_,_] _ >>= fun _ => _) _ _ _
    have hval := hv n _ _ hxn hyn
    generalize xs[n]'(by omega) = x at hxn kxy hval hen
    generalize ys[n]'(by omega) = y at hyn kxy hval
    refine wpAny_bind (wpAny_holding (wpAny_bind (wpAny_dictFind_heap (knd := tk P w) (a := x.2.1) (k := x.1) hu (a5 x (List.mem_of_getElem? hxn)) b1 b3 b4 b5 b6 (fun hno => ?_) fun j p hj => ?_)))
    · exact absurd (by rw [kxy]; exact hyn) (hno n y.2)
    · have hjn : j = n := idxH_unique b6 hj (show ys[n]? = some (x.1,y.2) by rw [kxy]; exact hyn)
      subst hjn
      rw [hyn] at hj
      have hp : y = (x.1,p) := Option.some.inj hj
      refine wpAny_bind (wpAny_dictEntries b1 b3 ?_)
      rw [entry_at b4,hyn]
      show wpAny _ _ (holding [_] (eqBool x.2.2 y.2.2)) _ _ _
      refine wpAny_holding (hval P w _ _ ?_)
      rw [if_neg (by decide)]
      refine wpAny_bind (wpAny_dictEpoch a1 a3 ?_)
      rw [if_neg (by simp)]
      exact wpAny_pure ⟨rfl,rfl,j + 1,hrest,lt⟩
  · rintro q s' ⟨rfl,rfl,i,_,_⟩
    exact wpAny_pure h
theorem eqH {a b : Addr} {xs ys : List (List Key × Addr × Value)} {Q : Value → Shared → Prop} (ha : (a == sysModules) = false) (hb : (b == sysModules) = false) (da : s.heap.DictOfH (tk P w) a xs) (db : s.heap.DictOfH (tk P w) b ys)
    (hk : xs.map (·.1) = ys.map (·.1)) (hu : A.units + 1 < cLine) (hv : ∀ (i : Nat) x y,xs[i]? = some x → ys[i]? = some y → SeqAt.EqAt A.in1 s x.2.2 y.2.2 true) (h : Q (.bool true) s) : wpAny (model P w) A (richCompare .Eq (.ref a) (.ref b)) Q E s := by
  refine wpAny_richCompare_same_room (op := .Eq) da.typeIs db.typeIs PySem.F.slot_dict_eq (wpAny_call_entry PySem.F.slot_dict_eq da.typeIs PySem.F.entry_dict_eq ?_ (PySem.F.args_dict_eq_2 _ _)) (by omega)
  show wpAny _ _ (Builtin.Dict.dictSlotArgs "__eq__" ⟨[.ref a,.ref b],[]⟩ >>= fun _ => _) _ _ s
  unfold Builtin.Dict.dictSlotArgs
  refine wpAny_bind (wpAny_bind (wpAny_notOrdered_dict da.typeIs (show wpAny _ _ (pure (Value.ref a,Value.ref b)) _ _ s from wpAny_pure ?_)))
  refine wpAny_bind (wpAny_isInstance (T := "dict") db.typeIs PySem.F.sub_dict_dict ?_)
  simp only [Bool.not_true,Bool.false_eq_true,if_false]
  refine wpAny_bind (wpAny_pure (wpAny_bind (wpAny_pure (wpAny_bind (samePairsH ha hb da db hk hu hv ?_)))))
  exact wpAny_pure ⟨_,rfl,(fun x => nomatch x),h⟩
end
end L2
namespace L2
open PySem PySem.Spec PyProof.Rows
theorem items_move {P P' : Program} {w w' : World} : ∀ {ks : List Key} {us : List Value},ItemsAre (mixKind P w) ks us → ItemsAre (mixKind P' w') ks us := by
  intro ks us p
  induction p with
  | nil => exact .nil
  | cons h t ih => exact .cons h ih
noncomputable def AllL (ks : List Key) : Prop := ∀ k ∈ ks,∃ i,k = Sum.inl i
theorem hash_move {P P' : Program} {w w' : World} {ks : List Key} (h : AllL ks) : (tk P w).hash ks = (tk P' w').hash ks := by
  show reduceHash (Builtin.Tuple.tupleHashOf (ks.map (keyH w))) = reduceHash (Builtin.Tuple.tupleHashOf (ks.map (keyH w')))
  have : ks.map (keyH w) = ks.map (keyH w') := List.map_congr_left fun k hk => by
    obtain ⟨i,rfl⟩ := h k hk; rfl
  rw [this]
theorem dictH_move {P P' : Program} {w w' : World} {h : Heap} {a : Addr} {xs : List (List Key × Addr × Value)} (hi : ∀ x ∈ xs,AllL x.1) (d : h.DictOfH (tk P w) a xs) : h.DictOfH (tk P' w') a xs := by
  obtain ⟨o,es,ep,h1,h2,h3,h4,h5,h6⟩ := d
  refine ⟨o,es,ep,h1,h2,h3,?_,fun x hx => ?_,h6⟩
  · rw [h4]
    refine List.map_congr_left fun x hx => ?_
    unfold entryOfKey
    rw [hash_move (P' := P') (w' := w') (hi x hx)]
  · obtain ⟨q,its,n,k1,k2,k3,k4⟩ := h5 x hx
    exact ⟨q,its,n,k1,k2,k3,items_move k4⟩
theorem pairs_move {P P' : Program} {w w' : World} : ∀ {es : List DictEntry} {vs : List (Key × Value)},Pairs (mixKind P w) es vs → Pairs (mixKind P' w') es vs := by
  intro es vs p
  induction p with
  | nil => exact .nil
  | cons h1 h2 t ih => exact .cons h1 h2 ih
theorem pairs_mem {P : Program} {w : World} : ∀ {es : List DictEntry} {vs : List (Key × Value)},Pairs (mixKind P w) es vs → ∀ e ∈ es,∃ kv ∈ vs,keyIs kv.1 e.key = true := by
  intro es vs p
  induction p with
  | nil => intro e h; cases h
  | cons h1 _ t ih =>
    intro e h
    rcases List.mem_cons.mp h with rfl | h
    · exact ⟨_,List.mem_cons_self,h1⟩
    · obtain ⟨kv,m,q⟩ := ih e h
      exact ⟨kv,List.mem_cons_of_mem _ m,q⟩
theorem dictOf_move {P P' : Program} {w w' : World} {h : Heap} {a : Addr} {vs : List (Key × Value)} (hi : AllL (vs.map (·.1))) (d : h.DictOf (mixKind P w) a vs) : h.DictOf (mixKind P' w') a vs := by
  obtain ⟨o,es,ep,h1,h2,h3,h4,h5,h6⟩ := d
  refine ⟨o,es,ep,h1,h2,h3,fun e he => ?_,pairs_move h5,h6⟩
  obtain ⟨k,k1,k2⟩ := h4 e he
  obtain ⟨kv,m,q⟩ := pairs_mem h5 e (by simpa using he)
  have : k = kv.1 := (mixKind P w).inj _ _ _ k1 q
  obtain ⟨i,hi'⟩ := hi kv.1 (List.mem_map.mpr ⟨kv,m,rfl⟩)
  refine ⟨k,k1,?_⟩
  rw [k2,this,hi']; rfl
noncomputable def EqW (X : Cx) (H : Hp) (x y : V) : Prop := ∀ (pins : List (Addr × Obj)) (σ : St) (s : Shared),Inv X pins σ H s → ∀ (A : Around) (u v : Value),A.units + 25 < cLine → RelV x u → RelV y v → SeqAt.EqAt A s u v true
theorem eqW_of {X : Cx} {H : Hp} {n : Nat} {x y : V} (hn : n ≤ 20) (h : EqV X.K H n x y true) : EqW X H x y := fun _ _ _ I A _ _ hu rx ry => h.at I (by omega) rx ry
noncomputable def AllI {κ : Type} (kvs : List (κ × V)) : Prop := ∀ kv ∈ kvs,∃ i,kv.2 = V.int i
theorem int_like {A : Around} {s : Shared} {i : Int} {u v : Value} (ru : RelV (.int i) u) (rv : RelV (.int i) v) : SeqAt.EqAt A s u v true := by
  obtain ⟨t,rfl⟩ := (show ∃ t,u = Value.int i t from ru)
  obtain ⟨t',rfl⟩ := (show ∃ t,v = Value.int i t from rv)
  have := SeqAt.EqAt.int_int (A := A) (s := s) i t i t'
  rwa [beq_self_eq_true] at this
theorem kt_keys {H : Hp} : ∀ {kvs : List (List Key × V)} {xs : List (List Key × Addr × Value)},KT H kvs xs → xs.map (·.1) = kvs.map (·.1) := by
  intro kvs xs p
  induction p with
  | nil => rfl
  | cons h t ih => rw [List.map_cons,List.map_cons,ih,h.1]
theorem kt_at {H : Hp} : ∀ {kvs : List (List Key × V)} {xs : List (List Key × Addr × Value)} {i : Nat} {x : List Key × Addr × Value},KT H kvs xs → xs[i]? = some x → ∃ kv,kvs[i]? = some kv ∧ RelV kv.2 x.2.2 := by
  intro kvs xs i x p
  induction p generalizing i with
  | nil => intro e; cases e
  | cons h t ih =>
    intro e
    cases i with
    | zero => cases e; exact ⟨_,rfl,h.2.2⟩
    | succ i => exact ih e
theorem eqW_dT {X : Cx} {H : Hp} {a b : Addr} {kvs : List (List Key × V)} (ne : a ≠ b) (ha : H a = some (.dT kvs)) (hb : H b = some (.dT kvs)) (hi : AllI kvs) (hl : ∀ kv ∈ kvs,AllL kv.1) : EqW X H (.ref a) (.ref b) := fun pins σ s I A u v hu ru rv => by
  cases (show u = Value.ref a from ru); cases (show v = Value.ref b from rv)
  obtain ⟨_,sa,xs,rx,dx⟩ := dt_of I.hok ha
  obtain ⟨_,sb,ys,ry,dy⟩ := dt_of I.hok hb
  have al : ∀ {zs : List (List Key × Addr × Value)},KT H kvs zs → ∀ x ∈ zs,AllL x.1 := fun {zs} r x hx => by
    have : x.1 ∈ zs.map (·.1) := List.mem_map.mpr ⟨x,hx,rfl⟩
    rw [kt_keys r] at this
    obtain ⟨kv,m,e⟩ := List.mem_map.mp this
    rw [← e]; exact hl kv m
  refine SeqAt.EqAt.of_refs ne fun prog w E Q hq => eqH sa sb (dictH_move (al rx) dx) (dictH_move (al ry) dy) (by rw [kt_keys rx,kt_keys ry]) (by omega) (fun i x y hx hy => ?_) hq
  obtain ⟨kv,e1,r1⟩ := kt_at rx hx
  obtain ⟨kv',e2,r2⟩ := kt_at ry hy
  rw [e1] at e2; cases e2
  obtain ⟨j,hj⟩ := hi kv (List.mem_of_getElem? e1)
  rw [hj] at r1 r2
  exact int_like r1 r2
theorem kv_keys : ∀ {kvs : List (Key × V)} {vs : List (Key × Value)},KV kvs vs → vs.map (·.1) = kvs.map (·.1) := by
  intro kvs vs p
  induction p with
  | nil => rfl
  | cons h t ih => rw [List.map_cons,List.map_cons,ih,h.1]
theorem hits {A : Around} {s : Shared} {kb : List (Key × Value)} {kvs : List (Key × V)} (rb : KV kvs kb) (hi : ∀ k v,valV kvs k = some v → ∃ i,v = V.int i) : ∀ {ka : List (Key × Value)} {kvs' : List (Key × V)},KV kvs' ka → (∀ kv ∈ kvs',valV kvs kv.1 = some kv.2) → PySem.W.KeqHits A s kb ka true :=
  by
  intro ka kvs' g
  induction g with
  | nil => exact fun _ => .nil
  | @cons p q _ _ h t ih =>
    intro hm
    have e := hm _ List.mem_cons_self
    obtain ⟨w',hw,rw'⟩ := RelO.some_of (v := p.2) (o := valueAt kb p.1) (by rw [← e]; exact rb.val p.1)
    obtain ⟨i,hi'⟩ := hi _ _ e
    have hq : q = (p.1,q.2) := by rw [h.1]
    rw [hq]
    refine .hit (e := true) (b := true) hw ?_ (ih fun kv m => hm kv (List.mem_cons_of_mem _ m))
    have r1 := h.2
    rw [hi'] at r1 rw'
    exact int_like r1 rw'
theorem valV_mem : ∀ {kvs : List (Key × V)},(kvs.map (·.1)).Nodup → ∀ kv ∈ kvs,valV kvs kv.1 = some kv.2
  | [],_,kv,m => by cases m
  | p :: r,nd,kv,m => by
    rw [List.map_cons,List.nodup_cons] at nd
    rcases List.mem_cons.mp m with rfl | m
    · exact valV_pos rfl
    · rw [valV_neg (fun z => nd.1 (by rw [z]; exact List.mem_map.mpr ⟨kv,m,rfl⟩))]
      exact valV_mem nd.2 kv m
theorem eqW_dK {X : Cx} {H : Hp} {a b : Addr} {kvs : List (Key × V)} (ne : a ≠ b) (ha : H a = some (.dK kvs)) (hb : H b = some (.dK kvs)) (hi : AllI kvs) (hl : AllL (kvs.map (·.1))) (nd : (kvs.map (·.1)).Nodup) : EqW X H (.ref a) (.ref b) := fun pins σ s I A u v hu ru rv => by
  cases (show u = Value.ref a from ru); cases (show v = Value.ref b from rv)
  obtain ⟨_,sa,va,ra,da⟩ := dk_of I.hok ha
  obtain ⟨_,sb,vb,rb,db⟩ := dk_of I.hok hb
  have mem := valV_mem nd
  have hiv : ∀ k v,valV kvs k = some v → ∃ i,v = V.int i := fun k v e => by
    unfold valV at e
    obtain ⟨kv,h1,h2⟩ := Option.map_eq_some_iff.mp e
    obtain ⟨i,hi'⟩ := hi kv (List.mem_of_find?_eq_some h1)
    exact ⟨i,by rw [← h2,hi']⟩
  have la : va.length = kvs.length := (Paired.length ra).symm
  have lb : vb.length = kvs.length := (Paired.length rb).symm
  refine SeqAt.EqAt.of_refs ne fun prog w E Q hq => ?_
  refine PySem.W.keq_eq (knd := mixKind prog w) (r := true) sa sb (dictOf_move (by rw [kv_keys ra]; exact hl) da) (dictOf_move (by rw [kv_keys rb]; exact hl) db) (by omega) (fun _ => hits rb hiv ra mem) ?_
  rw [la,lb,beq_self_eq_true]; exact hq
noncomputable def rNeW (X : Cx) : R2 := fun x y H Q => ∃ a b xs ys,x = .ref a ∧ y = .ref b ∧ H a = some (.tup xs) ∧ H b = some (.tup ys) ∧ xs.length = ys.length ∧ (∀ (j : Nat) x y,xs[j]? = some x → ys[j]? = some y → EqW X H x y) ∧ Q (.bl false) H
theorem op_neW {X : Cx} (hu : X.A.units + 30 < cLine) : OpR X (compareOp .NotEq) (rNeW X) := by
  intro pins s σ H x y v u Q I rx ry h
  obtain ⟨a,b,xs,ys,rfl,rfl,ha,hb,hl,he,q⟩ := h
  cases (show v = Value.ref a from rx); cases (show u = Value.ref b from ry)
  obtain ⟨its,rv,pl,hz⟩ := I.tuple (SqT.of ha)
  obtain ⟨its',rv',pl',hz'⟩ := I.tuple (SqT.of hb)
  have l1 := rv.length; have l2 := rv'.length
  refine (SeqAt.RcNeAt.tuples (e := fun _ => true) (isTup_isTuple pl) (isTup_isTuple pl') (by omega) (fun j h1 h2 => ?_)) _ _ _ _ ⟨.bl _,H,I,rfl,?_⟩
  · obtain ⟨x,ex,rx⟩ := items_at rv h1
    obtain ⟨y,ey,ry⟩ := items_at rv' h2
    exact he j x y ex ey pins σ s I _ _ _ (by have := in1_le X.A; omega) rx ry
  · have e1 : ((List.range (min its.toArray.size its'.toArray.size)).all fun _ => true) = true := List.all_eq_true.mpr fun _ _ => rfl
    have e2 : (its.toArray.size == its'.toArray.size) = true := by rw [List.size_toArray,List.size_toArray]; exact beq_iff_eq.mpr (by omega)
    rw [e1,e2]; exact q
noncomputable def HashOk (kvs : List (List Key × V)) : Prop := (kvs.map fun kv => reduceHash (Builtin.Tuple.tupleHashOf (kv.1.map fun k => match k with | .inl i => hashInt i | .inr _ => 0))).Nodup
theorem call_dictOf {X : Cx} : CallR X (.type "dict") (fun xs H Q => ∃ p,xs = [.ref p] ∧ ((∃ kvs,H p = some (.dK kvs) ∧ ∀ l,H l = none → Q (.ref l) (upd H l (.dK kvs))) ∨ (∃ kvs,H p = some (.dT kvs) ∧ (∀ kv ∈ kvs,AllL kv.1) ∧ HashOk kvs ∧ ∀ l,H l = none → Q (.ref l) (upd H l (.dT kvs))))) := by
  intro pins s σ H xs us Q I r h
  obtain ⟨p,rfl,h⟩ := h
  obtain ⟨u,rfl,rx⟩ := vals1 r
  cases rx
  rcases h with ⟨kvs,e,q⟩ | ⟨kvs,e,hl,hh,q⟩
  · exact d_copyOf I (.inl e) fun l s' hl I' => ⟨.ref l,_,I',rfl,q l hl⟩
  · obtain ⟨z,sd,ys,ry,dy⟩ := dt_of I.hok e
    have len : ys.length = kvs.length := (Paired.length ry).symm
    have hn : (ys.map fun x => (tk X.prog X.w).hash x.1).Nodup := by
      have e1 : (ys.map fun x => (tk X.prog X.w).hash x.1) = (ys.map (·.1)).map fun k => (tk X.prog X.w).hash k := by rw [List.map_map]; rfl
      rw [e1,kt_keys ry,List.map_map]
      have e2 : (kvs.map ((fun k => (tk X.prog X.w).hash k) ∘ fun x => x.1)) = kvs.map fun kv => reduceHash (Builtin.Tuple.tupleHashOf (kv.1.map fun k => match k with | .inl i => hashInt i | .inr _ => 0)) := List.map_congr_left fun kv m => by
        show reduceHash (Builtin.Tuple.tupleHashOf (kv.1.map (keyH X.w))) = _
        congr 2
        refine List.map_congr_left fun k hk => ?_
        obtain ⟨i,rfl⟩ := hl kv m k hk; rfl
      rw [e2]; exact hh
    refine call_dictH sd dy (by rw [len]; exact z) hn fun h' d' kp => ?_
    obtain ⟨o',es,ep,h1,h2,h3,h4,_,h6⟩ := d'
    refine ⟨.ref s.heap.objs.size,_,I.laid (t' := s.toks) (o := .dT kvs) kp (Nat.le_refl _) ⟨z,beq_eq_false_iff_ne.mpr (Ne.symm (Nat.ne_of_lt I.big)),ys,?_,o',es,ep,h1,h2,h3,h4,h6⟩,rfl,q _ (I.hok.fresh (Nat.le_refl _))⟩
    exact ry.keeps fun c zs ec => by
      rw [upd_ne (ne_of_none ec (I.hok.fresh (Nat.le_refl _)))]; exact ec
end L2
namespace L2
open PySem PySem.Spec PyProof.Rows
noncomputable abbrev K0 : PySem.W.Frag := []
theorem SqL.k0 {K : PySem.W.Frag} {H : Hp} {a : Addr} {xs : List V} (h : SqL K0 H a xs) : SqL K H a xs := by
  rcases h with h | ⟨o,its,n,hk,_⟩
  · exact .inl h
  · exact nomatch (show (none : Option Obj) = some o from hk)
theorem SqT.k0 {K : PySem.W.Frag} {H : Hp} {a : Addr} {xs : List V} (h : SqT K0 H a xs) : SqT K H a xs := by
  rcases h with h | ⟨o,its,n,hk,_⟩
  · exact .inl h
  · exact nomatch (show (none : Option Obj) = some o from hk)
theorem EqV.k0 {K : PySem.W.Frag} {H : Hp} {n : Nat} {x y : V} {b : Bool} (h : EqV K0 H n x y b) : EqV K H n x y b := by
  induction h with
  | same v h h' => exact .same v h h'
  | int i j => exact .int i j
  | bl i j => exact .bl i j
  | str i j => exact .str i j
  | tup ne ha hb h ih => exact .tup ne ha.k0 hb.k0 ih
  | lst ne ha hb hl h ih => exact .lst ne ha.k0 hb.k0 hl ih
  | lstL ne ha hb hl => exact .lstL ne ha.k0 hb.k0 hl
theorem tyV_k0 {K : PySem.W.Frag} {H : Hp} {T : String} {x : V} (h : tyV K0 T x H) : tyV K T x H := by
  cases x with
  | ref p =>
    rcases h with ⟨e,xs,h⟩ | ⟨_,o,hk,_⟩ | h | h
    · exact .inl ⟨e,xs,h.k0⟩
    · exact nomatch (show (none : Option Obj) = some o from hk)
    · exact .inr (.inr (.inl h))
    · exact .inr (.inr (.inr h))
  | str _ => exact h
  | int _ => exact h
  | _ => exact h
inductive LenP (xs : List V) (H : Hp) (Q : VK) : Prop
  | mk (p : Addr) (ys : List V) (e : xs = [.ref p]) (h : SqL K0 H p ys ∨ SqT K0 H p ys) (q : Q (.int ys.length) H) : LenP xs H Q
inductive LofP (xs : List V) (H : Hp) (Q : VK) : Prop
  | mk (p : Addr) (ys : List V) (e : xs = [.ref p]) (h : SqL K0 H p ys ∨ SqT K0 H p ys) (q : ∀ l,H l = none → Q (.ref l) (upd H l (.lst ys))) : LofP xs H Q
inductive TofP (xs : List V) (H : Hp) (Q : VK) : Prop
  | mk (p : Addr) (ys : List V) (e : xs = [.ref p]) (h : (SqL K0 H p ys ∧ ∀ l,H l = none → Q (.ref l) (upd H l (.tup ys))) ∨ (SqT K0 H p ys ∧ Q (.ref p) H)) : TofP xs H Q
inductive IsiP (xs : List V) (H : Hp) (Q : VK) : Prop
  | mk (x : V) (n : String) (t : Value) (b : Bool) (e : xs = [x,.ty n]) (h : TyOf K0 H x t) (h' : PySem.W.kitOne K0 t (.type n) = some b) (q : Q (.bl b) H) : IsiP xs H Q
section
variable {X : Cx}
theorem ix_list0 : IxR X (rIxL K0) := by
  intro value slice pins s σ H x y v u Q I rx ry h e
  obtain ⟨p,xs,i,z,e1,e2,h,h',q⟩ := h
  exact ix_list value slice pins s σ H x y v u Q I rx ry ⟨p,xs,i,z,e1,e2,h.k0,h',q⟩ e
theorem ix_tup0 : IxR X (rIxT K0) := by
  intro value slice pins s σ H x y v u Q I rx ry h e
  obtain ⟨p,xs,i,z,e1,e2,h,h',q⟩ := h
  exact ix_tup value slice pins s σ H x y v u Q I rx ry ⟨p,xs,i,z,e1,e2,h.k0,h',q⟩ e
theorem sl_list0 : SlR X (rSlL K0) := by
  intro pins s σ H x v vl vu lo hi sl Q I rx hs pl pu h
  obtain ⟨a,xs,e,h,q⟩ := h
  exact sl_list pins s σ H x v vl vu lo hi sl Q I rx hs pl pu ⟨a,xs,e,h.k0,q⟩
theorem call_len_seq0 : CallR X (.builtin "len") LenP := by
  intro pins s σ H xs us Q I r h
  obtain ⟨p,ys,e,h,q⟩ := h
  exact call_len_seq pins s σ H xs us Q I r ⟨p,ys,e,h.imp SqL.k0 SqT.k0,q⟩
theorem call_list_of0 : CallR X (.type "list") LofP := by
  intro pins s σ H xs us Q I r h
  obtain ⟨p,ys,e,h,q⟩ := h
  exact call_list_of pins s σ H xs us Q I r ⟨p,ys,e,h.imp SqL.k0 SqT.k0,q⟩
theorem call_tuple_of0 : CallR X (.type "tuple") TofP := by
  intro pins s σ H xs us Q I r h
  obtain ⟨p,ys,e,h⟩ := h
  exact call_tuple_of pins s σ H xs us Q I r ⟨p,ys,e,h.imp (fun z => ⟨z.1.k0,z.2⟩) fun z => ⟨z.1.k0,z.2⟩⟩
theorem call_isinst0 : CallR X (.builtin "isinstance") IsiP := by
  intro pins s σ H xs us Q I r h
  obtain ⟨x,n,t,b,e,h,h',q⟩ := h
  cases h with
  | non => exact call_isinst pins s σ H xs us Q I r ⟨_,n,_,b,e,.non,h',q⟩
  | bl y => exact call_isinst pins s σ H xs us Q I r ⟨_,n,_,b,e,.bl y,h',q⟩
  | int y => exact call_isinst pins s σ H xs us Q I r ⟨_,n,_,b,e,.int y,h',q⟩
  | str y => exact call_isinst pins s σ H xs us Q I r ⟨_,n,_,b,e,.str y,h',q⟩
  | flt y => exact call_isinst pins s σ H xs us Q I r ⟨_,n,_,b,e,.flt y,h',q⟩
  | lst z => exact call_isinst pins s σ H xs us Q I r ⟨_,n,_,b,e,.lst z,h',q⟩
  | frz z => exact call_isinst pins s σ H xs us Q I r ⟨_,n,_,b,e,.frz z,h',q⟩
  | tup z => exact call_isinst pins s σ H xs us Q I r ⟨_,n,_,b,e,.tup z,h',q⟩
  | dK z => exact call_isinst pins s σ H xs us Q I r ⟨_,n,_,b,e,.dK z,h',q⟩
  | dT z => exact call_isinst pins s σ H xs us Q I r ⟨_,n,_,b,e,.dT z,h',q⟩
  | ins z cl ha hn htk hm => exact nomatch (show (none : Option Bool) = some true from hm)
theorem op_eqS0 (hu : X.A.units + 30 < cLine) : OpR X (compareOp .Eq) (rEqS K0) := by
  intro pins s σ H x y v u Q I rx ry h
  obtain ⟨n,a,b,k,e1,e2,ne,hn,he,q⟩ := h
  exact op_eqS hu pins s σ H x y v u Q I rx ry ⟨n,a,b,k,e1,e2,ne,hn,he.k0,q⟩
theorem pg_tup0 {es : List Expr} {k : Nat} {t : TGs} {n : Nat} {pos : Pos} (hc : X.calm = true) (hh : PGs X es t)
    (hn : (assignEach es X.env).length = n := by rfl) (hst : (assignEach es X.env).findIdx? (·.1) = none := by rfl) : PG X (.Tuple es k pos) (gTup K0 n t) := by
  intro pins s σ H v u Q I r h
  obtain ⟨a,xs,e,hq,hl,hw⟩ := h
  exact pg_tup hc hh hn hst pins s σ H v u Q I r ⟨a,xs,e,hq.k0,hl,hw⟩
theorem Turn.weak {P : Program} {w : World} {K : PySem.W.Frag} {tg : Expr} {J J' : It} {fp : List Addr} {it : Addr} {tn : Nat → Heap → Prop} (T : Turn P w K tg J fp it tn) (hg : ∀ i H,J'.go i H → J.go i H) (hy : ∀ i H x H',J.yld i H x H' → J'.yld i H x H') (hs : ∀ i H,J'.stop i H → J.stop i H) :
    Turn P w K tg J' fp it tn where
  mem := T.mem
  obj := T.obj
  keep := T.keep
  item := fun X a b c d i pins s σ H E I hf st g => thn (T.item X a b c d i pins s σ H E I hf st (hg i H g)) fun _ _ z => by
    obtain ⟨u,e,z⟩ := z
    exact ⟨u,e,thn z fun _ _ z => by obtain ⟨x,H',I',r,y,t,n⟩ := z; exact ⟨x,H',I',r,hy _ _ _ _ y,t,n⟩⟩
  done := fun X a b c d i pins s σ H E I hf st g => T.done X a b c d i pins s σ H E I hf st (hs i H g)
  self := T.self
theorem itl_go {K : PySem.W.Frag} {a : Addr} (i : Nat) (H : Hp) (h : (Itl K0 a).go i H) : (Itl K a).go i H := by
  obtain ⟨xs,x,h,e⟩ := h
  exact ⟨xs,x,h.k0,e⟩
theorem itl_yl {K : PySem.W.Frag} {a : Addr} (i : Nat) (H : Hp) (x : V) (H' : Hp) (h : (Itl K a).yld i H x H') : (Itl K0 a).yld i H x H' := ⟨h.1,fun xs q => h.2 xs q.k0⟩
theorem itl_st {K : PySem.W.Frag} {a : Addr} (i : Nat) (H : Hp) (h : (Itl K0 a).stop i H) : (Itl K a).stop i H := by
  obtain ⟨xs,h,e⟩ := h
  exact ⟨xs,h.k0,e⟩
variable {tg : Expr}
theorem pi_list0 {l : Expr} {tl : TE} (hl : PE X l tl) : PI X tg l (iList K0 tl) := by
  intro pins s σ H R I h
  refine thn (hl pins s σ H _ I h) fun v s1 zy => ?_
  obtain ⟨x,H1,I1,r1,q1⟩ := zy
  obtain ⟨a,e,⟨xs,hq⟩,q⟩ := q1
  subst e
  cases r1
  obtain ⟨its,rv,p,hz⟩ := I1.list (SqL.k0 hq)
  refine wpAny_pyIter_list p.isList ?_
  refine ⟨s1.heap.objs.size,[s1.heap.objs.size],_,_,H1,rfl,I1.kept (t' := s1.toks) fun b o e => Heap.get?_push_of_some _ e,(turn_list a _).weak itl_go itl_yl itl_st,⟨_,Heap.get?_push_size _ rfl,rfl,rfl⟩,fun b hb => ?_,q⟩
  have e : b = s1.heap.objs.size := by simpa using hb
  subst e
  exact I1.fpOk (Nat.le_refl _) (I1.hok.fresh (Nat.le_refl _))
theorem pi_tup0 {l : Expr} {tl : TE} (hl : PE X l tl) : PI X tg l (iTup K0 tl) := by
  intro pins s σ H R I h
  refine thn (hl pins s σ H _ I h) fun v s1 zy => ?_
  obtain ⟨x,H1,I1,r1,q1⟩ := zy
  obtain ⟨a,e,⟨xs,hq⟩,q⟩ := q1
  subst e
  cases r1
  obtain ⟨its,rv,p,hz⟩ := I1.tuple (SqT.k0 hq)
  refine wpAny_pyIter_tuple (show s1.heap.IsTuple a its.toArray from p) ?_
  refine ⟨s1.heap.objs.size,[s1.heap.objs.size],_,_,H1,rfl,I1.kept (t' := s1.toks) fun b o e => Heap.get?_push_of_some _ e,(turn_tuple a _).weak (J' := Itt K0 a) (fun i H h => ?_) (fun i H x H' h => ⟨h.1,fun xs q => h.2 xs q.k0⟩) (fun i H h => ?_),⟨_,Heap.get?_push_size _ rfl,rfl,rfl⟩,fun b hb => ?_,q⟩
  · obtain ⟨xs,x,h,e⟩ := h
    exact ⟨xs,x,h.k0,e⟩
  · obtain ⟨xs,h,e⟩ := h
    exact ⟨xs,h.k0,e⟩
  have e : b = s1.heap.objs.size := by simpa using hb
  subst e
  exact I1.fpOk (Nat.le_refl _) (I1.hok.fresh (Nat.le_refl _))
theorem pi_enum0 {es : List Expr} {x1} {tp : Pos} {a : Expr} {ta : TA} {p pos : Pos} (hg : Gl X "enumerate") (hm : X.mg "enumerate" = none) (ha : PA X [a] ta) (hs : starEach [a] X.env = [(false,eval a X.env)] := by rfl) :
    PI X (.Tuple es x1 tp) (.Call (.Name "enumerate" p) [a] [] pos) (iEnum K0 ta) := by
  intro pins s σ H R I h
  refine Call_ (ld_blt I hg hm boot_enumerate (PyProof.Rows.callWith_type1 (thn (ha pos pins s σ H _ I h) fun us s1 zy => ?_) (by rw [hs]; rfl) (by rfl)))
  obtain ⟨vs,H1,I1,r1,q1⟩ := zy
  obtain ⟨l,e,⟨xs,hq⟩,q⟩ := q1
  subst e
  obtain ⟨u,rfl,ru⟩ := vals1 r1
  cases ru
  obtain ⟨its,rv,pl,hz⟩ := I1.list (SqL.k0 hq)
  refine call_enumerate_list pl.isList fun h' he hit hsz hk => ?_
  have hei : s1.heap.objs.size + 1 ≠ s1.heap.objs.size := Nat.succ_ne_self _
  refine wpAny_pyIter_enum he ?_
  refine ⟨s1.heap.objs.size + 1,[s1.heap.objs.size + 1,s1.heap.objs.size],_,_,H1,rfl,I1.kept (t' := s1.toks) hk,(turn_enum l _ _ hei).weak (J' := Ite K0 l) (fun i H h => ?_) (fun i H x H' h => ?_) (fun i H h => ?_),⟨⟨_,he⟩,hit⟩,fun b hb => ?_,q⟩
  · obtain ⟨xs,x,h,e⟩ := h
    exact ⟨xs,x,h.k0,e⟩
  · obtain ⟨p,v,e1,e2,e3,h⟩ := h
    exact ⟨p,v,e1,e2,e3,fun xs q => h xs q.k0⟩
  · obtain ⟨xs,h,e⟩ := h
    exact ⟨xs,h.k0,e⟩
  have hb' : s1.heap.objs.size ≤ b := by
    rcases List.mem_cons.mp hb with z | z
    · rw [z]; exact Nat.le_succ _
    · rw [show b = s1.heap.objs.size by simpa using z]; exact Nat.le_refl _
  exact I1.fpOk hb' (I1.hok.fresh hb')
variable {o e : Expr} {es : List Expr} {to : TE} {t : TA} {name : Str} {apos cpos : Pos} {T id : String} {r : V → List V → Hp → VK → Prop}
theorem pe_bmZ (pa : PlainAttrs T) (slot : Slot T name id) (hty : typeOf (.builtin id) = pure (.type "method_descriptor")) (hm : MtR X id r) (ho : PE X o to) (ha : PA X (e :: es) t)
    (hbase : attributeBase o name X.env (eval o X.env) = eval o X.env := by rfl)
    (hfew : ((backTo cpos (starEach (e :: es) X.env)).all (fun x => !x.1) && (backToKw cpos (keywordEach [] X.env)).all (fun x => x.1.isSome)
      && decide ((e :: es).length + ([] : List Keyword).length + (if ([] : List Keyword).isEmpty then 0 else 1) < 30)) = true := by rfl)
    (hline : (apos.endLine == cpos.line) = true := by rfl) (hs : starEach (e :: es) X.env = (false,eval e X.env) :: starEach es X.env := by rfl) (hplain : (backTo cpos (starEach es X.env)).any (·.1) = false := by rfl) :
    PE X (.Call (.Attribute o name apos) (e :: es) [] cpos) (tBM K0 T r to t) := by
  intro pins s σ H Q I h
  refine wpAny_Call_method_late hbase hfew hline rfl (thn (ho pins s σ H _ I h) fun v s1 zy => ?_)
  obtain ⟨x,H1,I1,r1,ty,q1⟩ := zy
  obtain ⟨h1,h2⟩ := tyV_is I1 r1 (tyV_k0 ty)
  refine ⟨T,id,pa,slot,hty,h1,h2,?_⟩
  have hA := ha cpos pins s1 σ H1 _ I1 q1
  rw [hs] at hA ⊢
  refine Calls.callWith_builtin (by show (false || (backTo cpos (starEach es X.env)).any (·.1)) = false; rw [hplain] <;> rfl) (Calls.evalArgs_plain ?_)
  exact thn hA fun us s2 ⟨vs,H2,I2,r2,q2⟩ => hm pins s2 σ H2 x vs v us Q I2 r1 r2 q2
end
end L2
namespace Ink
structure Rule where
  b : List Int
  t : List Int
  a : List Int
  g : List Int
noncomputable abbrev Slot := Int × Int × Int
noncomputable def standsB (p sh : List Int) (at' : Int) : Bool := decide (0 ≤ at') && decide ((sh.drop at'.toNat).take p.length = p)
noncomputable def fitB (r : Rule) (sh : List Int) (k : Nat) : Bool :=
  !(r.t.length == 0) && standsB r.t sh k && (standsB r.b sh ((k : Int) - r.b.length) && standsB r.a sh ((k : Int) + r.t.length))
noncomputable def fitL (r : Rule) (sh : List Int) (k : Nat) : Bool :=
  decide (r.b.length ≤ k) && decide ((sh.drop (k - r.b.length)).take (r.b ++ r.t ++ r.a).length = r.b ++ r.t ++ r.a)
theorem take_app {α : Type} (l p q : List α) : l.take (p ++ q).length = p ++ q ↔ l.take p.length = p ∧ (l.drop p.length).take q.length = q := by
  rw [List.length_append,List.take_add]
  constructor
  · intro h
    have hl : (l.take p.length).length = p.length := by
      have := congrArg List.length h
      simp only [List.length_append,List.length_take,List.length_drop] at this
      simp only [List.length_take]
      have h1 := Nat.min_le_left p.length l.length
      have h2 := Nat.min_le_left q.length (l.length - p.length)
      generalize min p.length l.length = a at *
      generalize min q.length (l.length - p.length) = b at *
      clear h
      omega
    exact List.append_inj h hl
  · rintro ⟨h1,h2⟩
    rw [h1,h2]
theorem fit_eq (r : Rule) (sh : List Int) (k : Nat) (ht : r.t ≠ []) : fitB r sh k = fitL r sh k := by
  have h0 : (r.t.length == 0) = false := by
    cases h : r.t with
    | nil => exact absurd h ht
    | cons => rfl
  unfold fitB fitL standsB
  rw [h0,Bool.eq_iff_iff]
  simp only [Bool.not_false,Bool.true_and,Bool.and_eq_true,decide_eq_true_eq]
  rw [List.append_assoc,take_app,take_app]
  have e1 : ((k : Int)).toNat = k := by omega
  have e2 : ((k : Int) + (r.t.length : Int)).toNat = k + r.t.length := by (first | ((try clear e1); omega) | omega)
  rw [e1,e2]
  constructor
  · rintro ⟨⟨_,h1⟩,⟨hb,h2⟩,⟨_,h3⟩⟩
    have e3 : ((k : Int) - (r.b.length : Int)).toNat = k - r.b.length := by (first | ((try clear e1); omega) | omega)
    rw [e3] at h2
    refine ⟨by (first | ((try clear e3); (try clear e1); omega) | omega),h2,?_,?_⟩
    · rw [List.drop_drop,show k - r.b.length + r.b.length = k by (first | ((try clear e3); (try clear e1); omega) | omega)]; exact h1
    · rw [List.drop_drop,List.drop_drop,show k - r.b.length + (r.b.length + r.t.length) = k + r.t.length by (first | ((try clear e3); (try clear e1); omega) | omega)]; exact h3
  · rintro ⟨hb,h2,h1,h3⟩
    have e3 : ((k : Int) - (r.b.length : Int)).toNat = k - r.b.length := by (first | ((try clear e1); omega) | omega)
    rw [List.drop_drop,show k - r.b.length + r.b.length = k by (first | ((try clear e3); (try clear e1); omega) | omega)] at h1
    rw [List.drop_drop,List.drop_drop,show k - r.b.length + (r.b.length + r.t.length) = k + r.t.length by (first | ((try clear e3); (try clear e1); omega) | omega)] at h3
    rw [e3]
    exact ⟨⟨by (first | ((try clear e3); (try clear hb); (try clear e1); omega) | omega),h1⟩,⟨by (first | ((try clear e3); (try clear e1); omega) | omega),h2⟩,by (first | ((try clear e3); (try clear hb); (try clear e1); omega) | omega),h3⟩
noncomputable def firstFit (rules : List Rule) (sh : List Int) (k : Nat) : Option Nat := rules.findIdx? fun r => fitB r sh k
noncomputable def tl (rules : List Rule) (k : Nat) : Nat := ((rules[k]?).map fun r => r.t.length).getD 0
noncomputable def gv (rules : List Rule) (k : Nat) : List Int := ((rules[k]?).map fun r => r.g).getD []
noncomputable def doer (rules : List Rule) (sh : List Int) (k : Nat) : List (Nat × Nat) :=
  if k < sh.length then
    match firstFit rules sh k with
    | none => doer rules sh (k + 1)
    | some j => (k,j) :: doer rules sh (k + (tl rules j - 1) + 1)
  else []
termination_by sh.length - k
theorem doer_end {rules : List Rule} {sh : List Int} {k : Nat} (h : sh.length ≤ k) : doer rules sh k = [] := by
  rw [doer,if_neg (Nat.not_lt.mpr h)]
theorem doer_none {rules : List Rule} {sh : List Int} {k : Nat} (h : k < sh.length) (e : firstFit rules sh k = none) : doer rules sh k = doer rules sh (k + 1) := by
  conv => lhs; rw [doer,if_pos h]
  rw [e]
theorem doer_some {rules : List Rule} {sh : List Int} {k j : Nat} (h : k < sh.length) (e : firstFit rules sh k = some j) (ht : 1 ≤ tl rules j) : doer rules sh k = (k,j) :: doer rules sh (k + tl rules j) := by
  conv => lhs; rw [doer,if_pos h]
  rw [e]
  show (k,j) :: doer rules sh (k + (tl rules j - 1) + 1) = _
  rw [show k + (tl rules j - 1) + 1 = k + tl rules j by (first | ((try clear h); omega) | omega)]
noncomputable def RulesOk (rules : List Rule) : Prop := ∀ r ∈ rules,1 ≤ r.t.length ∧ r.t.length ≤ 4 ∧ r.b.length ≤ 3 ∧ r.a.length ≤ 3 ∧ 1 ≤ r.g.length ∧ r.g.length ≤ 3
theorem first_some {rules : List Rule} {sh : List Int} {k j : Nat} (e : firstFit rules sh k = some j) : ∃ r,rules[j]? = some r ∧ fitB r sh k = true := by
  unfold firstFit at e
  rw [List.findIdx?_eq_some_iff_getElem] at e
  obtain ⟨h,p,_⟩ := e
  exact ⟨rules[j],List.getElem?_eq_getElem h,p⟩
theorem tl_of {rules : List Rule} {j : Nat} {r : Rule} (h : rules[j]? = some r) : tl rules j = r.t.length := by unfold tl; rw [h]; rfl
theorem gv_of {rules : List Rule} {j : Nat} {r : Rule} (h : rules[j]? = some r) : gv rules j = r.g := by unfold gv; rw [h]; rfl
theorem fit_take {r : Rule} {sh : List Int} {k : Nat} (h : fitB r sh k = true) : (sh.drop k).take r.t.length = r.t ∧ r.t.length ≠ 0 := by
  unfold fitB standsB at h
  simp only [Bool.and_eq_true,decide_eq_true_eq,Bool.not_eq_true',beq_eq_false_iff_ne] at h
  have e1 : ((k : Int)).toNat = k := by omega
  rw [e1] at h
  exact ⟨h.1.2.2,h.1.1⟩
theorem first_fits {rules : List Rule} {sh : List Int} {k j : Nat} (e : firstFit rules sh k = some j) : 1 ≤ tl rules j ∧ k + tl rules j ≤ sh.length ∧ j < rules.length := by
  obtain ⟨r,hr,hf⟩ := first_some e
  obtain ⟨h1,h2⟩ := fit_take hf
  have := congrArg List.length h1
  rw [List.length_take,List.length_drop] at this
  rw [tl_of hr]
  exact ⟨by omega,by omega,(List.getElem?_eq_some_iff.mp hr).1⟩
inductive Along (rules : List Rule) (n : Nat) : Nat → List (Nat × Nat) → Prop
  | nil {k : Nat} : Along rules n k []
  | cons {k p j : Nat} {ds : List (Nat × Nat)} : k ≤ p → 1 ≤ tl rules j → p + tl rules j ≤ n → j < rules.length → Along rules n (p + tl rules j) ds → Along rules n k ((p,j) :: ds)
theorem Along.mono {rules : List Rule} {n k k' : Nat} {ds : List (Nat × Nat)} (h : Along rules n k ds) (hk : k' ≤ k) : Along rules n k' ds := by
  cases h with
  | nil => exact .nil
  | cons h1 h2 h3 h4 h5 => exact .cons (Nat.le_trans hk h1) h2 h3 h4 h5
theorem doer_along {rules : List Rule} {sh : List Int} : ∀ (m k : Nat),sh.length - k ≤ m → Along rules sh.length k (doer rules sh k)
  | 0,k,h => by rw [doer_end (by omega)]; exact .nil
  | m + 1,k,h => by
    by_cases hk : k < sh.length
    · cases e : firstFit rules sh k with
      | none => rw [doer_none hk e]; exact (doer_along m (k + 1) (by omega)).mono (Nat.le_succ _)
      | some j =>
        obtain ⟨h1,h2,h3⟩ := first_fits e
        rw [doer_some hk e h1]
        exact .cons (Nat.le_refl _) h1 h2 h3 (doer_along m _ (by (first | ((try clear h3); omega) | omega)))
    · rw [doer_end (by (first | ((try clear h); omega) | omega))]; exact .nil
theorem Along.length {rules : List Rule} {n k : Nat} {ds : List (Nat × Nat)} (h : Along rules n k ds) : ds.length ≤ n - k := by
  induction h with
  | nil => exact Nat.zero_le _
  | cons h1 h2 h3 h4 h5 ih => rw [List.length_cons]; (first | ((try clear h4); omega) | omega)
theorem filter_first (rules : List Rule) (p : Nat → Bool) (q : Rule → Bool) (h : ∀ k r,rules[k]? = some r → p k = q r) :
    ((List.range rules.length).filter p).head? = rules.findIdx? q := by
  have key : ∀ (l : List Rule) (m : Nat),(∀ k r,l[k]? = some r → p (m + k) = q r) → (((List.range' m l.length).filter p).head?) = (l.findIdx? q).map (· + m) := by
    intro l
    induction l with
    | nil => intro m _; rfl
    | cons r l ih =>
      intro m hm
      have h0 : p m = q r := by simpa using hm 0 r rfl
      rw [List.length_cons,List.range'_succ,List.filter_cons,h0,List.findIdx?_cons]
      cases hq : q r with
      | true => simp
      | false =>
        simp only [Bool.false_eq_true,if_false]
        rw [ih (m + 1) fun k r' e => by rw [show m + 1 + k = m + (k + 1) by omega]; exact hm (k + 1) r' (by simpa using e)]
        rw [Option.map_map]
        congr 1
        funext x
        simp; omega
  rw [List.range_eq_range',key rules 0 (by simpa using h)]
  cases rules.findIdx? q <;> simp
noncomputable def allOf (sh : List Int) (sl : List Slot) : List Slot := sh.map fun s => (s,((sl.head?).map (·.2.1)).getD 0,((sl.getLast?).map (·.2.2)).getD 0)
noncomputable def psl (rules : List Rule) (slots : List Slot) : List (Nat × Nat) → Nat → List Slot
  | [],r => slots.drop r
  | (p,j) :: ds,r => (slots.drop r).take (p - r) ++ (allOf (gv rules j) ((slots.drop p).take (tl rules j)) ++ psl rules slots ds (p + tl rules j))
noncomputable def shp (slots : List Slot) : List Int := slots.map (·.1)
noncomputable def passedSlots (rules : List Rule) (slots : List Slot) : List Slot := psl rules slots (doer rules (shp slots) 0) 0
noncomputable def firstSlots (row : List Int) : List Slot := row.mapIdx fun k s => (s,(k : Int),(k : Int) + 1)
noncomputable def prow (rules : List Rule) (sh : List Int) : List (Nat × Nat) → Nat → List Int
  | [],r => sh.drop r
  | (p,j) :: ds,r => (sh.drop r).take (p - r) ++ (gv rules j ++ prow rules sh ds (p + tl rules j))
theorem shp_psl (rules : List Rule) (slots : List Slot) : ∀ (ds : List (Nat × Nat)) (r : Nat),shp (psl rules slots ds r) = prow rules (shp slots) ds r
  | [],r => by unfold psl prow shp; rw [List.map_drop]
  | (p,j) :: ds,r => by
    have ih := shp_psl rules slots ds (p + tl rules j)
    unfold psl prow
    unfold shp at ih ⊢
    rw [List.map_append,List.map_append,ih,List.map_take,List.map_drop]
    congr 2
    unfold allOf
    rw [List.map_map]
    exact List.map_id _
theorem prow_len {rules : List Rule} {n : Nat} {sh : List Int} (ok : ∀ j,(gv rules j).length ≤ 3) (hn : sh.length = n) : ∀ {ds : List (Nat × Nat)} {r : Nat},Along rules n r ds → (prow rules sh ds r).length ≤ 3 * (n - r) := by
  intro ds r h
  induction h with
  | nil => unfold prow; rw [List.length_drop]; omega
  | @cons k p j ds h1 h2 h3 h4 h5 ih =>
    unfold prow
    have := ok j
    rw [List.length_append,List.length_append,List.length_take,List.length_drop]
    have h6 := Nat.min_le_left (p - k) (sh.length - k)
    generalize min (p - k) (sh.length - k) = m at *
    clear ok hn
    (first | ((try clear h4); (try clear hn); omega) | omega)
end Ink
namespace Ink
noncomputable def slo (s : Slot) : Int := s.2.1
noncomputable def shi (s : Slot) : Int := s.2.2
noncomputable def grp : List Slot → List (List Slot)
  | [] => []
  | a :: l => match grp l with
    | [] => [[a]]
    | c :: cs => if ((c.head?).map slo).getD 0 < shi a then (a :: c) :: cs else [a] :: c :: cs
noncomputable def addSlot (chains : List (List Slot)) (s : Slot) : List (List Slot) :=
  match chains.getLast? with
  | none => [[s]]
  | some c => if slo s < ((c.getLast?).map shi).getD 0 then chains.dropLast ++ [c ++ [s]] else chains ++ [[s]]
theorem grp_ne {l : List Slot} (h : l ≠ []) : grp l ≠ [] := by
  cases l with
  | nil => exact absurd rfl h
  | cons a l =>
    unfold grp
    split
    · intro h; cases h
    · split <;> (intro h; cases h)
theorem grp_nonempty : ∀ (l : List Slot),∀ c ∈ grp l,c ≠ []
  | [],c,h => by cases h
  | a :: l,c,h => by
    have ih := grp_nonempty l
    unfold grp at h
    split at h
    · rw [List.mem_singleton.mp h]; intro z; cases z
    · rename_i c' cs e
      split at h
      · rcases List.mem_cons.mp h with z | z
        · rw [z]; intro y; cases y
        · exact ih c (by rw [e]; exact List.mem_cons_of_mem _ z)
      · rcases List.mem_cons.mp h with z | z
        · rw [z]; intro y; cases y
        · exact ih c (by rw [e]; exact z)
theorem grp_flat : ∀ (l : List Slot),(grp l).flatten = l
  | [] => rfl
  | a :: l => by
    have ih := grp_flat l
    unfold grp
    split
    · rename_i e; rw [e] at ih; simp only [List.flatten_nil] at ih; rw [← ih]; rfl
    · rename_i c cs e
      rw [e] at ih
      split
      · rw [List.flatten_cons,List.cons_append,← List.flatten_cons,ih]
      · rw [List.flatten_cons,ih]; rfl
theorem addSlot_cons (c : List Slot) (cs : List (List Slot)) (s : Slot) (h : cs ≠ []) : addSlot (c :: cs) s = c :: addSlot cs s := by
  unfold addSlot
  cases cs with
  | nil => exact absurd rfl h
  | cons d ds =>
    rw [List.getLast?_cons_cons]
    cases e : (d :: ds).getLast? with
    | none => rw [List.getLast?_eq_none_iff] at e; cases e
    | some x =>
      simp only
      split
      · rw [List.dropLast_cons_of_ne_nil (by simp)]; rfl
      · rfl
theorem grp_cons {a c0 : Slot} {c' l : List Slot} {cs : List (List Slot)} (e : grp l = (c0 :: c') :: cs) : grp (a :: l) = if slo c0 < shi a then (a :: c0 :: c') :: cs else [a] :: (c0 :: c') :: cs := by
  conv => lhs; unfold grp
  rw [e]; rfl
noncomputable def lsHi (c : List Slot) : Int := ((c.getLast?).map shi).getD 0
theorem add_pos {c : List Slot} {s : Slot} (h : slo s < lsHi c) : addSlot [c] s = [c ++ [s]] := by
  show (if slo s < lsHi c then [c].dropLast ++ [c ++ [s]] else [c] ++ [[s]]) = _
  rw [if_pos h]; rfl
theorem add_neg {c : List Slot} {s : Slot} (h : ¬ slo s < lsHi c) : addSlot [c] s = [c,[s]] := by
  show (if slo s < lsHi c then [c].dropLast ++ [c ++ [s]] else [c] ++ [[s]]) = _
  rw [if_neg h]; rfl
theorem lsHi_cons (a b : Slot) (c : List Slot) : lsHi (a :: b :: c) = lsHi (b :: c) := by unfold lsHi; rw [List.getLast?_cons_cons]
theorem grp_snoc : ∀ (l : List Slot) (s : Slot),grp (l ++ [s]) = addSlot (grp l) s
  | [],s => rfl
  | a :: l,s => by
    have ih := grp_snoc l s
    show grp (a :: (l ++ [s])) = addSlot (grp (a :: l)) s
    cases hl : l with
    | nil =>
      show grp [a,s] = addSlot [[a]] s
      rw [grp_cons (a := a) (l := [s]) (c0 := s) (c' := []) (cs := []) rfl]
      by_cases h : slo s < shi a
      · rw [if_pos h,add_pos (c := [a]) h]; rfl
      · rw [if_neg h,add_neg (c := [a]) h]
    | cons b l' =>
      rw [← hl]
      have hne : grp l ≠ [] := grp_ne (by rw [hl]; intro z; cases z)
      cases e : grp l with
      | nil => exact absurd e hne
      | cons c cs =>
        rw [e] at ih
        have hcne : c ≠ [] := grp_nonempty l c (by rw [e]; exact List.mem_cons_self)
        obtain ⟨c0,c',rfl⟩ : ∃ x y,c = x :: y := by
          cases c with
          | nil => exact absurd rfl hcne
          | cons x y => exact ⟨x,y,rfl⟩
        rw [grp_cons e]
        cases cs with
        | nil =>
          by_cases h1 : slo s < lsHi (c0 :: c')
          · rw [add_pos h1] at ih
            rw [grp_cons (c0 := c0) (c' := c' ++ [s]) (cs := []) ih]
            by_cases h2 : slo c0 < shi a
            · rw [if_pos h2,if_pos h2,add_pos (by rw [lsHi_cons]; exact h1)]; rfl
            · rw [if_neg h2,if_neg h2,addSlot_cons _ _ _ (by simp),add_pos h1]; rfl
          · rw [add_neg h1] at ih
            rw [grp_cons ih]
            by_cases h2 : slo c0 < shi a
            · rw [if_pos h2,if_pos h2,add_neg (by rw [lsHi_cons]; exact h1)]
            · rw [if_neg h2,if_neg h2,addSlot_cons _ _ _ (by simp),add_neg h1]
        | cons d ds =>
          have nn : (d :: ds : List (List Slot)) ≠ [] := by simp
          rw [addSlot_cons _ _ _ nn] at ih
          rw [grp_cons ih]
          by_cases h2 : slo c0 < shi a
          · rw [if_pos h2,if_pos h2,addSlot_cons (a :: c0 :: c') _ _ nn]
          · rw [if_neg h2,if_neg h2,addSlot_cons [a] _ _ (by simp),addSlot_cons (c0 :: c') _ _ nn]
noncomputable def melt (slots : List Slot) : List Slot := ((grp slots).map fun c => allOf (shp c) c).flatten
theorem shp_allOf (sh : List Int) (sl : List Slot) : shp (allOf sh sl) = sh := by
  unfold shp allOf; rw [List.map_map]; exact List.map_id _
theorem shp_melt (slots : List Slot) : shp (melt slots) = shp slots := by
  unfold melt
  have h : ∀ (cs : List (List Slot)),shp ((cs.map fun c => allOf (shp c) c).flatten) = shp cs.flatten := by
    intro cs
    induction cs with
    | nil => rfl
    | cons c cs ih =>
      rw [List.map_cons,List.flatten_cons,List.flatten_cons]
      unfold shp at ih ⊢
      rw [List.map_append,List.map_append,ih]
      congr 1
      exact shp_allOf _ _
  rw [h,grp_flat]
inductive Ch (R : Slot → Slot → Prop) : List Slot → Prop
  | nil : Ch R []
  | one (a : Slot) : Ch R [a]
  | cons {a b : Slot} {l : List Slot} : R a b → Ch R (b :: l) → Ch R (a :: b :: l)
theorem Ch.tail {R : Slot → Slot → Prop} {a : Slot} {l : List Slot} (h : Ch R (a :: l)) : Ch R l := by
  cases h with
  | one => exact .nil
  | cons _ h => exact h
theorem Ch.app {R : Slot → Slot → Prop} : ∀ {l m : List Slot},Ch R l → Ch R m → (∀ a b,l.getLast? = some a → m.head? = some b → R a b) → Ch R (l ++ m)
  | [],m,_,h,_ => h
  | [a],[],_,_,_ => .one a
  | [a],b :: m,_,h,hr => .cons (hr a b rfl rfl) h
  | a :: b :: l,m,h,hm,hr => by
    cases h with
    | cons r h => exact .cons r (Ch.app h hm fun x y e1 e2 => hr x y (by rw [List.getLast?_cons_cons]; exact e1) e2)
noncomputable def wk (a b : Slot) : Prop := slo a ≤ slo b ∧ shi a ≤ shi b ∧ slo b ≤ shi a
noncomputable def st (a b : Slot) : Prop := (slo a = slo b ∧ shi a = shi b) ∨ slo b = shi a
structure Wk (l : List Slot) (z n : Int) : Prop where
  pos : ∀ s ∈ l,slo s < shi s
  ch : Ch wk l
  fst : ∀ s,l.head? = some s → slo s = z
  lst : ∀ s,l.getLast? = some s → shi s = n
structure Sg (l : List Slot) (z n : Int) : Prop where
  pos : ∀ s ∈ l,slo s < shi s
  ch : Ch st l
  fst : ∀ s,l.head? = some s → slo s = z
  lst : ∀ s,l.getLast? = some s → shi s = n
theorem Sg.wk {l : List Slot} {z n : Int} (h : Sg l z n) : Wk l z n := by
  refine ⟨h.pos,?_,h.fst,h.lst⟩
  have : ∀ (l : List Slot),(∀ s ∈ l,slo s < shi s) → Ch st l → Ch Ink.wk l := by
    intro l hp hc
    induction hc with
    | nil => exact .nil
    | one a => exact .one a
    | @cons a b l r h ih =>
      refine .cons ?_ (ih fun s hs => hp s (List.mem_cons_of_mem _ hs))
      have p1 := hp a List.mem_cons_self
      have p2 := hp b (List.mem_cons_of_mem _ List.mem_cons_self)
      unfold Ink.wk
      rcases r with ⟨e1,e2⟩ | e
      · (first | ((try clear p1); omega) | omega)
      · omega
  exact this l h.pos h.ch
theorem Ch.first {a : Slot} : ∀ {l : List Slot},Ch wk (a :: l) → ∀ s ∈ a :: l,slo a ≤ slo s ∧ shi a ≤ shi s
  | [],_,s,hs => by rw [List.mem_singleton.mp hs]; exact ⟨Int.le_refl _,Int.le_refl _⟩
  | b :: l,h,s,hs => by
    cases h with
    | cons r h =>
      rcases List.mem_cons.mp hs with e | hs
      · rw [e]; exact ⟨Int.le_refl _,Int.le_refl _⟩
      · have := Ch.first h s hs
        obtain ⟨r1,r2,_⟩ := r
        exact ⟨by (first | ((try clear r2); omega) | omega),by (first | ((try clear r1); omega) | omega)⟩
theorem Ch.last : ∀ {l : List Slot} {z : Slot},Ch wk l → l.getLast? = some z → ∀ s ∈ l,slo s ≤ slo z ∧ shi s ≤ shi z
  | [],_,_,e,_,_ => by cases e
  | [a],z,_,e,s,hs => by
    have : a = z := Option.some.inj e
    rw [List.mem_singleton.mp hs,this]; exact ⟨Int.le_refl _,Int.le_refl _⟩
  | a :: b :: l,z,h,e,s,hs => by
    rw [List.getLast?_cons_cons] at e
    cases h with
    | cons r h =>
      have q := Ch.last h e
      rcases List.mem_cons.mp hs with y | hs
      · rw [y]
        have := q b List.mem_cons_self
        obtain ⟨r1,r2,_⟩ := r
        exact ⟨by (first | ((try clear r2); omega) | omega),by (first | ((try clear r1); omega) | omega)⟩
      · exact q s hs
end Ink
namespace Ink
noncomputable def hdLo (c : List Slot) : Int := ((c.head?).map slo).getD 0
structure Bec (l res : List Slot) : Prop where
  nil : l = [] → res = []
  hd : ∀ h,l.head? = some h → ∃ h',res.head? = some h' ∧ slo h' = slo h ∧ shi h ≤ shi h'
  ch : Ch wk res
  pos : ∀ s ∈ res,slo s < shi s
  ls : ∀ e,l.getLast? = some e → ∃ e',res.getLast? = some e' ∧ shi e' = shi e ∧ slo e' ≤ slo e
theorem Bec.refl {l : List Slot} (h : Ch wk l) (p : ∀ s ∈ l,slo s < shi s) : Bec l l :=
  ⟨fun e => e,fun h e => ⟨h,e,rfl,Int.le_refl _⟩,h,p,fun e q => ⟨e,q,rfl,Int.le_refl _⟩⟩
theorem Ch.left {R : Slot → Slot → Prop} : ∀ {l m : List Slot},Ch R (l ++ m) → Ch R l
  | [],_,_ => .nil
  | [a],_,_ => .one a
  | a :: b :: l,m,h => by
    cases h with
    | cons r h => exact .cons r (Ch.left (l := b :: l) (m := m) h)
theorem Ch.right {R : Slot → Slot → Prop} : ∀ {l m : List Slot},Ch R (l ++ m) → Ch R m
  | [],_,h => h
  | a :: l,m,h => Ch.right (l := l) h.tail
theorem Ch.mid {R : Slot → Slot → Prop} : ∀ {l m : List Slot} {a b : Slot},Ch R (l ++ m) → l.getLast? = some a → m.head? = some b → R a b
  | [],_,_,_,_,e,_ => by cases e
  | [x],b' :: m,a,b,h,e1,e2 => by
    cases h with
    | cons r _ =>
      have p1 : x = a := Option.some.inj e1
      have p2 : b' = b := Option.some.inj e2
      rw [← p1,← p2]; exact r
  | [x],[],_,_,_,_,e2 => by cases e2
  | x :: y :: l,m,a,b,h,e1,e2 => by
    rw [List.getLast?_cons_cons] at e1
    exact Ch.mid (l := y :: l) h.tail e1 e2
theorem getLast?_app {α : Type} {l m : List α} (h : m ≠ []) : (l ++ m).getLast? = m.getLast? := by
  rw [List.getLast?_append]
  cases e : m.getLast? with
  | none => rw [List.getLast?_eq_none_iff] at e; exact absurd e h
  | some x => rfl
theorem Bec.app {l m r s : List Slot} (a : Bec l r) (b : Bec m s) (h : Ch wk (l ++ m)) : Bec (l ++ m) (r ++ s) := by
  by_cases hl : l = []
  · rw [hl,a.nil hl]; exact b
  by_cases hm : m = []
  · rw [hm,b.nil hm,List.append_nil,List.append_nil]; exact a
  obtain ⟨l0,l',rfl⟩ : ∃ x y,l = x :: y := by cases l with | nil => exact absurd rfl hl | cons x y => exact ⟨x,y,rfl⟩
  obtain ⟨m0,m',rfl⟩ : ∃ x y,m = x :: y := by cases m with | nil => exact absurd rfl hm | cons x y => exact ⟨x,y,rfl⟩
  obtain ⟨h',eh,h1,h2⟩ := a.hd l0 rfl
  obtain ⟨k',ek,k1,k2⟩ := b.hd m0 rfl
  have ll : ∃ z,(l0 :: l').getLast? = some z := by
    cases e : (l0 :: l').getLast? with
    | none => rw [List.getLast?_eq_none_iff] at e; cases e
    | some z => exact ⟨z,rfl⟩
  obtain ⟨z,ez⟩ := ll
  obtain ⟨z',ez',z1,z2⟩ := a.ls z ez
  have hs : s ≠ [] := by intro q; rw [q] at ek; cases ek
  have hr : r ≠ [] := by intro q; rw [q] at eh; cases eh
  have w := h.mid ez rfl
  obtain ⟨w1,w2,w3⟩ := w
  refine ⟨fun e => by simp at e,fun x e => ?_,Ch.app a.ch b.ch fun x y e1 e2 => ?_,fun x hx => ?_,fun e q => ?_⟩
  · have : x = l0 := (Option.some.inj e).symm
    subst this
    refine ⟨h',?_,h1,h2⟩
    cases r with
    | nil => exact absurd rfl hr
    | cons _ _ => exact eh
  · rw [ez'] at e1; rw [ek] at e2
    have p1 : z' = x := Option.some.inj e1
    have p2 : k' = y := Option.some.inj e2
    rw [← p1,← p2]
    exact ⟨by (first | ((try clear w3); (try clear w2); (try clear z1); (try clear k2); (try clear h2); (try clear h1); (try clear hm); (try clear hl); omega) | omega),by (first | ((try clear w3); (try clear w1); (try clear z2); (try clear k1); (try clear h2); (try clear h1); (try clear hm); (try clear hl); omega) | omega),by (first | ((try clear w2); (try clear w1); (try clear z2); (try clear k2); (try clear h2); (try clear h1); (try clear hm); (try clear hl); omega) | omega)⟩
  · rcases List.mem_append.mp hx with q | q
    · exact a.pos x q
    · exact b.pos x q
  · rw [getLast?_app (by simp)] at q
    obtain ⟨e',q1,q2,q3⟩ := b.ls e q
    exact ⟨e',by rw [getLast?_app hs]; exact q1,q2,q3⟩
theorem allOf_mem {g : List Int} {l : List Slot} {s : Slot} (h : s ∈ allOf g l) : slo s = hdLo l ∧ shi s = lsHi l := by
  unfold allOf at h
  obtain ⟨x,_,e⟩ := List.mem_map.mp h
  rw [← e]; exact ⟨rfl,rfl⟩
theorem hdLo_of {l : List Slot} {h : Slot} (e : l.head? = some h) : hdLo l = slo h := by unfold hdLo; rw [e]; rfl
theorem lsHi_of {l : List Slot} {h : Slot} (e : l.getLast? = some h) : lsHi l = shi h := by unfold lsHi; rw [e]; rfl
theorem exLast {α : Type} {l : List α} (h : l ≠ []) : ∃ z,l.getLast? = some z := by
  cases e : l.getLast? with
  | none => rw [List.getLast?_eq_none_iff] at e; exact absurd e h
  | some z => exact ⟨z,rfl⟩
theorem exHead {α : Type} {l : List α} (h : l ≠ []) : ∃ z,l.head? = some z := by
  cases l with
  | nil => exact absurd rfl h
  | cons z l => exact ⟨z,rfl⟩
theorem headMem {α : Type} {l : List α} {z : α} (h : l.head? = some z) : z ∈ l := by
  cases l with
  | nil => cases h
  | cons a l => rw [← Option.some.inj h]; exact List.mem_cons_self
theorem lastMem {α : Type} {l : List α} {z : α} (h : l.getLast? = some z) : z ∈ l := List.mem_of_getLast? h
theorem ends {l : List Slot} (hne : l ≠ []) (h : Ch wk l) (p : ∀ s ∈ l,slo s < shi s) : hdLo l < lsHi l ∧ ∀ s ∈ l,hdLo l ≤ slo s ∧ shi s ≤ lsHi l := by
  obtain ⟨a,ea⟩ := exHead hne
  obtain ⟨z,ez⟩ := exLast hne
  rw [hdLo_of ea,lsHi_of ez]
  obtain ⟨l',rfl⟩ : ∃ l',l = a :: l' := by
    cases l with
    | nil => cases ea
    | cons x y => exact ⟨y,by rw [Option.some.inj ea]⟩
  have f := h.first
  have g := h.last ez
  have pa := p a List.mem_cons_self
  refine ⟨by have := (g a List.mem_cons_self).2; omega,fun s hs => ⟨(f s hs).1,(g s hs).2⟩⟩
theorem Bec.all {g : List Int} {l : List Slot} (hne : l ≠ []) (hg : g ≠ []) (h : Ch wk l) (p : ∀ s ∈ l,slo s < shi s) : Bec l (allOf g l) := by
  obtain ⟨e1,e2⟩ := ends hne h p
  have hres : allOf g l ≠ [] := by
    unfold allOf
    intro q
    exact hg (List.map_eq_nil_iff.mp q)
  obtain ⟨x,ex⟩ := exHead hres
  obtain ⟨y,ey⟩ := exLast hres
  have mx := allOf_mem (headMem ex)
  have my := allOf_mem (lastMem ey)
  have chain : ∀ (k : List Slot),(∀ s ∈ k,slo s = hdLo l ∧ shi s = lsHi l) → Ch wk k := by
    intro k
    induction k with
    | nil => intro _; exact .nil
    | cons a k ih =>
      intro hk
      cases k with
      | nil => exact .one a
      | cons b k =>
        have q1 := hk a List.mem_cons_self
        have q2 := hk b (List.mem_cons_of_mem _ List.mem_cons_self)
        exact .cons ⟨by (first | ((try clear e1); omega) | omega),by (first | ((try clear e1); omega) | omega),by omega⟩ (ih fun s hs => hk s (List.mem_cons_of_mem _ hs))
  refine ⟨fun e => absurd e hne,fun a ea => ⟨x,ex,?_,?_⟩,chain _ fun s hs => allOf_mem hs,fun s hs => ?_,fun z ez => ⟨y,ey,?_,?_⟩⟩
  · rw [mx.1,hdLo_of ea]
  · rw [mx.2]; exact (e2 a (headMem ea)).2
  · have := allOf_mem hs; omega
  · rw [my.2,lsHi_of ez]
  · rw [my.1]; exact (e2 z (lastMem ez)).1
theorem drop_split {α : Type} (l : List α) {r p : Nat} (h : r ≤ p) : l.drop r = (l.drop r).take (p - r) ++ l.drop p := by
  have : l.drop p = (l.drop r).drop (p - r) := by rw [List.drop_drop]; congr 1; omega
  rw [this,List.take_append_drop]
theorem psl_bec {rules : List Rule} {slots : List Slot} (hc : Ch wk slots) (hp : ∀ s ∈ slots,slo s < shi s) (hg : ∀ j,j < rules.length → gv rules j ≠ []) :
    ∀ {ds : List (Nat × Nat)} {r : Nat},Along rules slots.length r ds → Bec (slots.drop r) (psl rules slots ds r) := by
  intro ds r h
  have sub : ∀ k,Ch wk (slots.drop k) := fun k => Ch.right (l := slots.take k) (by rw [List.take_append_drop]; exact hc)
  have subp : ∀ k,∀ s ∈ slots.drop k,slo s < shi s := fun k s hs => hp s (List.mem_of_mem_drop hs)
  induction h with
  | @nil k => unfold psl; exact Bec.refl (sub k) (subp k)
  | @cons k p j ds h1 h2 h3 h4 h5 ih =>
    unfold psl
    have e1 := drop_split slots h1
    have e2 := drop_split slots (Nat.le_add_right p (tl rules j))
    rw [Nat.add_sub_cancel_left] at e2
    have c1 := sub k
    rw [e1] at c1
    have c2 := sub p
    rw [e2] at c2
    suffices goal : Bec ((slots.drop k).take (p - k) ++ slots.drop p) ((slots.drop k).take (p - k) ++ (allOf (gv rules j) ((slots.drop p).take (tl rules j)) ++ psl rules slots ds (p + tl rules j))) by
      rw [← e1] at goal; exact goal
    refine Bec.app (Bec.refl c1.left fun s hs => subp k s (List.mem_of_mem_take hs)) ?_ c1
    have hT : (slots.drop p).take (tl rules j) ≠ [] := by
      intro q
      have := congrArg List.length q
      rw [List.length_take,List.length_drop] at this
      simp at this
      (first | ((try clear h4); (try clear h1); omega) | omega)
    have b1 : Bec ((slots.drop p).take (tl rules j)) (allOf (gv rules j) ((slots.drop p).take (tl rules j))) :=
      Bec.all hT (hg j h4) c2.left fun s hs => subp p s (List.mem_of_mem_take hs)
    have := Bec.app b1 ih c2
    rw [← e2] at this
    exact this
theorem passed_wk {rules : List Rule} {slots : List Slot} {z n : Int} (h : Wk slots z n) (hg : ∀ j,j < rules.length → gv rules j ≠ []) : Wk (passedSlots rules slots) z n ∧ (passedSlots rules slots = [] ↔ slots = []) := by
  have al := doer_along (rules := rules) (sh := shp slots) _ 0 (Nat.le_refl _)
  rw [show (shp slots).length = slots.length from List.length_map _] at al
  have b := psl_bec (rules := rules) h.ch h.pos hg al
  rw [List.drop_zero] at b
  refine ⟨⟨b.pos,b.ch,fun s e => ?_,fun s e => ?_⟩,fun e => ?_,b.nil⟩
  · by_cases hs : slots = []
    · have := b.nil hs
      unfold passedSlots at e
      rw [this] at e; cases e
    · obtain ⟨a,ea⟩ := exHead hs
      obtain ⟨a',e',q,_⟩ := b.hd a ea
      unfold passedSlots at e
      rw [e'] at e
      rw [← Option.some.inj e,q]; exact h.fst a ea
  · by_cases hs : slots = []
    · have := b.nil hs
      unfold passedSlots at e
      rw [this] at e; cases e
    · obtain ⟨a,ea⟩ := exLast hs
      obtain ⟨a',e',q,_⟩ := b.ls a ea
      unfold passedSlots at e
      rw [e'] at e
      rw [← Option.some.inj e,q]; exact h.lst a ea
  · by_cases hs : slots = []
    · exact hs
    · obtain ⟨a,ea⟩ := exHead hs
      obtain ⟨a',e',_⟩ := b.hd a ea
      unfold passedSlots at e
      rw [e] at e'; cases e'
inductive CC : List (List Slot) → Prop
  | nil : CC []
  | one (c : List Slot) : CC [c]
  | cons {c d : List Slot} {cs : List (List Slot)} : hdLo d = lsHi c → CC (d :: cs) → CC (c :: d :: cs)
theorem grp_cc : ∀ {l : List Slot},Ch wk l → (∀ s ∈ l,slo s < shi s) → CC (grp l) ∧ ∀ c ∈ grp l,Ch wk c ∧ ∀ s ∈ c,s ∈ l
  | [],_,_ => ⟨.nil,fun c h => by cases h⟩
  | a :: l,hc,hp => by
    obtain ⟨ih1,ih2⟩ := grp_cc (l := l) hc.tail fun s hs => hp s (List.mem_cons_of_mem _ hs)
    cases e : grp l with
    | nil =>
      have : l = [] := by rw [← grp_flat l,e]; rfl
      subst this
      refine ⟨.one _,fun c h => ?_⟩
      have : c = [a] := List.mem_singleton.mp h
      rw [this]; exact ⟨.one a,fun s hs => hs⟩
    | cons c cs =>
      obtain ⟨c0,c',rfl⟩ : ∃ x y,c = x :: y := by
        cases c with
        | nil => exact absurd rfl (grp_nonempty l [] (by rw [e]; exact List.mem_cons_self))
        | cons x y => exact ⟨x,y,rfl⟩
      have hl : ∃ l',l = c0 :: l' := ⟨c' ++ cs.flatten,by rw [← grp_flat l,e]; rfl⟩
      obtain ⟨l',rfl⟩ := hl
      have hac : wk a c0 := by cases hc with | cons r _ => exact r
      rw [e] at ih1 ih2
      have m0 := ih2 (c0 :: c') List.mem_cons_self
      rw [grp_cons e]
      by_cases h : slo c0 < shi a
      · rw [if_pos h]
        refine ⟨?_,fun c hc' => ?_⟩
        · cases cs with
          | nil => exact .one _
          | cons d ds =>
            cases ih1 with
            | cons q r => exact .cons (by rw [q,lsHi_cons]) r
        · rcases List.mem_cons.mp hc' with q | q
          · rw [q]
            refine ⟨.cons hac m0.1,fun s hs => ?_⟩
            rcases List.mem_cons.mp hs with z | z
            · rw [z]; exact List.mem_cons_self
            · exact List.mem_cons_of_mem _ (m0.2 s z)
          · have := ih2 c (List.mem_cons_of_mem _ q)
            exact ⟨this.1,fun s hs => List.mem_cons_of_mem _ (this.2 s hs)⟩
      · rw [if_neg h]
        refine ⟨.cons ?_ ih1,fun c hc' => ?_⟩
        · show slo c0 = shi a
          have := hac.2.2
          (first | ((try clear m0); omega) | omega)
        · rcases List.mem_cons.mp hc' with q | q
          · rw [q]; exact ⟨.one a,fun s hs => by rw [List.mem_singleton.mp hs]; exact List.mem_cons_self⟩
          · have := ih2 c q
            exact ⟨this.1,fun s hs => List.mem_cons_of_mem _ (this.2 s hs)⟩
noncomputable def meltG (cs : List (List Slot)) : List Slot := (cs.map fun c => allOf (shp c) c).flatten
theorem allOf_ne {c : List Slot} (h : c ≠ []) : allOf (shp c) c ≠ [] := by
  unfold allOf shp
  intro q
  exact h (by simpa using q)
theorem meltG_st : ∀ {cs : List (List Slot)},CC cs → (∀ c ∈ cs,c ≠ [] ∧ Ch wk c ∧ ∀ s ∈ c,slo s < shi s) →
    Ch st (meltG cs) ∧ (∀ s ∈ meltG cs,slo s < shi s) ∧ (∀ c r,cs = c :: r → ∃ h,(meltG cs).head? = some h ∧ slo h = hdLo c) ∧ (∀ c,cs.getLast? = some c → ∃ h,(meltG cs).getLast? = some h ∧ shi h = lsHi c)
  | [],_,_ => ⟨.nil,(fun _ h => nomatch h),(fun _ _ h => nomatch h),(fun _ h => nomatch h)⟩
  | c :: cs,hcc,hk => by
    obtain ⟨k1,k2,k3⟩ := hk c List.mem_cons_self
    have ce := ends k1 k2 k3
    have ea : ∀ s ∈ allOf (shp c) c,slo s = hdLo c ∧ shi s = lsHi c := fun s hs => allOf_mem hs
    have chain : ∀ (k : List Slot),(∀ s ∈ k,slo s = hdLo c ∧ shi s = lsHi c) → Ch st k := by
      intro k
      induction k with
      | nil => intro _; exact .nil
      | cons a k ih =>
        intro hk
        cases k with
        | nil => exact .one a
        | cons b k =>
          have q1 := hk a List.mem_cons_self
          have q2 := hk b (List.mem_cons_of_mem _ List.mem_cons_self)
          exact .cons (.inl ⟨by (first | ((try clear ce); omega) | omega),by (first | ((try clear ce); omega) | omega)⟩) (ih fun s hs => hk s (List.mem_cons_of_mem _ hs))
    have hne := allOf_ne k1
    obtain ⟨h0,eh0⟩ := exHead hne
    obtain ⟨z0,ez0⟩ := exLast hne
    have mh := ea h0 (headMem eh0)
    have mz := ea z0 (lastMem ez0)
    have em : meltG (c :: cs) = allOf (shp c) c ++ meltG cs := by unfold meltG; rw [List.map_cons,List.flatten_cons]
    have tailcc : CC cs := by
      cases hcc with
      | one => exact .nil
      | cons _ r => exact r
    obtain ⟨i1,i2,i3,i4⟩ := meltG_st tailcc fun d hd => hk d (List.mem_cons_of_mem _ hd)
    rw [em]
    refine ⟨Ch.app (chain _ ea) i1 fun x y e1 e2 => ?_,fun s hs => ?_,fun c' r e => ?_,fun c' e => ?_⟩
    · rw [ez0] at e1
      have p1 : z0 = x := Option.some.inj e1
      cases cs with
      | nil => cases e2
      | cons d ds =>
        obtain ⟨h,eh,q⟩ := i3 d ds rfl
        rw [eh] at e2
        have p2 : h = y := Option.some.inj e2
        cases hcc with
        | cons r _ => exact .inr (by rw [← p1,← p2,q,mz.2]; exact r)
    · rcases List.mem_append.mp hs with q | q
      · have := ea s q; omega
      · exact i2 s q
    · have : c = c' := (List.cons.inj e).1
      subst this
      refine ⟨h0,?_,mh.1⟩
      cases e' : allOf (shp c) c with
      | nil => exact absurd e' hne
      | cons x y => rw [e'] at eh0; exact eh0
    · cases cs with
      | nil =>
        have : c = c' := Option.some.inj e
        subst this
        refine ⟨z0,?_,mz.2⟩
        show (allOf (shp c) c ++ []).getLast? = some z0
        rw [List.append_nil]; exact ez0
      | cons d ds =>
        rw [List.getLast?_cons_cons] at e
        obtain ⟨h,eh,q⟩ := i4 c' e
        refine ⟨h,?_,q⟩
        rw [getLast?_app (by intro q'; rw [q'] at eh; cases eh)]
        exact eh
theorem flat_last {cs : List (List Slot)} {c : List Slot} (h : cs.getLast? = some c) (hc : c ≠ []) : cs.flatten.getLast? = c.getLast? := by
  obtain ⟨ys,rfl⟩ : ∃ ys,cs = ys ++ [c] := by
    have hne : cs ≠ [] := by intro q; rw [q] at h; cases h
    refine ⟨cs.dropLast,?_⟩
    have := List.dropLast_concat_getLast hne
    rw [List.getLast?_eq_some_getLast hne] at h
    rw [Option.some.inj h] at this
    exact this.symm
  rw [List.flatten_append,getLast?_app (by simpa using hc)]
  simp
theorem melt_sg {l : List Slot} {z n : Int} (h : Wk l z n) : Sg (melt l) z n ∧ (melt l = [] ↔ l = []) := by
  obtain ⟨c1,c2⟩ := grp_cc h.ch h.pos
  have hk : ∀ c ∈ grp l,c ≠ [] ∧ Ch wk c ∧ ∀ s ∈ c,slo s < shi s := fun c hc => ⟨grp_nonempty l c hc,(c2 c hc).1,fun s hs => h.pos s ((c2 c hc).2 s hs)⟩
  obtain ⟨i1,i2,i3,i4⟩ := meltG_st c1 hk
  have emp : melt l = [] ↔ l = [] := by
    constructor
    · intro e
      have := shp_melt l
      rw [e] at this
      exact List.map_eq_nil_iff.mp this.symm
    · rintro rfl; rfl
  refine ⟨⟨i2,i1,fun s e => ?_,fun s e => ?_⟩,emp⟩
  · cases hg : grp l with
    | nil =>
      have : l = [] := by rw [← grp_flat l,hg]; rfl
      rw [emp.mpr this] at e; cases e
    | cons c r =>
      obtain ⟨h0,eh,q⟩ := i3 c r hg
      have e' : (meltG (grp l)).head? = some s := e
      rw [eh] at e'
      rw [← Option.some.inj e',q]
      obtain ⟨x,ex⟩ := exHead (hk c (by rw [hg]; exact List.mem_cons_self)).1
      rw [hdLo_of ex]
      refine h.fst x ?_
      rw [← grp_flat l,hg,List.flatten_cons]
      cases c with
      | nil => cases ex
      | cons _ _ => exact ex
  · by_cases hl : grp l = []
    · have : l = [] := by rw [← grp_flat l,hl]; rfl
      rw [emp.mpr this] at e; cases e
    · obtain ⟨c,ec⟩ := exLast hl
      obtain ⟨h0,eh,q⟩ := i4 c ec
      have e' : (meltG (grp l)).getLast? = some s := e
      rw [eh] at e'
      rw [← Option.some.inj e',q]
      have hcne := (hk c (lastMem ec)).1
      obtain ⟨x,ex⟩ := exLast hcne
      rw [lsHi_of ex]
      refine h.lst x ?_
      rw [← grp_flat l,flat_last ec hcne]; exact ex
theorem first_sg (row : List Int) : Sg (firstSlots row) 0 (row.length : Int) := by
  have key : ∀ (row : List Int) (k : Nat),Ch st (row.mapIdx fun i s => (s,((i + k : Nat) : Int),((i + k : Nat) : Int) + 1)) := by
    intro row
    induction row with
    | nil => intro k; exact .nil
    | cons a row ih =>
      intro k
      rw [List.mapIdx_cons]
      have h := ih (k + 1)
      have e : (row.mapIdx fun i s => (s,((i + (k + 1) : Nat) : Int),((i + (k + 1) : Nat) : Int) + 1)) = row.mapIdx fun i s => (s,((i + 1 + k : Nat) : Int),((i + 1 + k : Nat) : Int) + 1) := by
        congr 1
        funext i s
        rw [show i + (k + 1) = i + 1 + k by omega]
      rw [e] at h
      cases row with
      | nil => exact .one _
      | cons b row =>
        rw [List.mapIdx_cons] at h ⊢
        refine .cons (.inr ?_) h
        show (((0 + 1 + k : Nat) : Int)) = ((0 + k : Nat) : Int) + 1
        omega
  refine ⟨fun s hs => ?_,key row 0,fun s e => ?_,fun s e => ?_⟩
  · unfold firstSlots at hs
    obtain ⟨i,hi,q⟩ := List.mem_mapIdx.mp hs
    rw [← q]
    show (i : Int) < (i : Int) + 1
    (first | ((try clear hi); omega) | omega)
  · cases row with
    | nil => cases e
    | cons a row =>
      unfold firstSlots at e
      rw [List.mapIdx_cons] at e
      rw [← Option.some.inj e]; rfl
  · have hl : (firstSlots row).length = row.length := List.length_mapIdx
    rw [List.getLast?_eq_getElem?,hl] at e
    unfold firstSlots at e
    rw [List.getElem?_mapIdx] at e
    cases q : row[row.length - 1]? with
    | none => rw [q] at e; cases e
    | some x =>
      rw [q] at e
      have hlt := (List.getElem?_eq_some_iff.mp q).1
      rw [← Option.some.inj e]
      show ((row.length - 1 : Nat) : Int) + 1 = _
      omega
end Ink
namespace Ink
noncomputable def inside (l : List Slot) (p : Int) : Prop := ∃ s ∈ l,slo s < p ∧ p < shi s
noncomputable def ov (a b : Slot) : Prop := slo b < shi a
theorem grp_ov : ∀ (l : List Slot),∀ c ∈ grp l,Ch ov c
  | [],c,h => by cases h
  | a :: l,c,hm => by
    have ih := grp_ov l
    cases e : grp l with
    | nil =>
      have : l = [] := by rw [← grp_flat l,e]; rfl
      subst this
      have : c = [a] := List.mem_singleton.mp hm
      rw [this]; exact .one a
    | cons d cs =>
      obtain ⟨c0,c',rfl⟩ : ∃ x y,d = x :: y := by
        cases d with
        | nil => exact absurd rfl (grp_nonempty l [] (by rw [e]; exact List.mem_cons_self))
        | cons x y => exact ⟨x,y,rfl⟩
      rw [e] at ih
      rw [grp_cons e] at hm
      by_cases h : slo c0 < shi a
      · rw [if_pos h] at hm
        rcases List.mem_cons.mp hm with q | q
        · rw [q]; exact .cons h (ih _ List.mem_cons_self)
        · exact ih c (List.mem_cons_of_mem _ q)
      · rw [if_neg h] at hm
        rcases List.mem_cons.mp hm with q | q
        · rw [q]; exact .one a
        · exact ih c q
theorem ov_in : ∀ {c : List Slot} {p : Int},Ch ov c → hdLo c < p → p < lsHi c → c ≠ [] → ∃ s ∈ c,slo s < p ∧ p < shi s
  | [],_,_,_,_,h => absurd rfl h
  | [a],p,_,h1,h2,_ => ⟨a,List.mem_cons_self,h1,h2⟩
  | a :: b :: c,p,h,h1,h2,_ => by
    cases h with
    | cons r h =>
      by_cases q : p < shi a
      · exact ⟨a,List.mem_cons_self,h1,q⟩
      · rw [lsHi_cons] at h2
        have r' : slo b < shi a := r
        obtain ⟨s,hs,z⟩ := ov_in h (show slo b < p by (first | ((try clear h2); (try clear h1); omega) | omega)) h2 (by simp)
        exact ⟨s,List.mem_cons_of_mem _ hs,z⟩
theorem cc_mono : ∀ {cs : List (List Slot)} {c : List Slot},CC (c :: cs) → (∀ d ∈ c :: cs,d ≠ [] ∧ Ch wk d ∧ ∀ s ∈ d,slo s < shi s) → ∀ d ∈ cs,lsHi c ≤ hdLo d
  | [],_,_,_,d,h => by cases h
  | e :: cs,c,hcc,hk,d,h => by
    cases hcc with
    | cons r hcc =>
      obtain ⟨k1,k2,k3⟩ := hk e (List.mem_cons_of_mem _ List.mem_cons_self)
      have := (ends k1 k2 k3).1
      rcases List.mem_cons.mp h with q | q
      · rw [q]; (first | ((try clear this); omega) | omega)
      · have := cc_mono hcc (fun x hx => hk x (List.mem_cons_of_mem _ hx)) d q
        omega
theorem no_inside : ∀ {cs : List (List Slot)},CC cs → (∀ d ∈ cs,d ≠ [] ∧ Ch wk d ∧ ∀ s ∈ d,slo s < shi s) → ∀ c ∈ cs,∀ s ∈ cs.flatten,¬ (slo s < hdLo c ∧ hdLo c < shi s) ∧ ¬ (slo s < lsHi c ∧ lsHi c < shi s)
  | [],_,_,c,h,_,_ => by cases h
  | e :: cs,hcc,hk,c,hc,s,hs => by
    obtain ⟨k1,k2,k3⟩ := hk e List.mem_cons_self
    have he := ends k1 k2 k3
    have mono := cc_mono hcc hk
    have tailcc : CC cs := by
      cases hcc with
      | one => exact .nil
      | cons _ r => exact r
    have ih := no_inside tailcc fun d hd => hk d (List.mem_cons_of_mem _ hd)
    rw [List.flatten_cons] at hs
    rcases List.mem_append.mp hs with hs1 | hs2
    · have b := he.2 s hs1
      rcases List.mem_cons.mp hc with q | q
      · rw [q]; exact ⟨by (first | ((try clear he); omega) | omega),by (first | ((try clear he); omega) | omega)⟩
      · have := mono c q
        obtain ⟨j1,j2,j3⟩ := hk c (List.mem_cons_of_mem _ q)
        have := (ends j1 j2 j3).1
        exact ⟨by (first | ((try clear he); omega) | omega),by (first | ((try clear he); omega) | omega)⟩
    · rcases List.mem_cons.mp hc with q | q
      · obtain ⟨d,hd,hsd⟩ := List.mem_flatten.mp hs2
        obtain ⟨j1,j2,j3⟩ := hk d (List.mem_cons_of_mem _ hd)
        have := (ends j1 j2 j3).2 s hsd
        have := mono d hd
        rw [q]
        exact ⟨by omega,by (first | ((try clear he); omega) | omega)⟩
      · exact ih c q s hs2
theorem chain_facts {l : List Slot} (h : Ch wk l) (hp : ∀ s ∈ l,slo s < shi s) : ∀ c ∈ grp l,¬ inside l (hdLo c) ∧ ¬ inside l (lsHi c) ∧ (∀ p,hdLo c < p → p < lsHi c → inside l p) ∧ hdLo c < lsHi c ∧ ∀ s ∈ c,hdLo c ≤ slo s ∧ shi s ≤ lsHi c := by
  intro c hc
  obtain ⟨c1,c2⟩ := grp_cc h hp
  have hk : ∀ c ∈ grp l,c ≠ [] ∧ Ch wk c ∧ ∀ s ∈ c,slo s < shi s := fun c hc => ⟨grp_nonempty l c hc,(c2 c hc).1,fun s hs => hp s ((c2 c hc).2 s hs)⟩
  have ni := no_inside c1 hk c hc
  rw [grp_flat] at ni
  obtain ⟨k1,k2,k3⟩ := hk c hc
  have he := ends k1 k2 k3
  refine ⟨fun ⟨s,hs,q⟩ => (ni s hs).1 q,fun ⟨s,hs,q⟩ => (ni s hs).2 q,fun p h1 h2 => ?_,he.1,he.2⟩
  obtain ⟨s,hs,q⟩ := ov_in (grp_ov l c hc) h1 h2 k1
  exact ⟨s,(c2 c hc).2 s hs,q⟩
theorem meltG_at : ∀ (cs : List (List Slot)) (k : Nat) (s : Slot),cs.flatten[k]? = some s → ∃ c ∈ cs,s ∈ c ∧ (meltG cs)[k]? = some (s.1,hdLo c,lsHi c)
  | [],k,s,h => by simp at h
  | c :: cs,k,s,h => by
    have el : (allOf (shp c) c).length = c.length := by unfold allOf shp; simp
    have em : meltG (c :: cs) = allOf (shp c) c ++ meltG cs := by unfold meltG; rw [List.map_cons,List.flatten_cons]
    rw [List.flatten_cons] at h
    by_cases hk : k < c.length
    · rw [List.getElem?_append_left hk] at h
      refine ⟨c,List.mem_cons_self,List.mem_of_getElem? h,?_⟩
      rw [em,List.getElem?_append_left (by rw [el]; exact hk)]
      unfold allOf shp
      rw [List.map_map,List.getElem?_map,h]
      rfl
    · rw [List.getElem?_append_right (by (first | ((try clear el); omega) | omega))] at h
      obtain ⟨d,hd,hs,q⟩ := meltG_at cs _ s h
      refine ⟨d,List.mem_cons_of_mem _ hd,hs,?_⟩
      rw [em,List.getElem?_append_right (by omega),el]
      exact q
theorem melt_at {l : List Slot} {k : Nat} {s : Slot} (h : l[k]? = some s) : ∃ c ∈ grp l,s ∈ c ∧ (melt l)[k]? = some (s.1,hdLo c,lsHi c) := by
  rw [← grp_flat l] at h
  exact meltG_at (grp l) k s h
theorem melt_len (l : List Slot) : (melt l).length = l.length := by
  have := congrArg List.length (shp_melt l)
  unfold shp at this
  rw [List.length_map,List.length_map] at this
  exact this
theorem allOf_at {g : List Int} {slots : List Slot} {p t : Nat} {a z : Slot} (h1 : 1 ≤ t) (ha : slots[p]? = some a) (hz : slots[p + t - 1]? = some z) : allOf g ((slots.drop p).take t) = g.map fun s => (s,slo a,shi z) := by
  have hzl := (List.getElem?_eq_some_iff.mp hz).1
  have e1 : ((slots.drop p).take t).head? = some a := by
    rw [List.head?_take,if_neg (by (first | ((try clear hzl); omega) | omega)),List.head?_drop]; exact ha
  have e2 : ((slots.drop p).take t).getLast? = some z := by
    rw [List.getLast?_eq_getElem?,List.length_take,List.length_drop,List.getElem?_take_of_lt (by (first | ((try clear hzl); omega) | omega)),List.getElem?_drop]
    rw [Nat.min_eq_left (by omega),show p + (t - 1) = p + t - 1 by (first | ((try clear hzl); omega) | omega)]; exact hz
  unfold allOf
  rw [e1,e2]
  rfl
noncomputable def setRow (passes : List (List Rule)) (row : List Int) : List Slot := passes.foldl (fun slots rules => melt (passedSlots rules slots)) (firstSlots row)
noncomputable def PassesOk (passes : List (List Rule)) : Prop := ∀ rules ∈ passes,RulesOk rules
theorem RulesOk.gv {rules : List Rule} (h : RulesOk rules) : ∀ j,j < rules.length → gv rules j ≠ [] := fun j hj => by
  have e : rules[j]? = some rules[j] := List.getElem?_eq_getElem hj
  rw [gv_of e]
  have := (h rules[j] (List.getElem_mem hj)).2.2.2.2.1
  intro q
  rw [q] at this
  simp at this
theorem step_sg {rules : List Rule} {slots : List Slot} {z n : Int} (h : Sg slots z n) (ok : RulesOk rules) : Sg (melt (passedSlots rules slots)) z n ∧ (melt (passedSlots rules slots) = [] ↔ slots = []) := by
  obtain ⟨w,e⟩ := passed_wk h.wk ok.gv
  obtain ⟨s,e'⟩ := melt_sg w
  exact ⟨s,e'.trans e⟩
theorem setRow_sg {passes : List (List Rule)} (ok : PassesOk passes) (row : List Int) : Sg (setRow passes row) 0 (row.length : Int) ∧ (setRow passes row = [] ↔ row = []) := by
  unfold setRow
  have key : ∀ (ps : List (List Rule)) (sl : List Slot),PassesOk ps → Sg sl 0 (row.length : Int) → (sl = [] ↔ row = []) →
      Sg (ps.foldl (fun slots rules => melt (passedSlots rules slots)) sl) 0 (row.length : Int) ∧ (ps.foldl (fun slots rules => melt (passedSlots rules slots)) sl = [] ↔ row = []) := by
    intro ps
    induction ps with
    | nil => intro sl _ h e; exact ⟨h,e⟩
    | cons r ps ih =>
      intro sl hp h e
      obtain ⟨q1,q2⟩ := step_sg h (hp r List.mem_cons_self)
      exact ih _ (fun x hx => hp x (List.mem_cons_of_mem _ hx)) q1 (q2.trans e)
  refine key passes _ ok (first_sg row) ?_
  unfold firstSlots
  simp
theorem gv_len {rules : List Rule} (h : RulesOk rules) : ∀ j,(gv rules j).length ≤ 3 := fun j => by
  unfold gv
  cases e : rules[j]? with
  | none => simp
  | some r => exact (h r (List.mem_of_getElem? e)).2.2.2.2.2
theorem passed_len {rules : List Rule} {slots : List Slot} (ok : RulesOk rules) : (passedSlots rules slots).length ≤ 3 * slots.length := by
  have e : (passedSlots rules slots).length = (shp (passedSlots rules slots)).length := (List.length_map _).symm
  unfold passedSlots at e ⊢
  rw [e,shp_psl]
  have al := doer_along (rules := rules) (sh := shp slots) _ 0 (Nat.le_refl _)
  have := prow_len (gv_len ok) rfl al
  have q : (shp slots).length = slots.length := List.length_map _
  (first | ((try clear e); omega) | omega)
end Ink
namespace Ink
noncomputable def crossD (rules : List Rule) (slots : List Slot) (d : Nat × Nat) (p : Int) : Prop :=
  ∃ r a z,rules[d.2]? = some r ∧ slots[d.1 - r.b.length]? = some a ∧ slots[d.1 + r.t.length + r.a.length - 1]? = some z ∧ slo a < p ∧ p < shi z
theorem fitB_iff {r : Rule} {sh : List Int} {k : Nat} : fitB r sh k = true ↔ r.t ≠ [] ∧ r.b.length ≤ k ∧ (sh.drop (k - r.b.length)).take (r.b ++ r.t ++ r.a).length = r.b ++ r.t ++ r.a := by
  constructor
  · intro h
    have ht : r.t ≠ [] := by
      intro q
      exact (fit_take h).2 (by rw [q]; rfl)
    rw [fit_eq r sh k ht] at h
    unfold fitL at h
    simp only [Bool.and_eq_true,decide_eq_true_eq] at h
    exact ⟨ht,h.1,h.2⟩
  · rintro ⟨ht,h1,h2⟩
    rw [fit_eq r sh k ht]
    unfold fitL
    simp only [Bool.and_eq_true,decide_eq_true_eq]
    exact ⟨h1,h2⟩
theorem fit_room {r : Rule} {sh : List Int} {k : Nat} (h : fitB r sh k = true) : r.b.length ≤ k ∧ 1 ≤ r.t.length ∧ k + r.t.length + r.a.length ≤ sh.length := by
  obtain ⟨ht,h1,h2⟩ := fitB_iff.mp h
  have h3 := congrArg List.length h2
  rw [List.length_take,List.length_drop] at h3
  simp only [List.length_append] at h3
  have h4 := Nat.le_trans (Nat.le_of_eq h3.symm) (Nat.min_le_right _ _)
  clear h3 h2
  have h5 : 1 ≤ r.t.length := by
    cases e : r.t with
    | nil => exact absurd e ht
    | cons _ _ => simp
  (first | ((try clear h3); omega) | omega)
theorem take_left {α : Type} {l m : List α} {i n : Nat} (h : i + n ≤ l.length) : ((l ++ m).drop i).take n = (l.drop i).take n := by
  rw [List.drop_append_of_le_length (by omega),List.take_append_of_le_length (by rw [List.length_drop]; omega)]
theorem drop_right {α : Type} {l m : List α} {i : Nat} (h : l.length ≤ i) : (l ++ m).drop i = m.drop (i - l.length) := by
  rw [List.drop_append,List.drop_of_length_le h,List.nil_append]
theorem fit_left {r : Rule} {l m : List Int} {k : Nat} (h : k + r.t.length + r.a.length ≤ l.length) : fitB r (l ++ m) k = fitB r l k := by
  rw [Bool.eq_iff_iff,fitB_iff,fitB_iff]
  constructor
  · rintro ⟨h0,h1,h2⟩
    refine ⟨h0,h1,?_⟩
    rw [take_left (by simp only [List.length_append]; omega)] at h2
    exact h2
  · rintro ⟨h0,h1,h2⟩
    refine ⟨h0,h1,?_⟩
    rw [take_left (by simp only [List.length_append]; omega)]
    exact h2
theorem fit_left' {r : Rule} {l m : List Int} {k : Nat} (h : fitB r l k = true) : fitB r (l ++ m) k = true := by
  rw [fit_left (fit_room h).2.2]; exact h
theorem fit_right {r : Rule} {l m : List Int} {k : Nat} (h : r.b.length ≤ k) : fitB r (l ++ m) (l.length + k) = fitB r m k := by
  rw [Bool.eq_iff_iff,fitB_iff,fitB_iff]
  rw [drop_right (by omega),show l.length + k - r.b.length - l.length = k - r.b.length by omega]
  constructor
  · rintro ⟨h0,h1,h2⟩; exact ⟨h0,h,h2⟩
  · rintro ⟨h0,h1,h2⟩; exact ⟨h0,by (first | ((try clear h1); omega) | omega),h2⟩
theorem fit_right' {r : Rule} {l m : List Int} {k : Nat} (h : fitB r m k = true) : fitB r (l ++ m) (l.length + k) = true := by
  rw [fit_right (fit_room h).1]; exact h
theorem first_same {rules : List Rule} {l m : List Int} {k k' j : Nat} (e : firstFit rules l k = some j) (hj : ∀ r,rules[j]? = some r → fitB r m k' = true) (hs : ∀ r,fitB r m k' = true → fitB r l k = true) : firstFit rules m k' = some j := by
  unfold firstFit at e ⊢
  rw [List.findIdx?_eq_some_iff_getElem] at e ⊢
  obtain ⟨h,p,q⟩ := e
  refine ⟨h,hj _ (List.getElem?_eq_getElem h),fun i hi => ?_⟩
  intro z
  exact q i hi (hs _ z)
theorem first_none {rules : List Rule} {l m : List Int} {k k' : Nat} (e : firstFit rules l k = none) (hs : ∀ r,fitB r m k' = true → fitB r l k = true) : firstFit rules m k' = none := by
  unfold firstFit at e ⊢
  rw [List.findIdx?_eq_none_iff] at e ⊢
  intro r hr
  cases z : fitB r m k' with
  | false => rfl
  | true => have := e r hr; rw [hs r z] at this; cases this
noncomputable def sh1 (n : Nat) (ds : List (Nat × Nat)) : List (Nat × Nat) := ds.map fun d => (n + d.1,d.2)
theorem doer_right {rules : List Rule} {l m : List Int} : ∀ (n k : Nat),m.length - k ≤ n →
    (∀ d ∈ doer rules (l ++ m) (l.length + k),∀ r,rules[d.2]? = some r → l.length ≤ d.1 - r.b.length) → doer rules (l ++ m) (l.length + k) = sh1 l.length (doer rules m k)
  | 0,k,h,_ => by rw [doer_end (by rw [List.length_append]; omega),doer_end (by omega)]; rfl
  | n + 1,k,h,hc => by
    by_cases hk : k < m.length
    · have hk' : l.length + k < (l ++ m).length := by rw [List.length_append]; (first | ((try clear h); omega) | omega)
      cases e : firstFit rules (l ++ m) (l.length + k) with
      | none =>
        have e' : firstFit rules m k = none := first_none e fun r q => fit_right' q
        rw [doer_none hk' e] at hc ⊢
        rw [doer_none hk e']
        exact doer_right n (k + 1) (by (first | ((try clear hk'); omega) | omega)) hc
      | some j =>
        obtain ⟨h1,h2,h3⟩ := first_fits e
        obtain ⟨r,hr,hf⟩ := first_some e
        rw [doer_some hk' e h1] at hc ⊢
        have hcr := hc _ List.mem_cons_self r hr
        have hb : r.b.length ≤ k := by
          have := (fit_room hf).1
          have hcr' : l.length ≤ l.length + k - r.b.length := hcr
          (first | ((try clear hcr); (try clear h3); (try clear h2); (try clear h1); (try clear hk'); (try clear hk); (try clear h); omega) | omega)
        have e' : firstFit rules m k = some j := first_same e (fun r' hr' => by
          rw [hr] at hr'
          rw [← Option.some.inj hr',← fit_right (l := l) hb]; exact hf) fun r q => fit_right' q
        rw [doer_some hk e' h1]
        have := doer_right (rules := rules) (l := l) (m := m) n (k + tl rules j) (by (first | ((try clear hcr); (try clear h3); (try clear h2); (try clear hk'); omega) | omega)) (by rw [← Nat.add_assoc]; exact fun d hd => hc d (List.mem_cons_of_mem _ hd))
        rw [← Nat.add_assoc] at this
        rw [this]
        rfl
    · rw [doer_end (by rw [List.length_append]; (first | ((try clear h); omega) | omega)),doer_end (by (first | ((try clear h); omega) | omega))]; rfl
theorem doer_split {rules : List Rule} {l m : List Int} : ∀ (n k : Nat),l.length - k ≤ n → k ≤ l.length →
    (∀ d ∈ doer rules (l ++ m) k,∀ r,rules[d.2]? = some r → l.length ≤ d.1 - r.b.length ∨ d.1 + r.t.length + r.a.length ≤ l.length) → doer rules (l ++ m) k = doer rules l k ++ sh1 l.length (doer rules m 0) := by
  have right : (∀ d ∈ doer rules (l ++ m) l.length,∀ r,rules[d.2]? = some r → l.length ≤ d.1 - r.b.length ∨ d.1 + r.t.length + r.a.length ≤ l.length) → doer rules (l ++ m) l.length = doer rules l l.length ++ sh1 l.length (doer rules m 0) := by
    intro hc
    rw [doer_end (rules := rules) (sh := l) (Nat.le_refl _),List.nil_append]
    refine doer_right (l := l) _ 0 (Nat.le_refl _) fun d hd r hr => ?_
    have al := doer_along (rules := rules) (sh := l ++ m) _ l.length (Nat.le_refl _)
    have ge : ∀ {ds : List (Nat × Nat)} {k : Nat},Along rules (l ++ m).length k ds → ∀ d ∈ ds,k ≤ d.1 ∧ 1 ≤ tl rules d.2 := by
      intro ds k h
      induction h with
      | nil => intro d hd; cases hd
      | cons h1 h2 h3 h4 h5 ih =>
        intro d hd
        rcases List.mem_cons.mp hd with q | q
        · rw [q]; exact ⟨h1,h2⟩
        · have := ih d q; exact ⟨by (first | ((try clear h4); (try clear h3); omega) | omega),this.2⟩
    have g := ge al d hd
    rcases hc d hd r hr with q | q
    · exact q
    · rw [tl_of hr] at g; omega
  intro n
  induction n with
  | zero =>
    intro k h hk hc
    have : k = l.length := by omega
    subst this
    exact right hc
  | succ n ih =>
    intro k h hk hc
    by_cases hlt : k < l.length
    · have hk' : k < (l ++ m).length := by rw [List.length_append]; (first | ((try clear hk); (try clear h); omega) | omega)
      cases e : firstFit rules (l ++ m) k with
      | none =>
        have e' : firstFit rules l k = none := first_none e fun r q => fit_left' q
        rw [doer_none hk' e] at hc ⊢
        rw [doer_none hlt e']
        exact ih (k + 1) (by (first | ((try clear hk'); (try clear hk); omega) | omega)) (by (first | ((try clear hk'); (try clear hk); (try clear h); omega) | omega)) hc
      | some j =>
        obtain ⟨h1,h2,h3⟩ := first_fits e
        obtain ⟨r,hr,hf⟩ := first_some e
        rw [doer_some hk' e h1] at hc ⊢
        have hroom : k + r.t.length + r.a.length ≤ l.length := by
          rcases hc _ List.mem_cons_self r hr with q | q
          · have q' : l.length ≤ k - r.b.length := q
            (first | ((try clear q); (try clear h3); (try clear h2); (try clear h1); (try clear hk'); (try clear hk); (try clear h); omega) | omega)
          · exact q
        have e' : firstFit rules l k = some j := first_same e (fun r' hr' => by
          rw [hr] at hr'
          rw [← Option.some.inj hr',← fit_left (m := m) hroom]; exact hf) fun r q => fit_left' q
        rw [doer_some hlt e' h1,ih (k + tl rules j) (by (first | ((try clear hroom); (try clear h3); (try clear h2); (try clear hk'); (try clear hk); omega) | omega)) (by rw [tl_of hr]; (first | ((try clear h3); (try clear h2); (try clear h1); (try clear hk'); (try clear hlt); (try clear hk); (try clear h); omega) | omega)) fun d hd => hc d (List.mem_cons_of_mem _ hd)]
        rfl
    · have : k = l.length := by (first | ((try clear h); omega) | omega)
      subst this
      exact right hc
theorem psl_cons (rules : List Rule) (slots : List Slot) (p j : Nat) (ds : List (Nat × Nat)) (r : Nat) : psl rules slots ((p,j) :: ds) r = (slots.drop r).take (p - r) ++ (allOf (gv rules j) ((slots.drop p).take (tl rules j)) ++ psl rules slots ds (p + tl rules j)) := rfl
theorem psl_right {rules : List Rule} {l m : List Slot} : ∀ (ds : List (Nat × Nat)) (r : Nat),l.length ≤ r → psl rules (l ++ m) (sh1 l.length ds) r = psl rules m ds (r - l.length)
  | [],r,h => by unfold sh1 psl; exact drop_right h
  | (p,j) :: ds,r,h => by
    have ih := psl_right (rules := rules) (l := l) (m := m) ds (l.length + p + tl rules j) (by (first | ((try clear h); omega) | omega))
    show psl rules (l ++ m) ((l.length + p,j) :: sh1 l.length ds) r = _
    unfold psl
    rw [ih,drop_right h,drop_right (by (first | ((try clear h); omega) | omega)),show l.length + p - l.length = p by (first | ((try clear h); omega) | omega),show l.length + p - r = p - (r - l.length) by omega,show l.length + p + tl rules j - l.length = p + tl rules j by (first | ((try clear h); omega) | omega)]
theorem psl_join {rules : List Rule} {l m : List Slot} : ∀ (ds : List (Nat × Nat)) (r : Nat),r ≤ l.length → psl rules (l ++ m) (sh1 l.length ds) r = l.drop r ++ psl rules m ds 0
  | [],r,h => by unfold sh1 psl; rw [List.drop_zero]; exact List.drop_append_of_le_length h
  | (p,j) :: ds,r,h => by
    have ih := psl_right (rules := rules) (l := l) (m := m) ds (l.length + p + tl rules j) (by (first | ((try clear h); omega) | omega))
    show psl rules (l ++ m) ((l.length + p,j) :: sh1 l.length ds) r = _
    unfold psl
    rw [ih,drop_right (i := l.length + p) (by (first | ((try clear h); omega) | omega)),List.drop_append_of_le_length h,show l.length + p - l.length = p by (first | ((try clear h); omega) | omega),show l.length + p + tl rules j - l.length = p + tl rules j by (first | ((try clear h); omega) | omega)]
    rw [show l.length + p - r = (l.drop r).length + p by rw [List.length_drop]; omega,List.take_length_add_append,List.append_assoc,List.drop_zero,Nat.sub_zero]
theorem psl_split {rules : List Rule} {l m : List Slot} {es : List (Nat × Nat)} : ∀ {ds : List (Nat × Nat)} {r : Nat},Along rules l.length r ds → r ≤ l.length → psl rules (l ++ m) (ds ++ sh1 l.length es) r = psl rules l ds r ++ psl rules m es 0 := by
  intro ds r h
  induction h with
  | @nil k => intro hk; rw [List.nil_append,psl_join es k hk]; rfl
  | @cons k p j ds h1 h2 h3 h4 h5 ih =>
    intro hk
    show psl rules (l ++ m) ((p,j) :: (ds ++ sh1 l.length es)) k = _
    rw [psl_cons,psl_cons,ih h3,take_left (by (first | ((try clear hk); (try clear h4); omega) | omega)),take_left h3,List.append_assoc,List.append_assoc]
theorem grp_app {b0 : Slot} {B' : List Slot} : ∀ (A : List Slot),(∀ z,A.getLast? = some z → shi z ≤ slo b0) → grp (A ++ b0 :: B') = grp A ++ grp (b0 :: B')
  | [],_ => rfl
  | [a],h => by
    have ha : shi a ≤ slo b0 := h a rfl
    show grp (a :: b0 :: B') = [a] :: grp (b0 :: B')
    cases e : grp (b0 :: B') with
    | nil => exact absurd e (grp_ne (by simp))
    | cons c cs =>
      obtain ⟨c',rfl⟩ : ∃ y,c = b0 :: y := by
        have f := grp_flat (b0 :: B')
        rw [e,List.flatten_cons] at f
        cases c with
        | nil => exact absurd rfl (grp_nonempty (b0 :: B') [] (by rw [e]; exact List.mem_cons_self))
        | cons x y => exact ⟨y,by rw [(List.cons.inj f).1]⟩
      rw [grp_cons e,if_neg (by omega)]
  | a :: a' :: A,h => by
    have ih := grp_app (b0 := b0) (B' := B') (a' :: A) fun z q => h z (by rw [List.getLast?_cons_cons]; exact q)
    show grp (a :: (a' :: A ++ b0 :: B')) = _
    cases e : grp (a' :: A) with
    | nil => exact absurd e (grp_ne (by simp))
    | cons c cs =>
      obtain ⟨c0,c',rfl⟩ : ∃ x y,c = x :: y := by
        cases c with
        | nil => exact absurd rfl (grp_nonempty (a' :: A) [] (by rw [e]; exact List.mem_cons_self))
        | cons x y => exact ⟨x,y,rfl⟩
      rw [e] at ih
      rw [grp_cons e,grp_cons (l := a' :: A ++ b0 :: B') (c0 := c0) (c' := c') (cs := cs ++ grp (b0 :: B')) ih]
      by_cases q : slo c0 < shi a
      · rw [if_pos q,if_pos q]; rfl
      · rw [if_neg q,if_neg q]; rfl
theorem melt_app {A B : List Slot} {p : Int} (hA : ∀ z,A.getLast? = some z → shi z ≤ p) (hB : ∀ b,B.head? = some b → p ≤ slo b) : melt (A ++ B) = melt A ++ melt B := by
  cases B with
  | nil => rw [List.append_nil]; show _ = melt A ++ []; rw [List.append_nil]
  | cons b0 B' =>
    unfold melt
    rw [grp_app A fun z q => by have := hA z q; have := hB b0 rfl; omega,List.map_append,List.flatten_append]
theorem Wk.hi {l : List Slot} {z n : Int} (h : Wk l z n) : ∀ s ∈ l,shi s ≤ n := fun s hs => by
  obtain ⟨e,he⟩ := exLast (List.ne_nil_of_mem hs)
  rw [← h.lst e he]
  exact (h.ch.last he s hs).2
theorem Wk.lo {l : List Slot} {z n : Int} (h : Wk l z n) : ∀ s ∈ l,z ≤ slo s := fun s hs => by
  obtain ⟨e,he⟩ := exHead (List.ne_nil_of_mem hs)
  obtain ⟨l',rfl⟩ : ∃ l',l = e :: l' := by
    cases l with
    | nil => cases hs
    | cons x y => exact ⟨y,by rw [Option.some.inj he]⟩
  rw [← h.fst e rfl]
  exact (h.ch.first s hs).1
theorem step_split {rules : List Rule} {L R : List Slot} {z p n : Int} (hL : Sg L z p) (hR : Sg R p n) (ok : RulesOk rules) (hc : ∀ d ∈ doer rules (shp (L ++ R)) 0,¬ crossD rules (L ++ R) d p) :
    melt (passedSlots rules (L ++ R)) = melt (passedSlots rules L) ++ melt (passedSlots rules R) := by
  have es : shp (L ++ R) = shp L ++ shp R := by unfold shp; exact List.map_append
  have el : (shp L).length = L.length := List.length_map _
  have hd : doer rules (shp L ++ shp R) 0 = doer rules (shp L) 0 ++ sh1 (shp L).length (doer rules (shp R) 0) := by
    refine doer_split _ 0 (Nat.le_refl _) (Nat.zero_le _) fun d hd r hr => ?_
    rw [← es] at hd
    have nc := hc d hd
    by_cases q1 : (shp L).length ≤ d.1 - r.b.length
    · exact .inl q1
    · by_cases q2 : d.1 + r.t.length + r.a.length ≤ (shp L).length
      · exact .inr q2
      · exfalso
        refine nc ?_
        have fits : fitB r (shp (L ++ R)) d.1 = true := by
          have all : ∀ (m k : Nat),(shp (L ++ R)).length - k ≤ m → ∀ d ∈ doer rules (shp (L ++ R)) k,firstFit rules (shp (L ++ R)) d.1 = some d.2 := by
            intro m
            induction m with
            | zero => intro k hk d hd; rw [doer_end (by (first | ((try clear q2); (try clear q1); (try clear nc); (try clear el); omega) | omega))] at hd; cases hd
            | succ m ih =>
              intro k hk d hd
              by_cases hlt : k < (shp (L ++ R)).length
              · cases e : firstFit rules (shp (L ++ R)) k with
                | none => rw [doer_none hlt e] at hd; exact ih (k + 1) (by (first | ((try clear q2); (try clear q1); (try clear nc); (try clear el); omega) | omega)) d hd
                | some j =>
                  obtain ⟨h1,_,_⟩ := first_fits e
                  rw [doer_some hlt e h1] at hd
                  rcases List.mem_cons.mp hd with q | q
                  · rw [q]; exact e
                  · exact ih _ (by (first | ((try clear q2); (try clear q1); (try clear nc); (try clear el); omega) | omega)) d q
              · rw [doer_end (by (first | ((try clear hk); (try clear q2); (try clear q1); (try clear nc); (try clear el); omega) | omega))] at hd; cases hd
          obtain ⟨r',hr',hf⟩ := first_some (all _ 0 (Nat.le_refl _) d hd)
          rw [hr] at hr'
          rw [Option.some.inj hr']; exact hf
        obtain ⟨f1,f2,f3⟩ := fit_room fits
        rw [es,List.length_append,el,show (shp R).length = R.length from List.length_map _] at f3
        rw [el] at q1 q2
        have i1 : d.1 - r.b.length < L.length := by (first | ((try clear f3); (try clear f2); (try clear f1); (try clear q2); (try clear nc); (try clear el); omega) | omega)
        have i2 : L.length ≤ d.1 + r.t.length + r.a.length - 1 := by (first | ((try clear i1); (try clear f3); (try clear q1); (try clear nc); (try clear el); omega) | omega)
        have i3 : d.1 + r.t.length + r.a.length - 1 - L.length < R.length := by (first | ((try clear i2); (try clear i1); (try clear f2); (try clear f1); (try clear q1); (try clear nc); (try clear el); omega) | omega)
        refine ⟨r,L[d.1 - r.b.length],R[d.1 + r.t.length + r.a.length - 1 - L.length],hr,?_,?_,?_,?_⟩
        · rw [List.getElem?_append_left i1,List.getElem?_eq_getElem i1]
        · rw [List.getElem?_append_right i2,List.getElem?_eq_getElem i3]
        · have := hL.pos _ (List.getElem_mem i1)
          have := hL.wk.hi _ (List.getElem_mem i1)
          (first | ((try clear i3); (try clear i2); (try clear f3); (try clear f2); (try clear f1); (try clear q2); (try clear q1); (try clear nc); (try clear el); omega) | omega)
        · have := hR.pos _ (List.getElem_mem i3)
          have := hR.wk.lo _ (List.getElem_mem i3)
          (first | ((try clear i2); (try clear i1); (try clear f3); (try clear f2); (try clear f1); (try clear q2); (try clear q1); (try clear nc); (try clear el); omega) | omega)
  have hp : passedSlots rules (L ++ R) = passedSlots rules L ++ passedSlots rules R := by
    unfold passedSlots
    rw [es,hd,el]
    have al := doer_along (rules := rules) (sh := shp L) _ 0 (Nat.le_refl _)
    rw [el] at al
    exact psl_split al (Nat.zero_le _)
  rw [hp]
  have wL := (passed_wk hL.wk ok.gv).1
  have wR := (passed_wk hR.wk ok.gv).1
  exact melt_app (p := p) (fun s e => by rw [wL.lst s e]; exact Int.le_refl _) fun s e => by rw [wR.fst s e]; exact Int.le_refl _
noncomputable def setFrom (passes : List (List Rule)) (sl : List Slot) : List Slot := passes.foldl (fun slots rules => melt (passedSlots rules slots)) sl
noncomputable def noCross : List (List Rule) → List Slot → Int → Prop
  | [],_,_ => True
  | rules :: ps,sl,p => (∀ d ∈ doer rules (shp sl) 0,¬ crossD rules sl d p) ∧ noCross ps (melt (passedSlots rules sl)) p
theorem set_split : ∀ {passes : List (List Rule)} {L R : List Slot} {z p n : Int},Sg L z p → Sg R p n → PassesOk passes → noCross passes (L ++ R) p → setFrom passes (L ++ R) = setFrom passes L ++ setFrom passes R
  | [],_,_,_,_,_,_,_,_,_ => rfl
  | rules :: ps,L,R,z,p,n,hL,hR,ok,hc => by
    obtain ⟨h1,h2⟩ := hc
    have e := step_split hL hR (ok rules List.mem_cons_self) h1
    rw [e] at h2
    show setFrom ps (melt (passedSlots rules (L ++ R))) = setFrom ps (melt (passedSlots rules L)) ++ setFrom ps (melt (passedSlots rules R))
    rw [e]
    exact set_split (step_sg hL (ok rules List.mem_cons_self)).1 (step_sg hR (ok rules List.mem_cons_self)).1 (fun r hr => ok r (List.mem_cons_of_mem _ hr)) h2
noncomputable def shiftS (k : Int) (sl : List Slot) : List Slot := sl.map fun s => (s.1,s.2.1 + k,s.2.2 + k)
theorem shp_shift (k : Int) (sl : List Slot) : shp (shiftS k sl) = shp sl := by unfold shp shiftS; rw [List.map_map]; rfl
theorem allOf_shift (k : Int) (g : List Int) (sl : List Slot) (h : sl ≠ []) : allOf g (shiftS k sl) = shiftS k (allOf g sl) := by
  obtain ⟨a,ea⟩ := exHead h
  obtain ⟨z,ez⟩ := exLast h
  unfold allOf shiftS
  rw [List.head?_map,List.getLast?_map,ea,ez,List.map_map]
  rfl
theorem psl_shift (k : Int) {rules : List Rule} {slots : List Slot} : ∀ {ds : List (Nat × Nat)} {r : Nat},Along rules slots.length r ds → psl rules (shiftS k slots) ds r = shiftS k (psl rules slots ds r) := by
  intro ds r h
  induction h with
  | @nil k' => unfold psl shiftS; rw [List.map_drop]
  | @cons k' p j ds h1 h2 h3 h4 h5 ih =>
    have hT : (slots.drop p).take (tl rules j) ≠ [] := by
      intro q
      have := congrArg List.length q
      rw [List.length_take,List.length_drop] at this
      simp at this
      (first | ((try clear h4); (try clear h1); omega) | omega)
    unfold psl
    rw [ih]
    have e1 : (shiftS k slots).drop k' = shiftS k (slots.drop k') := by unfold shiftS; rw [List.map_drop]
    have e2 : ((shiftS k slots).drop p).take (tl rules j) = shiftS k ((slots.drop p).take (tl rules j)) := by unfold shiftS; rw [List.map_take,List.map_drop]
    have e3 : (shiftS k (slots.drop k')).take (p - k') = shiftS k ((slots.drop k').take (p - k')) := by unfold shiftS; rw [List.map_take]
    rw [e1,e2,e3,allOf_shift k _ _ hT]
    unfold shiftS
    rw [List.map_append,List.map_append]
theorem grp_shift (k : Int) : ∀ (l : List Slot),grp (shiftS k l) = (grp l).map (shiftS k)
  | [] => rfl
  | a :: l => by
    have ih := grp_shift k l
    show grp ((a.1,a.2.1 + k,a.2.2 + k) :: shiftS k l) = _
    cases e : grp l with
    | nil =>
      have : l = [] := by rw [← grp_flat l,e]; rfl
      subst this
      rfl
    | cons c cs =>
      obtain ⟨c0,c',rfl⟩ : ∃ x y,c = x :: y := by
        cases c with
        | nil => exact absurd rfl (grp_nonempty l [] (by rw [e]; exact List.mem_cons_self))
        | cons x y => exact ⟨x,y,rfl⟩
      rw [e] at ih
      rw [grp_cons e,grp_cons (l := shiftS k l) (c0 := (c0.1,c0.2.1 + k,c0.2.2 + k)) (c' := shiftS k c') (cs := cs.map (shiftS k)) ih]
      have e1 : slo (c0.1,c0.2.1 + k,c0.2.2 + k) = slo c0 + k := rfl
      have e2 : shi (a.1,a.2.1 + k,a.2.2 + k) = shi a + k := rfl
      by_cases q : slo c0 < shi a
      · rw [if_pos q,if_pos (by omega)]; rfl
      · rw [if_neg q,if_neg (by omega)]; rfl
theorem melt_shift (k : Int) (l : List Slot) : melt (shiftS k l) = shiftS k (melt l) := by
  unfold melt
  rw [grp_shift]
  have key : ∀ (cs : List (List Slot)),(∀ c ∈ cs,c ≠ []) → ((cs.map (shiftS k)).map fun c => allOf (shp c) c).flatten = shiftS k ((cs.map fun c => allOf (shp c) c).flatten) := by
    intro cs
    induction cs with
    | nil => intro _; rfl
    | cons c cs ih =>
      intro h
      rw [List.map_cons,List.map_cons,List.map_cons,List.flatten_cons,List.flatten_cons,ih fun d hd => h d (List.mem_cons_of_mem _ hd),shp_shift,allOf_shift k _ _ (h c List.mem_cons_self)]
      unfold shiftS
      rw [List.map_append]
  exact key (grp l) (grp_nonempty l)
theorem step_shift (k : Int) (rules : List Rule) (sl : List Slot) : melt (passedSlots rules (shiftS k sl)) = shiftS k (melt (passedSlots rules sl)) := by
  unfold passedSlots
  rw [shp_shift]
  have al := doer_along (rules := rules) (sh := shp sl) _ 0 (Nat.le_refl _)
  rw [show (shp sl).length = sl.length from List.length_map _] at al
  rw [psl_shift k al,melt_shift]
theorem set_shift (k : Int) : ∀ (passes : List (List Rule)) (sl : List Slot),setFrom passes (shiftS k sl) = shiftS k (setFrom passes sl)
  | [],_ => rfl
  | rules :: ps,sl => by
    show setFrom ps (melt (passedSlots rules (shiftS k sl))) = shiftS k (setFrom ps (melt (passedSlots rules sl)))
    rw [step_shift,set_shift k ps]
theorem first_split (row : List Int) (p : Nat) (h : p ≤ row.length) : firstSlots row = firstSlots (row.take p) ++ shiftS (p : Int) (firstSlots (row.drop p)) := by
  apply List.ext_getElem?
  intro i
  have hl : (firstSlots (row.take p)).length = p := by unfold firstSlots; rw [List.length_mapIdx,List.length_take]; omega
  by_cases hi : i < p
  · rw [List.getElem?_append_left (by (first | ((try clear h); omega) | omega))]
    unfold firstSlots
    rw [List.getElem?_mapIdx,List.getElem?_mapIdx,List.getElem?_take_of_lt hi]
  · rw [List.getElem?_append_right (by (first | ((try clear h); omega) | omega)),hl]
    unfold firstSlots shiftS
    rw [List.getElem?_map,List.getElem?_mapIdx,List.getElem?_mapIdx,List.getElem?_drop,show p + (i - p) = i by (first | ((try clear h); omega) | omega)]
    cases row[i]? with
    | none => rfl
    | some x =>
      simp only [Option.map_some]
      congr 2
      have : ((i : Nat) : Int) = ((i - p : Nat) : Int) + (p : Int) := by (first | ((try clear h); omega) | omega)
      rw [Prod.mk.injEq]
      exact ⟨by (first | ((try clear this); (try clear hi); (try clear hl); (try clear h); omega) | omega),by (first | ((try clear hi); (try clear h); omega) | omega)⟩
theorem shift_sg {k z n : Int} {l : List Slot} (h : Sg l z n) : Sg (shiftS k l) (z + k) (n + k) := by
  have lo : ∀ s : Slot,slo (s.1,s.2.1 + k,s.2.2 + k) = slo s + k := fun _ => rfl
  have hi : ∀ s : Slot,shi (s.1,s.2.1 + k,s.2.2 + k) = shi s + k := fun _ => rfl
  have ch : ∀ l : List Slot,Ch st l → Ch st (shiftS k l) := by
    intro l hc
    induction hc with
    | nil => exact .nil
    | one a => exact .one _
    | @cons a b l r h ih =>
      refine .cons ?_ ih
      rcases r with ⟨r1,r2⟩ | r
      · exact .inl ⟨by rw [lo,lo,r1],by rw [hi,hi,r2]⟩
      · exact .inr (by rw [lo,hi,r])
  refine ⟨fun s hs => ?_,ch l h.ch,fun s e => ?_,fun s e => ?_⟩
  · obtain ⟨x,hx,rfl⟩ := List.mem_map.mp hs
    rw [lo,hi]
    have := h.pos x hx
    omega
  · unfold shiftS at e
    rw [List.head?_map] at e
    cases q : l.head? with
    | none => rw [q] at e; cases e
    | some x =>
      rw [q] at e
      rw [← Option.some.inj e,lo,h.fst x q]
  · unfold shiftS at e
    rw [List.getLast?_map] at e
    cases q : l.getLast? with
    | none => rw [q] at e; cases e
    | some x =>
      rw [q] at e
      rw [← Option.some.inj e,hi,h.lst x q]
theorem set_cut {passes : List (List Rule)} {row : List Int} {p : Nat} (ok : PassesOk passes) (h : p ≤ row.length) (hc : noCross passes (firstSlots row) (p : Int)) :
    setRow passes row = setRow passes (row.take p) ++ shiftS (p : Int) (setRow passes (row.drop p)) := by
  have e := first_split row p h
  have gL := first_sg (row.take p)
  have gR := shift_sg (k := (p : Int)) (first_sg (row.drop p))
  rw [List.length_take,Nat.min_eq_left h] at gL
  rw [Int.zero_add] at gR
  rw [e] at hc
  have := set_split gL gR ok hc
  rw [set_shift] at this
  show setFrom passes (firstSlots row) = _
  rw [e]
  exact this
end Ink
namespace Ink
theorem doer_first {rules : List Rule} {sh : List Int} : ∀ (m k : Nat),sh.length - k ≤ m → ∀ d ∈ doer rules sh k,firstFit rules sh d.1 = some d.2
  | 0,k,hk,d,hd => by rw [doer_end (by omega)] at hd; cases hd
  | m + 1,k,hk,d,hd => by
    by_cases hlt : k < sh.length
    · cases e : firstFit rules sh k with
      | none => rw [doer_none hlt e] at hd; exact doer_first m (k + 1) (by omega) d hd
      | some j =>
        obtain ⟨h1,_,_⟩ := first_fits e
        rw [doer_some hlt e h1] at hd
        rcases List.mem_cons.mp hd with q | q
        · rw [q]; exact e
        · exact doer_first m _ (by omega) d q
    · rw [doer_end (by (first | ((try clear hk); omega) | omega))] at hd; cases hd
theorem doer_parts {rules : List Rule} {L R : List Slot} {z p n : Int} (hL : Sg L z p) (hR : Sg R p n) (hc : ∀ d ∈ doer rules (shp (L ++ R)) 0,¬ crossD rules (L ++ R) d p) :
    doer rules (shp (L ++ R)) 0 = doer rules (shp L) 0 ++ sh1 L.length (doer rules (shp R) 0) := by
  have es : shp (L ++ R) = shp L ++ shp R := by unfold shp; exact List.map_append
  have el : (shp L).length = L.length := List.length_map _
  rw [es,← el]
  refine doer_split _ 0 (Nat.le_refl _) (Nat.zero_le _) fun d hd r hr => ?_
  rw [← es] at hd
  have nc := hc d hd
  by_cases q1 : (shp L).length ≤ d.1 - r.b.length
  · exact .inl q1
  · by_cases q2 : d.1 + r.t.length + r.a.length ≤ (shp L).length
    · exact .inr q2
    · exfalso
      refine nc ?_
      obtain ⟨r',hr',hf⟩ := first_some (doer_first _ 0 (Nat.le_refl _) d hd)
      have fits : fitB r (shp (L ++ R)) d.1 = true := by
        rw [hr] at hr'
        rw [Option.some.inj hr']; exact hf
      obtain ⟨f1,f2,f3⟩ := fit_room fits
      rw [es,List.length_append,el,show (shp R).length = R.length from List.length_map _] at f3
      rw [el] at q1 q2
      have i1 : d.1 - r.b.length < L.length := by (first | ((try clear f3); (try clear f2); (try clear f1); (try clear q2); (try clear nc); (try clear el); omega) | omega)
      have i2 : L.length ≤ d.1 + r.t.length + r.a.length - 1 := by (first | ((try clear i1); (try clear f3); (try clear q1); (try clear nc); (try clear el); omega) | omega)
      have i3 : d.1 + r.t.length + r.a.length - 1 - L.length < R.length := by (first | ((try clear i2); (try clear i1); (try clear f2); (try clear f1); (try clear q1); (try clear nc); (try clear el); omega) | omega)
      refine ⟨r,L[d.1 - r.b.length],R[d.1 + r.t.length + r.a.length - 1 - L.length],hr,?_,?_,?_,?_⟩
      · rw [List.getElem?_append_left i1,List.getElem?_eq_getElem i1]
      · rw [List.getElem?_append_right i2,List.getElem?_eq_getElem i3]
      · have := hL.pos _ (List.getElem_mem i1)
        have := hL.wk.hi _ (List.getElem_mem i1)
        (first | ((try clear i3); (try clear i2); (try clear f3); (try clear f2); (try clear f1); (try clear q2); (try clear q1); (try clear nc); (try clear el); omega) | omega)
      · have := hR.pos _ (List.getElem_mem i3)
        have := hR.wk.lo _ (List.getElem_mem i3)
        (first | ((try clear i2); (try clear i1); (try clear f3); (try clear f2); (try clear f1); (try clear q2); (try clear q1); (try clear nc); (try clear el); omega) | omega)
theorem noCross_right : ∀ {passes : List (List Rule)} {L R : List Slot} {z p n q : Int},Sg L z p → Sg R p n → PassesOk passes → noCross passes (L ++ R) p → noCross passes (L ++ R) q → noCross passes R q
  | [],_,_,_,_,_,_,_,_,_,_,_ => trivial
  | rules :: ps,L,R,z,p,n,q,hL,hR,ok,hc,hq => by
    obtain ⟨h1,h2⟩ := hc
    obtain ⟨g1,g2⟩ := hq
    have okr := ok rules List.mem_cons_self
    have e := step_split hL hR okr h1
    rw [e] at h2 g2
    refine ⟨fun d hd hx => ?_,noCross_right (step_sg hL okr).1 (step_sg hR okr).1 (fun r hr => ok r (List.mem_cons_of_mem _ hr)) h2 g2⟩
    have dp := doer_parts hL hR h1
    refine g1 (L.length + d.1,d.2) ?_ ?_
    · rw [dp]
      refine List.mem_append_right _ ?_
      exact List.mem_map.mpr ⟨d,hd,rfl⟩
    · obtain ⟨r,a,z',hr,ha,hz,k1,k2⟩ := hx
      obtain ⟨r',hr',hf⟩ := first_some (doer_first _ 0 (Nat.le_refl _) d hd)
      rw [hr] at hr'
      rw [← Option.some.inj hr'] at hf
      obtain ⟨f1,f2,f3⟩ := fit_room hf
      refine ⟨r,a,z',hr,?_,?_,k1,k2⟩
      · show (L ++ R)[L.length + d.1 - r.b.length]? = some a
        rw [List.getElem?_append_right (by (first | ((try clear f3); (try clear f2); (try clear k2); (try clear k1); omega) | omega)),show L.length + d.1 - r.b.length - L.length = d.1 - r.b.length by (first | ((try clear f3); (try clear f2); (try clear k2); (try clear k1); omega) | omega)]; exact ha
      · show (L ++ R)[L.length + d.1 + r.t.length + r.a.length - 1]? = some z'
        rw [List.getElem?_append_right (by (first | ((try clear f3); (try clear k2); (try clear k1); omega) | omega)),show L.length + d.1 + r.t.length + r.a.length - 1 - L.length = d.1 + r.t.length + r.a.length - 1 by (first | ((try clear f3); (try clear k2); (try clear k1); omega) | omega)]; exact hz
theorem crossD_shift {rules : List Rule} {sl : List Slot} {d : Nat × Nat} {k p : Int} : crossD rules (shiftS k sl) d (p + k) ↔ crossD rules sl d p := by
  have lo : ∀ s : Slot,slo (s.1,s.2.1 + k,s.2.2 + k) = slo s + k := fun _ => rfl
  have hi : ∀ s : Slot,shi (s.1,s.2.1 + k,s.2.2 + k) = shi s + k := fun _ => rfl
  have at' : ∀ (i : Nat) (s : Slot),(shiftS k sl)[i]? = some s → ∃ x,sl[i]? = some x ∧ s = (x.1,x.2.1 + k,x.2.2 + k) := fun i s h => by
    unfold shiftS at h
    rw [List.getElem?_map] at h
    cases e : sl[i]? with
    | none => rw [e] at h; cases h
    | some x => rw [e] at h; exact ⟨x,rfl,(Option.some.inj h).symm⟩
  have to : ∀ (i : Nat) (x : Slot),sl[i]? = some x → (shiftS k sl)[i]? = some (x.1,x.2.1 + k,x.2.2 + k) := fun i x h => by
    unfold shiftS
    rw [List.getElem?_map,h]; rfl
  constructor
  · rintro ⟨r,a,z,h1,h2,h3,h4,h5⟩
    obtain ⟨x,ex,rfl⟩ := at' _ _ h2
    obtain ⟨y,ey,rfl⟩ := at' _ _ h3
    rw [lo] at h4
    rw [hi] at h5
    exact ⟨r,x,y,h1,ex,ey,by (first | ((try clear h5); omega) | omega),by (first | ((try clear h4); omega) | omega)⟩
  · rintro ⟨r,a,z,h1,h2,h3,h4,h5⟩
    exact ⟨r,_,_,h1,to _ _ h2,to _ _ h3,by rw [lo]; (first | ((try clear h5); omega) | omega),by rw [hi]; (first | ((try clear h4); omega) | omega)⟩
theorem noCross_shift {k p : Int} : ∀ {passes : List (List Rule)} {sl : List Slot},noCross passes (shiftS k sl) (p + k) ↔ noCross passes sl p
  | [],_ => Iff.rfl
  | rules :: ps,sl => by
    show (_ ∧ noCross ps (melt (passedSlots rules (shiftS k sl))) (p + k)) ↔ (_ ∧ noCross ps (melt (passedSlots rules sl)) p)
    rw [step_shift,noCross_shift (passes := ps),shp_shift]
    constructor
    · rintro ⟨h1,h2⟩; exact ⟨fun d hd hx => h1 d hd (crossD_shift.mpr hx),h2⟩
    · rintro ⟨h1,h2⟩; exact ⟨fun d hd hx => h1 d hd (crossD_shift.mp hx),h2⟩
theorem cut_behind {passes : List (List Rule)} {row : List Int} {p q : Nat} (ok : PassesOk passes) (hp : p ≤ row.length) (hpq : p ≤ q) (hc : noCross passes (firstSlots row) (p : Int)) (hq : noCross passes (firstSlots row) (q : Int)) :
    noCross passes (firstSlots (row.drop p)) ((q - p : Nat) : Int) := by
  have e := first_split row p hp
  have gL := first_sg (row.take p)
  have gR := shift_sg (k := (p : Int)) (first_sg (row.drop p))
  rw [List.length_take,Nat.min_eq_left hp] at gL
  rw [Int.zero_add] at gR
  rw [e] at hc hq
  have := noCross_right gL gR ok hc hq
  have eq : (q : Int) = ((q - p : Nat) : Int) + (p : Int) := by (first | ((try clear hp); omega) | omega)
  rw [eq,noCross_shift] at this
  exact this
noncomputable def widthS (wd : Int → Int) (nr : Int → Int → Int) : List Int → Int
  | [] => 0
  | [a] => wd a
  | a :: b :: l => wd a + nr a b + widthS wd nr (b :: l)
theorem width_app {wd : Int → Int} {nr : Int → Int → Int} : ∀ {l m : List Int},(∀ a b,l.getLast? = some a → m.head? = some b → nr a b = 0) → widthS wd nr (l ++ m) = widthS wd nr l + widthS wd nr m
  | [],m,_ => by show _ = 0 + _; rw [Int.zero_add]; rfl
  | [a],[],_ => by show wd a = wd a + 0; rw [Int.add_zero]
  | [a],b :: m,h => by
    show wd a + nr a b + widthS wd nr (b :: m) = wd a + widthS wd nr (b :: m)
    rw [h a b rfl rfl,Int.add_zero]
  | a :: b :: l,m,h => by
    have ih := width_app (wd := wd) (nr := nr) (l := b :: l) (m := m) fun x y e1 e2 => h x y (by rw [List.getLast?_cons_cons]; exact e1) e2
    show wd a + nr a b + widthS wd nr ((b :: l) ++ m) = wd a + nr a b + widthS wd nr (b :: l) + widthS wd nr m
    rw [ih]; (first | ((try clear ih); omega) | omega)
end Ink
namespace Ink
theorem grp_len : ∀ (l : List Slot),(grp l).length ≤ l.length := by
  intro l
  have h1 := grp_flat l
  have h2 := grp_nonempty l
  have key : ∀ (cs : List (List Slot)),(∀ c ∈ cs,c ≠ []) → cs.length ≤ cs.flatten.length := by
    intro cs
    induction cs with
    | nil => intro _; exact Nat.le_refl _
    | cons c cs ih =>
      intro h
      rw [List.flatten_cons,List.length_append,List.length_cons]
      have := List.length_pos_iff.mpr (h c List.mem_cons_self)
      have := ih fun d hd => h d (List.mem_cons_of_mem _ hd)
      omega
  have := key _ h2
  rw [h1] at this; exact this
theorem flat_mem_len : ∀ {cs : List (List Slot)} {c : List Slot},c ∈ cs → c.length ≤ cs.flatten.length := by
  intro cs
  induction cs with
  | nil => intro c h; cases h
  | cons d cs ih =>
    intro c h
    rw [List.flatten_cons,List.length_append]
    rcases List.mem_cons.mp h with h | h
    · rw [h]; omega
    · have := ih h; omega
theorem grp_mem_len {l c : List Slot} (h : c ∈ grp l) : c.length ≤ l.length := by
  have := flat_mem_len h
  rw [grp_flat] at this; exact this
theorem meltG_len : ∀ (cs : List (List Slot)),(meltG cs).length = cs.flatten.length := by
  intro cs
  induction cs with
  | nil => rfl
  | cons c cs ih =>
    show ((allOf (shp c) c) ++ meltG cs).length = _
    rw [List.length_append,List.flatten_cons,List.length_append,ih]
    unfold allOf shp
    rw [List.length_map,List.length_map]
theorem meltG_take_len (l : List Slot) (i : Nat) : (meltG ((grp l).take i)).length ≤ l.length := by
  rw [meltG_len]
  have h := congrArg List.length (congrArg List.flatten (List.take_append_drop i (grp l)))
  rw [List.flatten_append,List.length_append,grp_flat] at h
  omega
theorem meltG_snoc (cs : List (List Slot)) (c : List Slot) : meltG (cs ++ [c]) = meltG cs ++ allOf (shp c) c := by
  unfold meltG
  rw [List.map_append,List.flatten_append]
  simp
theorem addSlot_pos {cs : List (List Slot)} {c : List Slot} {s : Slot} (h : cs.getLast? = some c) (hl : slo s < lsHi c) : addSlot cs s = cs.dropLast ++ [c ++ [s]] := by
  unfold addSlot
  rw [h]
  show (if slo s < lsHi c then _ else _) = _
  rw [if_pos hl]
theorem addSlot_neg {cs : List (List Slot)} {c : List Slot} {s : Slot} (h : cs.getLast? = some c) (hl : ¬ slo s < lsHi c) : addSlot cs s = cs ++ [[s]] := by
  unfold addSlot
  rw [h]
  show (if slo s < lsHi c then _ else _) = _
  rw [if_neg hl]
end Ink
namespace Ink
noncomputable def rowsA (ps : List (List Rule)) (row : List Int) : List (List Slot) := (List.range (ps.length + 1)).map fun i => setRow (ps.take i) row
noncomputable def rowsN (ps : List (List Rule)) (row : List Int) (n : Nat) : List (List Slot) := (List.range n).map fun i => setRow (ps.take i) row
theorem rowsN_succ (ps : List (List Rule)) (row : List Int) (n : Nat) : rowsN ps row (n + 1) = rowsN ps row n ++ [setRow (ps.take n) row] := by
  unfold rowsN
  rw [List.range_succ,List.map_append]; rfl
theorem rowsN_last (ps : List (List Rule)) (row : List Int) (n : Nat) : (rowsN ps row (n + 1)).getLast? = some (setRow (ps.take n) row) := by
  rw [rowsN_succ,List.getLast?_append]; rfl
theorem setRow_snoc {ps : List (List Rule)} {row : List Int} {i : Nat} {rs : List Rule} (h : ps[i]? = some rs) : setRow (ps.take (i + 1)) row = melt (passedSlots rs (setRow (ps.take i) row)) := by
  unfold setRow
  rw [List.take_add_one,h,List.foldl_append]; rfl
theorem rowsA_last (ps : List (List Rule)) (row : List Int) : (rowsA ps row).getLast? = some (setRow ps row) := by
  have := rowsN_last ps row ps.length
  rw [List.take_length] at this; exact this
theorem setRow_len {ps : List (List Rule)} (ok : PassesOk ps) (row : List Int) : ∀ (i : Nat),i ≤ ps.length → (setRow (ps.take i) row).length ≤ row.length * 3 ^ i := by
  intro i
  induction i with
  | zero => intro _; unfold setRow firstSlots; simp
  | succ i ih =>
    intro hi
    have h := List.getElem?_eq_getElem (l := ps) (i := i) (by omega)
    rw [setRow_snoc h,melt_len]
    have h1 := passed_len (rules := ps[i]) (slots := setRow (ps.take i) row) (ok _ (List.getElem_mem _))
    have h2 := ih (by (first | ((try clear h1); omega) | omega))
    have h3 : row.length * 3 ^ (i + 1) = 3 * (row.length * 3 ^ i) := by rw [Nat.pow_succ]; rw [← Nat.mul_assoc,Nat.mul_comm]
    omega
theorem pow_le {n i k : Nat} (h : i ≤ k) : n * 3 ^ i ≤ n * 3 ^ k := Nat.mul_le_mul_left _ (Nat.pow_le_pow_right (by (first | ((try clear h); omega) | omega)) h)
end Ink
namespace Ink
theorem Ch.at {R : Slot → Slot → Prop} : ∀ {l : List Slot} {i : Nat} {a b : Slot},Ch R l → l[i]? = some a → l[i + 1]? = some b → R a b
  | [],_,_,_,_,e,_ => by simp at e
  | [_],i,_,_,_,_,e => by simp at e
  | x :: y :: r,0,a,b,h,e,e' => by
    simp at e e'
    cases h with
    | cons h1 h2 => rw [← e,← e']; exact h1
  | x :: y :: r,i + 1,a,b,h,e,e' => by
    cases h with
    | cons h1 h2 => exact Ch.at (l := y :: r) (i := i) h2 (by simpa using e) (by simpa using e')
end Ink
namespace Ink
theorem width_snoc {wd : Int → Int} {nr : Int → Int → Int} : ∀ (l : List Int) (x : Int),widthS wd nr (l ++ [x]) = widthS wd nr l + ((l.getLast?).map fun a => nr a x).getD 0 + wd x
  | [],x => by show wd x = 0 + 0 + wd x; omega
  | [a],x => rfl
  | a :: b :: l,x => by
    have ih := width_snoc (wd := wd) (nr := nr) (b :: l) x
    have e : (a :: b :: l).getLast? = (b :: l).getLast? := List.getLast?_cons_cons
    rw [e]
    show wd a + nr a b + widthS wd nr ((b :: l) ++ [x]) = wd a + nr a b + widthS wd nr (b :: l) + _ + _
    rw [ih]; (first | ((try clear ih); omega) | omega)
section
variable (wd : Int → Int) (nr : Int → Int → Int)
noncomputable def wpre (sh : List Int) (k : Nat) : Int := widthS wd nr (sh.take k)
noncomputable def begAt (sh : List Int) (k : Nat) : Int := wpre wd nr sh (k + 1) - wd (sh.getD k 0)
noncomputable def spansL (sh : List Int) : List (Int × Int) := (List.range sh.length).map fun k => (begAt wd nr sh k,wpre wd nr sh (k + 1))
end
variable {wd : Int → Int} {nr : Int → Int → Int}
theorem spans_len (sh : List Int) : (spansL wd nr sh).length = sh.length := by unfold spansL; rw [List.length_map,List.length_range]
theorem spans_at {sh : List Int} {k : Nat} (h : k < sh.length) : (spansL wd nr sh)[k]? = some (begAt wd nr sh k,wpre wd nr sh (k + 1)) := by
  unfold spansL
  rw [List.getElem?_map,List.getElem?_range h]; rfl
theorem wpre_all (sh : List Int) : wpre wd nr sh sh.length = widthS wd nr sh := by unfold wpre; rw [List.take_length]
theorem wpre_succ {sh : List Int} {k : Nat} {s t : Int} (ht : sh[k + 1]? = some t) (hs : sh[k]? = some s) : wpre wd nr sh (k + 2) = wpre wd nr sh (k + 1) + nr s t + wd t := by
  unfold wpre
  rw [show sh.take (k + 2) = sh.take (k + 1) ++ [t] by rw [List.take_add_one (i := k + 1),ht]; rfl,width_snoc]
  have : (sh.take (k + 1)).getLast? = some s := by
    rw [List.take_add_one,hs,List.getLast?_append]; rfl
  rw [this]; rfl
theorem wpre_one {sh : List Int} {s : Int} (hs : sh[0]? = some s) : wpre wd nr sh 1 = wd s := by
  unfold wpre
  rw [List.take_add_one,hs]; rfl
theorem getD_of {sh : List Int} {k : Nat} {s : Int} (h : sh[k]? = some s) : sh.getD k 0 = s := by rw [List.getD_eq_getElem?_getD,h]; rfl
theorem begAt_zero {sh : List Int} {s : Int} (hs : sh[0]? = some s) : begAt wd nr sh 0 = 0 := by
  unfold begAt
  rw [wpre_one hs,getD_of hs]; omega
theorem begAt_succ {sh : List Int} {k : Nat} {s t : Int} (ht : sh[k + 1]? = some t) (hs : sh[k]? = some s) : begAt wd nr sh (k + 1) = wpre wd nr sh (k + 1) + nr s t := by
  unfold begAt
  rw [wpre_succ ht hs,getD_of ht]; omega
theorem begAt_wd {sh : List Int} {k : Nat} {s : Int} (hs : sh[k]? = some s) : begAt wd nr sh k + wd s = wpre wd nr sh (k + 1) := by
  unfold begAt
  rw [getD_of hs]; omega
inductive Bar
  | rule (t a n : Nat)
  | near (a : Nat)
noncomputable def ruleLo (slots : List Slot) (k : Nat) (r : Rule) : Int := ((slots[k - r.b.length]?).map slo).getD 0
noncomputable def ruleHi (slots : List Slot) (k : Nat) (r : Rule) : Int := ((slots[k + r.t.length + r.a.length - 1]?).map shi).getD 0
noncomputable def placesL (slots : List Slot) (k : Nat) (r : Rule) : List Int := (List.range (ruleHi slots k r - (ruleLo slots k r + 1)).toNat).map fun (j : Nat) => ruleLo slots k r + 1 + (j : Int)
noncomputable def evD (rules : List Rule) (slots : List Slot) (turn : Nat) (d : Nat × Nat) : List (Int × Bar) := match rules[d.2]? with
  | none => []
  | some r => (placesL slots d.1 r).map fun p => (p,Bar.rule turn d.1 d.2)
noncomputable def evP (rules : List Rule) (slots : List Slot) (turn : Nat) : List (Int × Bar) := ((doer rules (shp slots) 0).map (evD rules slots turn)).flatten
noncomputable def evR (ps : List (List Rule)) (row : List Int) (n : Nat) : List (Int × Bar) := ((List.range n).map fun i => evP (ps.getD i []) (setRow (ps.take i) row) i).flatten
noncomputable def nearB (nr : Int → Int → Int) (a b : Slot) : Bool := decide (shi a = slo b) && decide (nr a.1 b.1 ≠ 0)
noncomputable def nearEv (nr : Int → Int → Int) (sl : List Slot) (i : Nat) : List (Int × Bar) := match sl[i]?,sl[i + 1]? with
  | some a,some b => if nearB nr a b = true then [(shi a,Bar.near i)] else []
  | _,_ => []
noncomputable def evN (nr : Int → Int → Int) (sl : List Slot) (n : Nat) : List (Int × Bar) := ((List.range n).map (nearEv nr sl)).flatten
noncomputable def evAll (ps : List (List Rule)) (nr : Int → Int → Int) (row : List Int) : List (Int × Bar) := evR ps row ps.length ++ evN nr (setRow ps row) ((setRow ps row).length - 1)
noncomputable def barOf (ev : List (Int × Bar)) (p : Int) : Option Bar := (ev.find? fun e => decide (e.1 = p)).map (·.2)
theorem barOf_app (ev ew : List (Int × Bar)) (p : Int) : barOf (ev ++ ew) p = (barOf ev p).or (barOf ew p) := by
  unfold barOf
  rw [List.find?_append]
  cases ev.find? fun e => decide (e.1 = p) <;> rfl
theorem barOf_one (q : Int) (b : Bar) (p : Int) : barOf [(q,b)] p = if q = p then some b else none := by
  unfold barOf
  by_cases h : q = p
  · rw [if_pos h]; simp [h]
  · rw [if_neg h]; simp [h]
theorem barOf_none {ev : List (Int × Bar)} {p : Int} : barOf ev p = none ↔ ∀ e ∈ ev,e.1 ≠ p := by
  unfold barOf
  rw [Option.map_eq_none_iff,List.find?_eq_none]
  constructor
  · intro h e he q; exact h e he (decide_eq_true q)
  · intro h e he q; exact h e he (of_decide_eq_true q)
theorem flat_succ {α : Type} (f : Nat → List α) (n : Nat) : ((List.range (n + 1)).map f).flatten = ((List.range n).map f).flatten ++ f n := by
  rw [List.range_succ,List.map_append,List.flatten_append]; simp
theorem flat_snoc {α β : Type} (f : α → List β) (l : List α) (x : α) : ((l ++ [x]).map f).flatten = (l.map f).flatten ++ f x := by
  rw [List.map_append,List.flatten_append]; simp
theorem mem_places {slots : List Slot} {k : Nat} {r : Rule} {p : Int} : p ∈ placesL slots k r ↔ ruleLo slots k r < p ∧ p < ruleHi slots k r := by
  unfold placesL
  rw [List.mem_map]
  constructor
  · rintro ⟨j,hj,rfl⟩
    rw [List.mem_range] at hj; omega
  · rintro ⟨h1,h2⟩
    exact ⟨(p - (ruleLo slots k r + 1)).toNat,by rw [List.mem_range]; omega,by (first | ((try clear h2); omega) | omega)⟩
theorem doer_rule {rules : List Rule} {sh : List Int} {d : Nat × Nat} (h : d ∈ doer rules sh 0) : ∃ r,rules[d.2]? = some r ∧ r.b.length ≤ d.1 ∧ 1 ≤ r.t.length ∧ d.1 + r.t.length + r.a.length ≤ sh.length := by
  have e := doer_first _ 0 (Nat.le_refl _) d h
  obtain ⟨r,hr,hf⟩ := first_some e
  exact ⟨r,hr,fit_room hf⟩
theorem cross_ev {rules : List Rule} {slots : List Slot} {turn : Nat} {d : Nat × Nat} {p : Int} (hd : d ∈ doer rules (shp slots) 0) : crossD rules slots d p ↔ ∃ e ∈ evD rules slots turn d,e.1 = p := by
  obtain ⟨r,hr,h1,h2,h3⟩ := doer_rule hd
  have hl : (shp slots).length = slots.length := List.length_map _
  rw [hl] at h3
  have ha := List.getElem?_eq_getElem (l := slots) (i := d.1 - r.b.length) (by omega)
  have hz := List.getElem?_eq_getElem (l := slots) (i := d.1 + r.t.length + r.a.length - 1) (by omega)
  have elo : ruleLo slots d.1 r = slo slots[d.1 - r.b.length] := by unfold ruleLo; rw [ha]; rfl
  have ehi : ruleHi slots d.1 r = shi slots[d.1 + r.t.length + r.a.length - 1] := by unfold ruleHi; rw [hz]; rfl
  unfold crossD evD
  rw [hr]
  constructor
  · rintro ⟨r',a,z,e1,e2,e3,e4,e5⟩
    cases e1
    rw [ha] at e2; rw [hz] at e3
    cases e2; cases e3
    exact ⟨(p,Bar.rule turn d.1 d.2),List.mem_map.mpr ⟨p,mem_places.mpr (by rw [elo,ehi]; exact ⟨e4,e5⟩),rfl⟩,rfl⟩
  · rintro ⟨e,he,rfl⟩
    obtain ⟨q,hq,rfl⟩ := List.mem_map.mp he
    have := mem_places.mp hq
    rw [elo,ehi] at this
    exact ⟨r,_,_,rfl,ha,hz,this⟩
theorem noCross_iff : ∀ {ps : List (List Rule)} {sl : List Slot} {p : Int},noCross ps sl p ↔ ∀ (i : Nat) rs,ps[i]? = some rs → ∀ d ∈ doer rs (shp (setFrom (ps.take i) sl)) 0,¬ crossD rs (setFrom (ps.take i) sl) d p := by
  intro ps
  induction ps with
  | nil => intro sl p; exact ⟨fun _ i rs h => by simp at h,fun _ => True.intro⟩
  | cons rs ps ih =>
    intro sl p
    show (_ ∧ noCross ps (melt (passedSlots rs sl)) p) ↔ _
    rw [ih]
    constructor
    · rintro ⟨h1,h2⟩ i rs' hi
      cases i with
      | zero => simp at hi; subst hi; exact h1
      | succ i => exact h2 i rs' (by simpa using hi)
    · intro h
      exact ⟨h 0 rs rfl,fun i rs' hi => h (i + 1) rs' (by simpa using hi)⟩
theorem evR_mem {ps : List (List Rule)} {row : List Int} {p : Int} : (∃ e ∈ evR ps row ps.length,e.1 = p) ↔ ¬ noCross ps (firstSlots row) p := by
  rw [noCross_iff]
  unfold evR evP
  constructor
  · rintro ⟨e,he,rfl⟩ h
    obtain ⟨l,hl,he⟩ := List.mem_flatten.mp he
    obtain ⟨i,hi,rfl⟩ := List.mem_map.mp hl
    obtain ⟨l2,hl2,he⟩ := List.mem_flatten.mp he
    obtain ⟨d,hd,rfl⟩ := List.mem_map.mp hl2
    rw [List.mem_range] at hi
    have e1 := List.getElem?_eq_getElem hi
    have e2 : ps.getD i [] = ps[i] := by rw [List.getD_eq_getElem?_getD,e1]; rfl
    rw [e2] at hd he
    exact h i _ e1 d hd ((cross_ev (turn := i) hd).mpr ⟨e,he,rfl⟩)
  · intro h
    refine Classical.byContradiction fun q => h fun i rs hi d hd hc => ?_
    obtain ⟨e,he,e1⟩ := (cross_ev (turn := i) hd).mp hc
    have e2 : ps.getD i [] = rs := by rw [List.getD_eq_getElem?_getD,hi]; rfl
    exact q ⟨e,List.mem_flatten.mpr ⟨_,List.mem_map.mpr ⟨i,List.mem_range.mpr (List.getElem?_eq_some_iff.mp hi).1,rfl⟩,List.mem_flatten.mpr ⟨_,List.mem_map.mpr ⟨d,by rw [e2]; exact hd,rfl⟩,by rw [e2]; exact he⟩⟩,e1⟩
noncomputable def noNear (nr : Int → Int → Int) (sl : List Slot) (p : Int) : Prop := ∀ (i : Nat) a b,sl[i]? = some a → sl[i + 1]? = some b → shi a = p → slo b = p → nr a.1 b.1 = 0
theorem evN_mem {nr : Int → Int → Int} {sl : List Slot} {p : Int} (h : ∀ e ∈ evN nr sl (sl.length - 1),e.1 ≠ p) : noNear nr sl p := by
  intro i a b ha hb e1 e2
  refine Classical.byContradiction fun q => ?_
  have hi := (List.getElem?_eq_some_iff.mp hb).1
  have : (shi a,Bar.near i) ∈ nearEv nr sl i := by
    unfold nearEv
    rw [ha,hb]
    have hn : nearB nr a b = true := by
      unfold nearB
      rw [decide_eq_true (by rw [e1,e2]),decide_eq_true q]; rfl
    show _ ∈ if nearB nr a b = true then _ else _
    rw [if_pos hn]; exact List.mem_singleton.mpr rfl
  exact h _ (List.mem_flatten.mpr ⟨_,List.mem_map.mpr ⟨i,List.mem_range.mpr (by (first | ((try clear q); (try clear e2); (try clear e1); omega) | omega)),rfl⟩,this⟩) e1
theorem cut_free {ps : List (List Rule)} {nr : Int → Int → Int} {row : List Int} {p : Int} (h : barOf (evAll ps nr row) p = none) : noCross ps (firstSlots row) p ∧ noNear nr (setRow ps row) p := by
  rw [barOf_none] at h
  unfold evAll at h
  refine ⟨Classical.byContradiction fun q => ?_,evN_mem fun e he => h e (List.mem_append_right _ he)⟩
  obtain ⟨e,he,e1⟩ := evR_mem.mpr q
  exact h e (List.mem_append_left _ he) e1
noncomputable def cutsN (ev : List (Int × Bar)) (m : Nat) : List Nat := ((List.range m).filter fun i => (barOf ev ((1 + i : Nat) : Int)).isNone).map fun i => 1 + i
theorem cutsN_succ (ev : List (Int × Bar)) (m : Nat) : cutsN ev (m + 1) = cutsN ev m ++ if (barOf ev ((1 + m : Nat) : Int)).isNone = true then [1 + m] else [] := by
  unfold cutsN
  rw [List.range_succ,List.filter_append,List.map_append]
  congr 1
  by_cases h : (barOf ev ((1 + m : Nat) : Int)).isNone = true
  · rw [if_pos h,List.filter_cons_of_pos (p := fun i => (barOf ev ((1 + i : Nat) : Int)).isNone) h]; rfl
  · rw [if_neg h,List.filter_cons_of_neg (p := fun i => (barOf ev ((1 + i : Nat) : Int)).isNone) h]; rfl
theorem mem_cuts {ev : List (Int × Bar)} {m p : Nat} : p ∈ cutsN ev m ↔ 1 ≤ p ∧ p ≤ m ∧ barOf ev (p : Int) = none := by
  unfold cutsN
  rw [List.mem_map]
  constructor
  · rintro ⟨i,hi,rfl⟩
    rw [List.mem_filter,List.mem_range] at hi
    exact ⟨by omega,by omega,Option.isNone_iff_eq_none.mp hi.2⟩
  · rintro ⟨h1,h2,h3⟩
    exact ⟨p - 1,by rw [List.mem_filter,List.mem_range,show 1 + (p - 1) = p by (first | ((try clear h2); omega) | omega)]; exact ⟨by omega,by rw [h3]; rfl⟩,by (first | ((try clear h2); omega) | omega)⟩
theorem cuts_len (ev : List (Int × Bar)) (m : Nat) : (cutsN ev m).length ≤ m := by
  unfold cutsN
  rw [List.length_map]
  have := List.length_filter_le (fun i => (barOf ev ((1 + i : Nat) : Int)).isNone) (List.range m)
  rw [List.length_range] at this; exact this
theorem cuts_rising (ev : List (Int × Bar)) (m : Nat) : (cutsN ev m).Pairwise (· < ·) := by
  unfold cutsN
  rw [List.pairwise_map]
  exact List.Pairwise.imp (fun h => by omega) (List.Pairwise.filter _ List.pairwise_lt_range)
theorem noNear_right {nr : Int → Int → Int} {L S : List Slot} {b p : Int} (h : noNear nr (L ++ shiftS b S) (p + b)) : noNear nr S p := by
  intro i a z ha hz e1 e2
  have ha' : (L ++ shiftS b S)[L.length + i]? = some (a.1,a.2.1 + b,a.2.2 + b) := by
    rw [List.getElem?_append_right (by (first | ((try clear e2); (try clear e1); omega) | omega)),Nat.add_sub_cancel_left]
    unfold shiftS
    rw [List.getElem?_map,ha]; rfl
  have hz' : (L ++ shiftS b S)[L.length + i + 1]? = some (z.1,z.2.1 + b,z.2.2 + b) := by
    rw [List.getElem?_append_right (by (first | ((try clear e2); (try clear e1); omega) | omega)),show L.length + i + 1 - L.length = i + 1 by (first | ((try clear e2); (try clear e1); omega) | omega)]
    unfold shiftS
    rw [List.getElem?_map,hz]; rfl
  have f1 : shi (a.1,a.2.1 + b,a.2.2 + b) = shi a + b := rfl
  have f2 : slo (z.1,z.2.1 + b,z.2.2 + b) = slo z + b := rfl
  have := h _ _ _ ha' hz' (by rw [f1,e1]) (by rw [f2,e2])
  exact this
theorem width_cut {ps : List (List Rule)} {row : List Int} {p : Nat} (ok : PassesOk ps) (h : p ≤ row.length) (hc : noCross ps (firstSlots row) (p : Int)) (hn : noNear nr (setRow ps row) (p : Int)) :
    widthS wd nr (shp (setRow ps row)) = widthS wd nr (shp (setRow ps (row.take p))) + widthS wd nr (shp (setRow ps (row.drop p))) := by
  have e := set_cut ok h hc
  have es : shp (setRow ps row) = shp (setRow ps (row.take p)) ++ shp (setRow ps (row.drop p)) := by
    rw [e]; unfold shp; rw [List.map_append]
    congr 1
    exact shp_shift _ _
  rw [es]
  refine width_app fun x y hx hy => ?_
  unfold shp at hx hy
  rw [List.getLast?_map] at hx
  rw [List.head?_map] at hy
  obtain ⟨a,ha,rfl⟩ := Option.map_eq_some_iff.mp hx
  obtain ⟨z,hz,rfl⟩ := Option.map_eq_some_iff.mp hy
  have s1 := (setRow_sg ok (row.take p)).1.lst a ha
  have s2 := (setRow_sg ok (row.drop p)).1.fst z hz
  rw [List.length_take,Nat.min_eq_left h] at s1
  rw [e] at hn
  have hal := List.getLast?_eq_getElem? (l := setRow ps (row.take p))
  rw [ha] at hal
  have hlen : 0 < (setRow ps (row.take p)).length := List.length_pos_iff.mpr fun q => by rw [q] at ha; cases ha
  have hz0 : (setRow ps (row.drop p))[0]? = some z := by rw [← List.head?_eq_getElem?]; exact hz
  refine hn ((setRow ps (row.take p)).length - 1) a (z.1,z.2.1 + p,z.2.2 + p) ?_ ?_ s1 ?_
  · rw [List.getElem?_append_left (by (first | ((try clear s2); (try clear s1); (try clear h); omega) | omega))]; exact hal.symm
  · rw [List.getElem?_append_right (by (first | ((try clear s2); (try clear s1); (try clear h); omega) | omega)),show (setRow ps (row.take p)).length - 1 + 1 - (setRow ps (row.take p)).length = 0 by (first | ((try clear s2); (try clear s1); (try clear h); omega) | omega)]
    unfold shiftS
    rw [List.getElem?_map,hz0]; rfl
  · show slo z + p = p
    rw [s2]; (first | ((try clear hlen); (try clear s2); (try clear s1); (try clear h); omega) | omega)
end Ink
namespace Ink
noncomputable def chainN (c : List Slot) : Nat := ((c.head?).map fun s => (shi s - slo s).toNat).getD 0
noncomputable def sharesL (b e : Int) (n : Nat) : List Int := (List.range n).map fun (j : Nat) => b + (j : Int) * (e - b) / (n : Int)
section
variable (wd : Int → Int) (nr : Int → Int → Int) (sh : List Int)
noncomputable def caretG : Nat → List (List Slot) → List Int
  | _,[] => []
  | o,c :: cs => sharesL (begAt wd nr sh o) (wpre wd nr sh (o + c.length)) (chainN c) ++ caretG (o + c.length) cs
noncomputable def caretsL (sl : List Slot) : List Int := caretG wd nr (shp sl) 0 (grp sl) ++ [widthS wd nr (shp sl)]
end
variable {wd : Int → Int} {nr : Int → Int → Int} {sh : List Int}
theorem shares_len (b e : Int) (n : Nat) : (sharesL b e n).length = n := by unfold sharesL; rw [List.length_map,List.length_range]
theorem shares_at {b e : Int} {n j : Nat} (h : j < n) : (sharesL b e n)[j]? = some (b + (j : Int) * (e - b) / (n : Int)) := by
  unfold sharesL; rw [List.getElem?_map,List.getElem?_range h]; rfl
theorem caretG_app : ∀ (cs ds : List (List Slot)) (o : Nat),caretG wd nr sh o (cs ++ ds) = caretG wd nr sh o cs ++ caretG wd nr sh (o + cs.flatten.length) ds
  | [],ds,o => rfl
  | c :: cs,ds,o => by
    show _ ++ caretG wd nr sh (o + c.length) (cs ++ ds) = (_ ++ caretG wd nr sh (o + c.length) cs) ++ _
    rw [caretG_app cs ds,List.append_assoc,List.flatten_cons,List.length_append,Nat.add_assoc]
noncomputable def lenG (cs : List (List Slot)) : Nat := (cs.map chainN).sum
theorem caretG_len : ∀ (cs : List (List Slot)) (o : Nat),(caretG wd nr sh o cs).length = lenG cs
  | [],_ => rfl
  | c :: cs,o => by
    show (_ ++ caretG wd nr sh (o + c.length) cs).length = _
    rw [List.length_append,shares_len,caretG_len cs]; rfl
theorem Sg.tail {a : Slot} {l : List Slot} {z n : Int} (h : Sg (a :: l) z n) : ∀ b,l.head? = some b → Sg l (slo b) n := fun b hb =>
  ⟨fun s hs => h.pos s (List.mem_cons_of_mem _ hs),h.ch.tail,fun s hs => by rw [hb] at hs; rw [← Option.some.inj hs],fun s hs => h.lst s (by
    cases l with
    | nil => cases hb
    | cons c l => rw [List.getLast?_cons_cons]; exact hs)⟩
theorem grp_head {b : Slot} {l : List Slot} : ∃ c' cs,grp (b :: l) = (b :: c') :: cs := by
  have hf := grp_flat (b :: l)
  have hne := grp_ne (l := b :: l) (by simp)
  cases e : grp (b :: l) with
  | nil => exact absurd e hne
  | cons c cs =>
    have hc := grp_nonempty (b :: l) c (by rw [e]; exact List.mem_cons_self)
    cases c with
    | nil => exact absurd rfl hc
    | cons x c' =>
      rw [e,List.flatten_cons,List.cons_append] at hf
      injection hf with h1 _
      exact ⟨c',cs,by rw [h1]⟩
theorem lenG_sg : ∀ {l : List Slot} {z n : Int},Sg l z n → l ≠ [] → (lenG (grp l) : Int) = n - z
  | [],_,_,_,h => absurd rfl h
  | [a],z,n,h,_ => by
    have h1 := h.fst a rfl
    have h2 := h.lst a rfl
    have h3 := h.pos a (List.mem_singleton.mpr rfl)
    have : grp [a] = [[a]] := rfl
    rw [this]
    show ((chainN [a] + 0 : Nat) : Int) = _
    have : chainN [a] = (shi a - slo a).toNat := rfl
    omega
  | a :: b :: l,z,n,h,_ => by
    have ht := Sg.tail h b rfl
    have ih := lenG_sg ht (by simp)
    obtain ⟨c',cs,e⟩ := grp_head (b := b) (l := l)
    have h1 := h.fst a rfl
    have h3 := h.pos a List.mem_cons_self
    have h4 := h.pos b (List.mem_cons_of_mem _ List.mem_cons_self)
    have hst := h.ch.at (i := 0) rfl rfl
    rw [grp_cons e]
    rw [e] at ih
    have ih' : (((shi b - slo b).toNat + lenG cs : Nat) : Int) = n - slo b := ih
    by_cases q : slo b < shi a
    · rw [if_pos q]
      show (((shi a - slo a).toNat + lenG cs : Nat) : Int) = n - z
      rcases hst with ⟨k1,k2⟩ | k1
      · (first | ((try clear q); (try clear h3); (try clear ih); omega) | omega)
      · (first | ((try clear ih'); (try clear h4); (try clear h3); (try clear h1); (try clear ih); omega) | omega)
    · rw [if_neg q]
      show (((shi a - slo a).toNat + ((shi b - slo b).toNat + lenG cs) : Nat) : Int) = n - z
      rcases hst with ⟨k1,k2⟩ | k1
      · (first | ((try clear k2); (try clear ih'); (try clear h4); (try clear ih); omega) | omega)
      · (first | ((try clear q); (try clear h4); (try clear ih); omega) | omega)
noncomputable def wTo (ps : List (List Rule)) (wd : Int → Int) (nr : Int → Int → Int) (row : List Int) (p : Nat) : Int := widthS wd nr (shp (setRow ps (row.take p)))
theorem carets_end {ps : List (List Rule)} {row : List Int} (ok : PassesOk ps) : (caretsL wd nr (setRow ps row))[row.length]? = some (wTo ps wd nr row row.length) := by
  have sg := setRow_sg ok row
  have hl : (caretG wd nr (shp (setRow ps row)) 0 (grp (setRow ps row))).length = row.length := by
    rw [caretG_len]
    by_cases e : setRow ps row = []
    · rw [e,sg.2.mp e]; rfl
    · have := lenG_sg sg.1 e; (first | ((try clear e); (try clear sg); omega) | omega)
  unfold caretsL wTo
  rw [List.getElem?_append_right (by (first | ((try clear sg); omega) | omega)),hl,Nat.sub_self,List.take_length]; rfl
theorem carets_cut {ps : List (List Rule)} {row : List Int} {p : Nat} (ok : PassesOk ps) (h0 : 0 < p) (hp : p < row.length) (hc : noCross ps (firstSlots row) (p : Int)) (hn : noNear nr (setRow ps row) (p : Int)) :
    (caretsL wd nr (setRow ps row))[p]? = some (wTo ps wd nr row p) := by
  have e := set_cut ok (Nat.le_of_lt hp) hc
  have sA := setRow_sg ok (row.take p)
  have sB := setRow_sg ok (row.drop p)
  have nA : setRow ps (row.take p) ≠ [] := fun q => by
    have := congrArg List.length (sA.2.mp q)
    rw [List.length_take,List.length_nil] at this; (first | ((try clear sB); (try clear sA); omega) | omega)
  have nB : setRow ps (row.drop p) ≠ [] := fun q => by
    have := congrArg List.length (sB.2.mp q)
    rw [List.length_drop,List.length_nil] at this; (first | ((try clear sB); (try clear sA); (try clear h0); omega) | omega)
  have lA : (row.take p).length = p := by rw [List.length_take]; (first | ((try clear sB); (try clear sA); (try clear h0); omega) | omega)
  obtain ⟨z,hz⟩ := exLast nA
  obtain ⟨b,hb⟩ := exHead nB
  have hzhi := sA.1.lst z hz
  rw [lA] at hzhi
  have hblo := sB.1.fst b hb
  generalize hA : setRow ps (row.take p) = As at *
  generalize hB : setRow ps (row.drop p) = Bs at *
  cases hBs : Bs with
  | nil => exact absurd hBs nB
  | cons b0 B' =>
  rw [hBs] at hb e sB
  have hb0 : b0 = b := Option.some.inj hb
  subst hb0
  have es : shiftS (p : Int) (b0 :: B') = (b0.1,b0.2.1 + p,b0.2.2 + p) :: shiftS (p : Int) B' := rfl
  have hlo : slo (b0.1,b0.2.1 + (p : Int),b0.2.2 + (p : Int)) = p := by
    show slo b0 + (p : Int) = p
    rw [hblo]; (first | ((try clear hblo); (try clear hzhi); (try clear lA); (try clear sB); (try clear sA); (try clear hp); (try clear h0); omega) | omega)
  have eg : grp (As ++ shiftS (p : Int) (b0 :: B')) = grp As ++ grp (shiftS (p : Int) (b0 :: B')) := by
    rw [es]
    refine grp_app As fun z' hz' => ?_
    rw [hz] at hz'
    rw [← Option.some.inj hz',hzhi,hlo]; exact Int.le_refl _
  have hG : (caretG wd nr (shp (setRow ps row)) 0 (grp As)).length = p := by
    rw [caretG_len]
    have := lenG_sg sA.1 nA
    rw [lA] at this; (first | ((try clear hblo); (try clear sB); (try clear sA); (try clear hp); (try clear h0); omega) | omega)
  obtain ⟨c',cs,egr⟩ := grp_head (b := (b0.1,b0.2.1 + (p : Int),b0.2.2 + (p : Int))) (l := shiftS (p : Int) B')
  have hfl : (grp As).flatten.length = As.length := by rw [grp_flat]
  unfold caretsL
  have hcn : 0 < chainN ((b0.1,b0.2.1 + (p : Int),b0.2.2 + (p : Int)) :: c') := by
    have := sB.1.pos b0 List.mem_cons_self
    show 0 < (shi (b0.1,b0.2.1 + (p : Int),b0.2.2 + (p : Int)) - slo (b0.1,b0.2.1 + (p : Int),b0.2.2 + (p : Int))).toNat
    have e1 : shi (b0.1,b0.2.1 + (p : Int),b0.2.2 + (p : Int)) = shi b0 + p := rfl
    have e2 : slo (b0.1,b0.2.1 + (p : Int),b0.2.2 + (p : Int)) = slo b0 + p := rfl
    (first | ((try clear e2); (try clear hfl); (try clear sB); (try clear sA); (try clear hp); (try clear h0); omega) | omega)
  have eall : caretG wd nr (shp (setRow ps row)) 0 (grp (setRow ps row)) = caretG wd nr (shp (setRow ps row)) 0 (grp As) ++ (sharesL (begAt wd nr (shp (setRow ps row)) As.length) (wpre wd nr (shp (setRow ps row)) (As.length + ((b0.1,b0.2.1 + (p : Int),b0.2.2 + (p : Int)) :: c').length)) (chainN ((b0.1,b0.2.1 + (p : Int),b0.2.2 + (p : Int)) :: c')) ++ caretG wd nr (shp (setRow ps row)) (As.length + ((b0.1,b0.2.1 + (p : Int),b0.2.2 + (p : Int)) :: c').length) cs) := by
    have : grp (setRow ps row) = grp As ++ (((b0.1,b0.2.1 + (p : Int),b0.2.2 + (p : Int)) :: c') :: cs) := by rw [e,eg,es,egr]
    rw [this,caretG_app,hfl,Nat.zero_add]; rfl
  rw [eall,List.append_assoc,List.getElem?_append_right (by (first | ((try clear hcn); (try clear hfl); (try clear hblo); (try clear sB); (try clear sA); (try clear hp); (try clear h0); omega) | omega)),hG,Nat.sub_self,List.append_assoc,List.getElem?_append_left (by rw [shares_len]; exact hcn),shares_at hcn]
  congr 1
  have hlenA : 0 < As.length := List.length_pos_iff.mpr nA
  obtain ⟨k,hk⟩ : ∃ k,As.length = k + 1 := ⟨As.length - 1,by (first | ((try clear hcn); (try clear hfl); (try clear hG); (try clear hlo); (try clear hblo); (try clear hzhi); (try clear lA); (try clear sB); (try clear sA); (try clear hp); (try clear h0); omega) | omega)⟩
  have hzk : As[k]? = some z := by
    rw [List.getLast?_eq_getElem?,hk] at hz; exact hz
  have h1 : (setRow ps row)[k]? = some z := by rw [e,List.getElem?_append_left (by (first | ((try clear hlenA); (try clear hcn); (try clear hfl); (try clear hG); (try clear hlo); (try clear hblo); (try clear hzhi); (try clear lA); (try clear sB); (try clear sA); (try clear hp); (try clear h0); omega) | omega))]; exact hzk
  have h2 : (setRow ps row)[k + 1]? = some (b0.1,b0.2.1 + (p : Int),b0.2.2 + (p : Int)) := by
    rw [e,List.getElem?_append_right (by (first | ((try clear hlenA); (try clear hcn); (try clear hfl); (try clear hG); (try clear hlo); (try clear hblo); (try clear hzhi); (try clear lA); (try clear sB); (try clear sA); (try clear hp); (try clear h0); omega) | omega)),hk,Nat.sub_self,es]; rfl
  have nz := hn k z _ h1 h2 hzhi hlo
  have s1 : (shp (setRow ps row))[k]? = some z.1 := by unfold shp; rw [List.getElem?_map,h1]; rfl
  have s2 : (shp (setRow ps row))[k + 1]? = some b0.1 := by unfold shp; rw [List.getElem?_map,h2]; rfl
  rw [hk,begAt_succ s2 s1]
  have nz' : nr z.1 b0.1 = 0 := nz
  rw [nz']
  show wpre wd nr (shp (setRow ps row)) (k + 1) + 0 + (0 : Int) * _ / _ = _
  rw [Int.zero_mul,Int.zero_ediv,Int.add_zero,Int.add_zero]
  unfold wpre wTo
  rw [hA,← hk,e]
  congr 1
  unfold shp
  rw [List.map_append,List.take_left' (List.length_map _)]
theorem wTo_zero (ps : List (List Rule)) (row : List Int) (ok : PassesOk ps) : wTo ps wd nr row 0 = 0 := by
  unfold wTo
  rw [List.take_zero,(setRow_sg ok []).2.mpr rfl]; rfl
theorem carets_zero {ps : List (List Rule)} {row : List Int} (ok : PassesOk ps) (hn : 0 < row.length) : (caretsL wd nr (setRow ps row))[0]? = some (wTo ps wd nr row 0) := by
  have sg := setRow_sg ok row
  have hne : setRow ps row ≠ [] := fun q => by rw [sg.2.mp q] at hn; simp at hn
  rw [wTo_zero ps row ok]
  obtain ⟨b,hb⟩ := exHead hne
  cases hs : setRow ps row with
  | nil => exact absurd hs hne
  | cons b0 B =>
  obtain ⟨c',cs,e⟩ := grp_head (b := b0) (l := B)
  unfold caretsL
  rw [e]
  have hpos := sg.1.pos b0 (by rw [hs]; exact List.mem_cons_self)
  have hcn : 0 < chainN (b0 :: c') := by
    show 0 < (shi b0 - slo b0).toNat
    (first | ((try clear sg); (try clear hn); omega) | omega)
  show (sharesL (begAt wd nr (shp (b0 :: B)) 0) _ (chainN (b0 :: c')) ++ _ ++ _)[0]? = _
  rw [List.append_assoc,List.getElem?_append_left (by rw [shares_len]; exact hcn),shares_at hcn,begAt_zero (s := b0.1) rfl]
  congr 1
  show (0 : Int) + (0 : Int) * _ / _ = 0
  rw [Int.zero_mul,Int.zero_ediv]; (first | ((try clear hcn); (try clear hpos); (try clear sg); (try clear hn); omega) | omega)
noncomputable def okPlace (ps : List (List Rule)) (nr : Int → Int → Int) (row : List Int) (p : Nat) : Prop := p = 0 ∨ p = row.length ∨ (0 < p ∧ p < row.length ∧ noCross ps (firstSlots row) (p : Int) ∧ noNear nr (setRow ps row) (p : Int))
theorem carets_ok {ps : List (List Rule)} {row : List Int} {p : Nat} (ok : PassesOk ps) (hn : 0 < row.length) (h : okPlace ps nr row p) : (caretsL wd nr (setRow ps row))[p]? = some (wTo ps wd nr row p) := by
  rcases h with rfl | rfl | ⟨h1,h2,h3,h4⟩
  · exact carets_zero ok hn
  · exact carets_end ok
  · exact carets_cut ok h1 h2 h3 h4
theorem line_width {ps : List (List Rule)} {row : List Int} {p q : Nat} (ok : PassesOk ps) (hp : okPlace ps nr row p) (hq : okPlace ps nr row q) (hpq : p < q) (hql : q ≤ row.length) :
    wTo ps wd nr row q - wTo ps wd nr row p = widthS wd nr (shp (setRow ps ((row.drop p).take (q - p)))) := by
  have split : ∀ r,okPlace ps nr row r → r ≤ row.length → widthS wd nr (shp (setRow ps row)) = wTo ps wd nr row r + widthS wd nr (shp (setRow ps (row.drop r))) := fun r hr hrl => by
    rcases hr with rfl | rfl | ⟨h1,h2,h3,h4⟩
    · rw [wTo_zero ps row ok,List.drop_zero]; (first | ((try clear hrl); (try clear hql); (try clear hpq); omega) | omega)
    · unfold wTo
      rw [List.take_length,List.drop_length,(setRow_sg ok []).2.mpr rfl]
      show _ = _ + 0; (first | ((try clear hrl); (try clear hql); (try clear hpq); omega) | omega)
    · exact width_cut ok hrl h3 h4
  have sp := split p hp (by omega)
  have sq := split q hq hql
  have mid : widthS wd nr (shp (setRow ps (row.drop p))) = widthS wd nr (shp (setRow ps ((row.drop p).take (q - p)))) + widthS wd nr (shp (setRow ps (row.drop q))) := by
    rcases hq with rfl | rfl | ⟨q1,q2,q3,q4⟩
    · (first | ((try clear sq); (try clear hql); (try clear sp); omega) | omega)
    · rw [List.take_of_length_le (by rw [List.length_drop]; exact Nat.le_refl _),List.drop_length,(setRow_sg ok []).2.mpr rfl]
      show _ = _ + 0; (first | ((try clear sq); (try clear hql); (try clear hpq); (try clear sp); omega) | omega)
    · rcases hp with rfl | rfl | ⟨p1,p2,p3,p4⟩
      · rw [List.drop_zero,Nat.sub_zero]; exact width_cut ok (by (first | ((try clear sp); (try clear hpq); (try clear q2); (try clear q1); (try clear sq); (try clear hql); omega) | omega)) q3 q4
      · (first | ((try clear sp); (try clear q1); (try clear sq); (try clear hql); omega) | omega)
      · have nb := cut_behind ok (Nat.le_of_lt p2) (Nat.le_of_lt hpq) p3 q3
        have e := set_cut ok (Nat.le_of_lt p2) p3
        have nn : noNear nr (setRow ps (row.drop p)) ((q - p : Nat) : Int) := by
          rw [e,show (q : Int) = ((q - p : Nat) : Int) + (p : Int) by (first | ((try clear p2); (try clear p1); (try clear q2); (try clear q1); (try clear sq); (try clear sp); (try clear hql); omega) | omega)] at q4
          exact noNear_right q4
        have := width_cut (wd := wd) ok (show q - p ≤ (row.drop p).length by rw [List.length_drop]; (first | ((try clear p1); (try clear q1); (try clear sq); (try clear sp); (try clear hql); omega) | omega)) nb nn
        rw [List.drop_drop,show p + (q - p) = q by (first | ((try clear this); (try clear p2); (try clear p1); (try clear q2); (try clear q1); (try clear sq); (try clear sp); (try clear hql); omega) | omega)] at this
        exact this
  (first | ((try clear hql); (try clear hpq); omega) | omega)
end Ink
namespace Ink
variable {wd : Int → Int} {nr : Int → Int → Int} {sh : List Int}
end Ink
namespace L2
inductive Ex2 {α0 α1 : Type} (p : α0 → α1 → Prop) : Prop
  | intro (a0 : α0) (a1 : α1) (h : p a0 a1) : Ex2 p
inductive Ex3 {α0 α1 α2 : Type} (p : α0 → α1 → α2 → Prop) : Prop
  | intro (a0 : α0) (a1 : α1) (a2 : α2) (h : p a0 a1 a2) : Ex3 p
inductive Ex4 {α0 α1 α2 α3 : Type} (p : α0 → α1 → α2 → α3 → Prop) : Prop
  | intro (a0 : α0) (a1 : α1) (a2 : α2) (a3 : α3) (h : p a0 a1 a2 a3) : Ex4 p
inductive Ex5 {α0 α1 α2 α3 α4 : Type} (p : α0 → α1 → α2 → α3 → α4 → Prop) : Prop
  | intro (a0 : α0) (a1 : α1) (a2 : α2) (a3 : α3) (a4 : α4) (h : p a0 a1 a2 a3 a4) : Ex5 p
inductive Ex6 {α0 α1 α2 α3 α4 α5 : Type} (p : α0 → α1 → α2 → α3 → α4 → α5 → Prop) : Prop
  | intro (a0 : α0) (a1 : α1) (a2 : α2) (a3 : α3) (a4 : α4) (a5 : α5) (h : p a0 a1 a2 a3 a4 a5) : Ex6 p
inductive Ex7 {α0 α1 α2 α3 α4 α5 α6 : Type} (p : α0 → α1 → α2 → α3 → α4 → α5 → α6 → Prop) : Prop
  | intro (a0 : α0) (a1 : α1) (a2 : α2) (a3 : α3) (a4 : α4) (a5 : α5) (a6 : α6) (h : p a0 a1 a2 a3 a4 a5 a6) : Ex7 p
inductive And3 (p0 p1 p2 : Prop) : Prop
  | intro (h0 : p0) (h1 : p1) (h2 : p2) : And3 p0 p1 p2
inductive And4 (p0 p1 p2 p3 : Prop) : Prop
  | intro (h0 : p0) (h1 : p1) (h2 : p2) (h3 : p3) : And4 p0 p1 p2 p3
inductive And5 (p0 p1 p2 p3 p4 : Prop) : Prop
  | intro (h0 : p0) (h1 : p1) (h2 : p2) (h3 : p3) (h4 : p4) : And5 p0 p1 p2 p3 p4
inductive And6 (p0 p1 p2 p3 p4 p5 : Prop) : Prop
  | intro (h0 : p0) (h1 : p1) (h2 : p2) (h3 : p3) (h4 : p4) (h5 : p5) : And6 p0 p1 p2 p3 p4 p5
inductive And7 (p0 p1 p2 p3 p4 p5 p6 : Prop) : Prop
  | intro (h0 : p0) (h1 : p1) (h2 : p2) (h3 : p3) (h4 : p4) (h5 : p5) (h6 : p6) : And7 p0 p1 p2 p3 p4 p5 p6
inductive And8 (p0 p1 p2 p3 p4 p5 p6 p7 : Prop) : Prop
  | intro (h0 : p0) (h1 : p1) (h2 : p2) (h3 : p3) (h4 : p4) (h5 : p5) (h6 : p6) (h7 : p7) : And8 p0 p1 p2 p3 p4 p5 p6 p7
inductive And9 (p0 p1 p2 p3 p4 p5 p6 p7 p8 : Prop) : Prop
  | intro (h0 : p0) (h1 : p1) (h2 : p2) (h3 : p3) (h4 : p4) (h5 : p5) (h6 : p6) (h7 : p7) (h8 : p8) : And9 p0 p1 p2 p3 p4 p5 p6 p7 p8
end L2
namespace Ink
open PySem L2
noncomputable abbrev iv (ns : List Int) : List V := ns.map V.int
noncomputable def IsT (H : Hp) (v : V) (ns : List Int) : Prop := ∃ a,v = .ref a ∧ H a = some (.tup (iv ns))
noncomputable def IsL (H : Hp) (v : V) (ns : List Int) : Prop := ∃ a,v = .ref a ∧ H a = some (.lst (iv ns))
noncomputable def IsRule (H : Hp) (v : V) (r : Rule) : Prop := Ex5 fun a b t h g => And6 (v = .ref a) (H a = some (.tup [b,t,h,g])) (IsT H b r.b) (IsT H t r.t) (IsT H h r.a) (IsT H g r.g)
noncomputable def IsP (H : Hp) (v : V) (d : Nat × Nat) : Prop := ∃ a,v = .ref a ∧ H a = some (.tup [.int (d.1 : Int),.int (d.2 : Int)])
noncomputable def IsS (H : Hp) (v : V) (d : Slot) : Prop := ∃ a,v = .ref a ∧ H a = some (.tup [.int d.1,.int d.2.1,.int d.2.2])
noncomputable def LstOf {α : Type} (R : Hp → V → α → Prop) (H : Hp) (v : V) (ds : List α) : Prop := Ex2 fun a xs => And3 (v = .ref a) (H a = some (.lst xs)) (Paired (R H) xs ds)
noncomputable abbrev IsRules := LstOf IsRule
noncomputable abbrev IsSlots := LstOf IsS
noncomputable def Tps (H H' : Hp) : Prop := ∀ b xs,H b = some (.tup xs) → H' b = some (.tup xs)
theorem tps_of {H H' : Hp} (s : Same H H') : Tps H H' := fun b xs e => s b _ e
theorem Tps.refl (H : Hp) : Tps H H := fun _ _ e => e
theorem Tps.trans {H H1 H2 : Hp} (a : Tps H H1) (b : Tps H1 H2) : Tps H H2 := fun x xs e => b x xs (a x xs e)
theorem Tps.lst {H : Hp} {p : Addr} {xs : List V} {o : HO} (h : H p = some (.lst xs)) : Tps H (upd H p o) := fun b ys e => by
  have : b ≠ p := fun q => by rw [q,h] at e; cases e
  rw [upd_ne this]; exact e
theorem Tps.new {H : Hp} {p : Addr} {o : HO} (h : H p = none) : Tps H (upd H p o) := fun b ys e => by
  rw [upd_ne (ne_of_none e h)]; exact e
theorem same_new {H : Hp} {p : Addr} {o : HO} (h : H p = none) : Same H (upd H p o) := fun b u e => by rw [upd_ne (ne_of_none e h)]; exact e
theorem same_off {H H' : Hp} {p : Addr} {o : HO} (s : Same H H') (h : H p = none) : Same H (upd H' p o) := fun b u e => by rw [upd_ne (ne_of_none e h)]; exact s b u e
theorem IsT.tps {H H' : Hp} {v : V} {ns : List Int} (h : IsT H v ns) (t : Tps H H') : IsT H' v ns := let ⟨a,e,q⟩ := h; ⟨a,e,t a _ q⟩
theorem IsRule.tps {H H' : Hp} {v : V} {r : Rule} (h : IsRule H v r) (t : Tps H H') : IsRule H' v r :=
  let ⟨a,b,x,y,g,e,q,h1,h2,h3,h4⟩ := h; ⟨a,b,x,y,g,e,t a _ q,h1.tps t,h2.tps t,h3.tps t,h4.tps t⟩
theorem IsP.tps {H H' : Hp} {v : V} {d : Nat × Nat} (h : IsP H v d) (t : Tps H H') : IsP H' v d := let ⟨a,e,q⟩ := h; ⟨a,e,t a _ q⟩
theorem IsS.tps {H H' : Hp} {v : V} {d : Slot} (h : IsS H v d) (t : Tps H H') : IsS H' v d := let ⟨a,e,q⟩ := h; ⟨a,e,t a _ q⟩
noncomputable def TpsR {α : Type} (R : Hp → V → α → Prop) : Prop := ∀ (H H' : Hp) (v : V) (d : α),R H v d → Tps H H' → R H' v d
theorem tR : TpsR IsRule := fun _ _ _ _ h t => h.tps t
theorem tP : TpsR IsP := fun _ _ _ _ h t => h.tps t
theorem tS : TpsR IsS := fun _ _ _ _ h t => h.tps t
section
variable {α : Type} {R : Hp → V → α → Prop}
theorem pr_tps (t : TpsR R) {H H' : Hp} {xs : List V} {ds : List α} (h : Paired (R H) xs ds) (k : Tps H H') : Paired (R H') xs ds := Paired.imp' (fun _ _ q => t _ _ _ _ q k) h
theorem LstOf.same (t : TpsR R) {H H' : Hp} {v : V} {ds : List α} (h : LstOf R H v ds) (s : Same H H') : LstOf R H' v ds :=
  let ⟨a,xs,e,q,p⟩ := h; ⟨a,xs,e,s a _ q,pr_tps t p (tps_of s)⟩
end
theorem IsL.same {H H' : Hp} {v : V} {ns : List Int} (h : IsL H v ns) (s : Same H H') : IsL H' v ns := let ⟨a,e,q⟩ := h; ⟨a,e,s a _ q⟩
theorem pr_len {α β : Type} {F : α → β → Prop} {xs : List α} {ds : List β} (h : Paired F xs ds) : xs.length = ds.length := Paired.length h
theorem pr_get {α β : Type} {F : α → β → Prop} : ∀ {xs : List α} {ds : List β} {i : Nat} {x : α},Paired F xs ds → xs[i]? = some x → ∃ d,ds[i]? = some d ∧ F x d := by
  intro xs ds i x h
  induction h generalizing i with
  | nil => intro e; cases e
  | cons r t ih =>
    intro e
    cases i with
    | zero => cases e; exact ⟨_,rfl,r⟩
    | succ i => exact ih e
theorem pr_got {α β : Type} {F : α → β → Prop} : ∀ {xs : List α} {ds : List β} {i : Nat} {d : β},Paired F xs ds → ds[i]? = some d → ∃ x,xs[i]? = some x ∧ F x d := by
  intro xs ds i d h
  induction h generalizing i with
  | nil => intro e; cases e
  | cons r t ih =>
    intro e
    cases i with
    | zero => cases e; exact ⟨_,rfl,r⟩
    | succ i => exact ih e
theorem pr_app {α β : Type} {F : α → β → Prop} : ∀ {xs ys : List α} {ds es : List β},Paired F xs ds → Paired F ys es → Paired F (xs ++ ys) (ds ++ es) := by
  intro xs ys ds es h g
  induction h with
  | nil => exact g
  | cons r t ih => exact .cons r ih
theorem pr_drop {α β : Type} {F : α → β → Prop} : ∀ (n : Nat) {xs : List α} {ds : List β},Paired F xs ds → Paired F (xs.drop n) (ds.drop n)
  | 0,_,_,h => h
  | _ + 1,_,_,.nil => .nil
  | n + 1,_,_,.cons _ t => pr_drop n t
theorem pr_take {α β : Type} {F : α → β → Prop} : ∀ (n : Nat) {xs : List α} {ds : List β},Paired F xs ds → Paired F (xs.take n) (ds.take n)
  | 0,_,_,_ => .nil
  | _ + 1,_,_,.nil => .nil
  | n + 1,_,_,.cons r t => .cons r (pr_take n t)
theorem at_iv {ns : List Int} {i : Nat} {x : V} (h : (iv ns)[i]? = some x) : ∃ n,ns[i]? = some n ∧ x = .int n := by
  rw [List.getElem?_map] at h
  cases e : ns[i]? with
  | none => rw [e] at h; cases h
  | some n => rw [e] at h; exact ⟨n,rfl,(Option.some.inj h).symm⟩
theorem atI_iv {ns : List Int} {i : Nat} {n : Int} (h : ns[i]? = some n) : atI (iv ns) (i : Int) = some (.int n) := atI_nat (by rw [List.getElem?_map,h]; rfl)
theorem small {n : Nat} (h : n ≤ 100000) : n < sizeLine := Nat.lt_of_le_of_lt h (by decide)
theorem small' {n : Nat} (h : n ≤ 100000) : n ≤ sizeLine := Nat.le_of_lt (small h)
theorem cutV_nn (xs : List V) (i j : Nat) : cutV xs (some (i : Int)) (some (j : Int)) = (xs.drop i).take (j - i) := by
  unfold cutV
  rw [HT.sIx_nat,HT.sIx_nat]
  by_cases h : i ≤ xs.length
  · rw [Nat.min_eq_left h]
    by_cases h2 : j ≤ xs.length
    · rw [Nat.min_eq_left h2]
    · rw [Nat.min_eq_right (by omega),List.take_of_length_le (by simp),List.take_of_length_le (by simp; omega)]
  · rw [List.drop_of_length_le (by omega),List.drop_of_length_le (by omega)]
    simp
theorem cutV_n (xs : List V) (i : Nat) : cutV xs (some (i : Int)) none = xs.drop i := by
  unfold cutV
  rw [HT.sIx_nat,HT.sIx_none]
  by_cases h : i ≤ xs.length
  · rw [Nat.min_eq_left h,List.take_of_length_le (by simp)]
  · rw [List.drop_of_length_le (by omega),List.drop_of_length_le (by omega)]
    simp
theorem pe_gint {X : Cx} {x : Str} {i : Int} {pos : Pos} (hg : Gl X x) (hm : ∃ t,X.mg x = some (.int i t)) (hd : (x == ("__debug__" : Str)) = false := by decide) : PE X (.Name x pos) (tC (.int i)) :=
  let ⟨t,e⟩ := hm; pe_glob hg e ⟨t,rfl⟩ hd
theorem units30 {A : Around} {k : Nat} (hr : Room k A) : A.units + 30 < cLine := by have := hr.un; omega
structure Dn (K : PySem.W.Frag) (mg : Str → Option Value) (x : Str) (st : Stmt) (ps : List Str) (f : Addr) (fd : FuncData) : Prop where
  F : Fun K x x st f fd
  b : Binds K fd ps []
  m : mg x = some (.ref f)
theorem eqT {K : PySem.W.Frag} {H : Hp} {a b : Addr} {ns ms : List Int} (ne : a ≠ b) (ha : H a = some (.tup (iv ns))) (hb : H b = some (.tup (iv ms))) : EqV K H 1 (.ref a) (.ref b) (decide (ns = ms)) := by
  have e := EqV.tup (K := K) (n := 0) (e := fun j => (ns.getD j 0) == (ms.getD j 0)) ne (SqT.of ha) (SqT.of hb) fun j x y hx hy => by
    obtain ⟨n,en,rfl⟩ := at_iv hx
    obtain ⟨m,em,rfl⟩ := at_iv hy
    have e1 : ns.getD j 0 = n := by rw [List.getD_eq_getElem?_getD,en]; rfl
    have e2 : ms.getD j 0 = m := by rw [List.getD_eq_getElem?_getD,em]; rfl
    rw [e1,e2]
    exact .int n m
  have q : ((List.range (min (iv ns).length (iv ms).length)).all (fun j => (ns.getD j 0) == (ms.getD j 0)) && (iv ns).length == (iv ms).length) = decide (ns = ms) := by
    rw [Bool.eq_iff_iff]
    simp only [List.length_map,Bool.and_eq_true,List.all_eq_true,List.mem_range,beq_iff_eq,decide_eq_true_eq]
    constructor
    · rintro ⟨h1,h2⟩
      refine List.ext_getElem h2 fun i h3 h4 => ?_
      have := h1 i (by omega)
      rw [List.getD_eq_getElem?_getD,List.getD_eq_getElem?_getD,List.getElem?_eq_getElem h3,List.getElem?_eq_getElem h4] at this
      exact this
    · rintro rfl
      exact ⟨fun _ _ => rfl,rfl⟩
  rw [q] at e
  exact e
end Ink
namespace Ink
open PySem L2
theorem iv_len (l : List Int) : (iv l).length = l.length := List.length_map _
theorem iv_take (n : Nat) (l : List Int) : iv (l.take n) = (iv l).take n := List.map_take
theorem iv_drop (n : Nat) (l : List Int) : iv (l.drop n) = (iv l).drop n := List.map_drop
theorem iv_app (l m : List Int) : iv (l ++ m) = iv l ++ iv m := List.map_append
theorem firstFit_some {rs : List Rule} {sh : List Int} {k i : Nat} {r : Rule} (h : rs[i]? = some r) (hf : fitB r sh k = true) (hn : ∀ j r',j < i → rs[j]? = some r' → fitB r' sh k = false) : firstFit rs sh k = some i := by
  unfold firstFit
  rw [List.findIdx?_eq_some_iff_getElem]
  obtain ⟨hi,e⟩ := List.getElem?_eq_some_iff.mp h
  refine ⟨hi,by rw [e]; exact hf,fun j hj => ?_⟩
  rw [hn j _ hj (List.getElem?_eq_getElem (by omega))]
  exact Bool.false_ne_true
theorem firstFit_none {rs : List Rule} {sh : List Int} {k : Nat} (hn : ∀ (j : Nat) (r' : Rule),rs[j]? = some r' → fitB r' sh k = false) : firstFit rs sh k = none := by
  unfold firstFit
  rw [List.findIdx?_eq_none_iff]
  intro r hr
  obtain ⟨i,hi⟩ := List.getElem?_of_mem hr
  exact hn i r hi
end Ink
namespace Ink
open PySem L2
theorem atI_lastq {α : Type} {xs : List α} {v : α} (h : xs.getLast? = some v) : atI xs (-1) = some v := by
  obtain ⟨ys,rfl⟩ : ∃ ys,xs = ys ++ [v] := by
    have hne : xs ≠ [] := by intro q; rw [q] at h; cases h
    refine ⟨xs.dropLast,?_⟩
    have := List.dropLast_concat_getLast hne
    rw [List.getLast?_eq_some_getLast hne] at h
    rw [Option.some.inj h] at this
    exact this.symm
  exact atI_last ys v
theorem first_at {row : List Int} {i : Nat} {n : Int} (h : row[i]? = some n) : (firstSlots row)[i]? = some (n,(i : Int),(i : Int) + 1) := by
  unfold firstSlots
  rw [List.getElem?_mapIdx,h]; rfl
theorem take_snoc {α : Type} {l : List α} {i : Nat} {x : α} (h : l[i]? = some x) : l.take (i + 1) = l.take i ++ [x] := by
  rw [List.take_add_one,h]; rfl
theorem first_len (row : List Int) : (firstSlots row).length = row.length := List.length_mapIdx
theorem pr_last {α β : Type} {F : α → β → Prop} {xs : List α} {ds : List β} {d : β} (h : Paired F xs ds) (e : ds.getLast? = some d) : ∃ x,xs.getLast? = some x ∧ F x d := by
  rw [List.getLast?_eq_getElem?] at e
  obtain ⟨x,h1,h2⟩ := pr_got h e
  refine ⟨x,?_,h2⟩
  rw [List.getLast?_eq_getElem?,pr_len h]; exact h1
theorem allOf_take {sh : List Int} {sl : List Slot} {i : Nat} {n : Int} {a z : Slot} (h : sh[i]? = some n) (ha : sl.head? = some a) (hz : sl.getLast? = some z) : (allOf sh sl).take (i + 1) = (allOf sh sl).take i ++ [(n,a.2.1,z.2.2)] := by
  refine take_snoc ?_
  unfold allOf
  rw [List.getElem?_map,h,ha,hz]; rfl
theorem allOf_len (sh : List Int) (sl : List Slot) : (allOf sh sl).length = sh.length := by unfold allOf; exact List.length_map _
theorem shp_len (sl : List Slot) : (shp sl).length = sl.length := List.length_map _
theorem shp_take {sl : List Slot} {i : Nat} {d : Slot} (h : sl[i]? = some d) : iv ((shp sl).take (i + 1)) = iv ((shp sl).take i) ++ [.int d.1] := by
  rw [take_snoc (x := d.1) (by unfold shp; rw [List.getElem?_map,h]; rfl),iv_app]; rfl
end Ink
namespace L2
open PySem PySem.Spec PyProof.Rows
theorem PI.or {X : Cx} {tg e : Expr} {wi wi' : TI} (h : PI X tg e wi) (h' : PI X tg e wi') : PI X tg e (fun σ H R => wi σ H R ∨ wi' σ H R) := fun pins s σ H R I q => q.elim (h pins s σ H R I) (h' pins s σ H R I)
theorem pi_seq {X : Cx} {tg l : Expr} {tl : TE} (hl : PE X l tl) : PI X tg l (fun σ H R => iList X.K tl σ H R ∨ iTup X.K tl σ H R) := PI.or (pi_list hl) (pi_tup hl)
end L2
namespace Ink
open PySem L2
theorem zb1 : ∀ z ∈ ([0,0,0,1,2,0,1,3] : List Int),0 ≤ z ∧ z ≤ 4 := by decide
theorem zb2 : ∀ z ∈ ([1,1,2,2,3,2,1,4] : List Int),0 ≤ z ∧ z ≤ 4 := by decide
theorem zb3 : ∀ z ∈ ([1,1,2,1,3] : List Int),0 ≤ z ∧ z ≤ 4 := by decide
theorem zc1 {n : Nat} (h : (n : Int) ∈ ([0,0,0,1,2,0,1,3] : List Int)) : n ≤ 3 := by simp at h; omega
theorem zc2 {n : Nat} (h : (n : Int) ∈ ([1,1,2,2,3,2,1,4] : List Int)) : 1 ≤ n ∧ n ≤ 4 := by simp at h; omega
theorem zc3 {n : Nat} (h : (n : Int) ∈ ([1,1,2,1,3] : List Int)) : 1 ≤ n ∧ n ≤ 3 := by simp at h; omega
inductive SpStandsI (vs : List V) (H : Hp) (Q : VK) (E_ : XK) : Prop
  | mk (vp vsh k p sh : _) (z0 : vs = [vp,vsh,.int k]) (z1 : IsT H vp p) (z2 : IsL H vsh sh) (z3 : ∀ H',Same H H' → Q (.bl (standsB p sh k)) H') : SpStandsI  vs H Q E_
noncomputable def spStands : Sp := fun vs H Q E => SpStandsI  vs H Q E
inductive SpFitsI (vs : List V) (H : Hp) (Q : VK) (E_ : XK) : Prop
  | mk (vr vsh : _) (k : Nat) (r sh : _) (z0 : vs = [vr,vsh,.int (k : Int)]) (z1 : IsRule H vr r) (z2 : IsL H vsh sh) (z3 : ∀ H',Same H H' → Q (.bl (fitB r sh k)) H') : SpFitsI  vs H Q E_
noncomputable def spFits : Sp := fun vs H Q E => SpFitsI  vs H Q E
noncomputable def vOpt : Option Nat → V
  | none => .non
  | some j => .int (j : Int)
inductive SpFirstI (vs : List V) (H : Hp) (Q : VK) (E_ : XK) : Prop
  | mk (vr vsh : _) (k : Nat) (rs sh : _) (z0 : vs = [vr,vsh,.int (k : Int)]) (z1 : IsRules H vr rs) (z2 : IsL H vsh sh) (z3 : ∀ H',Same H H' → Q (vOpt (firstFit rs sh k)) H') : SpFirstI  vs H Q E_
noncomputable def spFirst : Sp := fun vs H Q E => SpFirstI  vs H Q E
inductive SpDoingsI (vs : List V) (H : Hp) (Q : VK) (E_ : XK) : Prop
  | mk (vr vsh rs sh : _) (z0 : vs = [vr,vsh]) (z1 : IsRules H vr rs) (z2 : IsL H vsh sh) (z3 : RulesOk rs) (z4 : sh.length ≤ 10000) (z5 : ∀ p xs H',Same H H' → H p = none → H' p = some (.lst xs) → Paired (IsP H') xs (doer rs sh 0) → Q (.ref p) H') : SpDoingsI  vs H Q E_
noncomputable def spDoings : Sp := fun vs H Q E => SpDoingsI  vs H Q E
inductive SpAllOfI (vs : List V) (H : Hp) (Q : VK) (E_ : XK) : Prop
  | mk (vsh vsl sh sl : _) (z0 : vs = [vsh,vsl]) (z1 : (IsL H vsh sh ∨ IsT H vsh sh)) (z2 : IsSlots H vsl sl) (z3 : sl ≠ []) (z4 : sh.length ≤ 10000) (z5 : ∀ p xs H',Same H H' → H p = none → H' p = some (.lst xs) → Paired (IsS H') xs (allOf sh sl) → Q (.ref p) H') : SpAllOfI  vs H Q E_
noncomputable def spAllOf : Sp := fun vs H Q E => SpAllOfI  vs H Q E
inductive SpFirstSlotsI (vs : List V) (H : Hp) (Q : VK) (E_ : XK) : Prop
  | mk (vrow row : _) (z0 : vs = [vrow]) (z1 : IsL H vrow row) (z2 : row.length ≤ 10000) (z3 : ∀ p xs H',Same H H' → H p = none → H' p = some (.lst xs) → Paired (IsS H') xs (firstSlots row) → Q (.ref p) H') : SpFirstSlotsI  vs H Q E_
noncomputable def spFirstSlots : Sp := fun vs H Q E => SpFirstSlotsI  vs H Q E
inductive SpPassedSlotsI (vs : List V) (H : Hp) (Q : VK) (E_ : XK) : Prop
  | mk (vr vsl rs sl : _) (z0 : vs = [vr,vsl]) (z1 : IsRules H vr rs) (z2 : IsSlots H vsl sl) (z3 : RulesOk rs) (z4 : sl.length ≤ 10000) (z5 : ∀ p xs H',Same H H' → H p = none → H' p = some (.lst xs) → Paired (IsS H') xs (passedSlots rs sl) → Q (.ref p) H') : SpPassedSlotsI  vs H Q E_
noncomputable def spPassedSlots : Sp := fun vs H Q E => SpPassedSlotsI  vs H Q E
inductive SpShapesOfI (vs : List V) (H : Hp) (Q : VK) (E_ : XK) : Prop
  | mk (vsl sl : _) (z0 : vs = [vsl]) (z1 : IsSlots H vsl sl) (z2 : sl.length ≤ 100000) (z3 : ∀ p H',Same H H' → H p = none → H' p = some (.lst (iv (shp sl))) → Q (.ref p) H') : SpShapesOfI  vs H Q E_
noncomputable def spShapesOf : Sp := fun vs H Q E => SpShapesOfI  vs H Q E
inductive SpChainsI (vs : List V) (H : Hp) (Q : VK) (E_ : XK) : Prop
  | mk (vsl sl : _) (z0 : vs = [vsl]) (z1 : IsSlots H vsl sl) (z2 : sl.length ≤ 100000) (z3 : ∀ p xs H',Same H H' → H p = none → H' p = some (.lst xs) → Paired (IsSlots H') xs (grp sl) → Q (.ref p) H') : SpChainsI  vs H Q E_
noncomputable def spChains : Sp := fun vs H Q E => SpChainsI  vs H Q E
inductive SpMeltedI (vs : List V) (H : Hp) (Q : VK) (E_ : XK) : Prop
  | mk (vsl sl : _) (z0 : vs = [vsl]) (z1 : IsSlots H vsl sl) (z2 : sl.length ≤ 10000) (z3 : ∀ p xs H',Same H H' → H p = none → H' p = some (.lst xs) → Paired (IsS H') xs (melt sl) → Q (.ref p) H') : SpMeltedI  vs H Q E_
noncomputable def spMelted : Sp := fun vs H Q E => SpMeltedI  vs H Q E
inductive SpCellAtI (K : PySem.W.Frag) (vs : List V) (H : Hp) (Q : VK) (E_ : XK) : Prop
  | mk (a ns : _) (k : Int) (z0 : vs = [.ref a,.int k]) (z1 : 0 ≤ k) (z2 : SqL K H a (iv ns)) (z3 : ∀ c : Int,Q (.int c) H) : SpCellAtI K vs H Q E_
noncomputable def spCellAt (K : PySem.W.Frag) : Sp := fun vs H Q E => SpCellAtI K vs H Q E
noncomputable def IsCaseV (H : Hp) (v : V) (ps : List (List Rule)) (vw vn : V) : Prop := Ex4 fun a vp b xs => And5 (v = .ref a) (H a = some (.tup [vp,vw,vn])) (vp = .ref b) (H b = some (.lst xs)) (Paired (IsRules H) xs ps)
theorem prR_same {H H' : Hp} {xs : List V} {ps : List (List Rule)} (h : Paired (IsRules H) xs ps) (s : Same H H') : Paired (IsRules H') xs ps := Paired.imp' (fun _ _ q => q.same tR s) h
theorem IsCaseV.same {H H' : Hp} {v vw vn : V} {ps : List (List Rule)} (h : IsCaseV H v ps vw vn) (s : Same H H') : IsCaseV H' v ps vw vn :=
  let ⟨a,vp,b,xs,e,q,e2,q2,p⟩ := h; ⟨a,vp,b,xs,e,s a _ q,e2,s b _ q2,prR_same p s⟩
inductive SpRowsAlongI (vs : List V) (H : Hp) (Q : VK) (E_ : XK) : Prop
  | mk (vc vw vn vr ps row : _) (z0 : vs = [vc,vr]) (z1 : IsCaseV H vc ps vw vn) (z2 : IsL H vr row) (z3 : PassesOk ps) (z4 : ps.length ≤ 100) (z5 : row.length * 3 ^ ps.length ≤ 10000) (z6 : ∀ p xs H',Same H H' → H p = none → H' p = some (.lst xs) → Paired (fun x sl => (∀ q,x = .ref q → H q = none) ∧ IsSlots H' x sl) xs (rowsA ps row) → Q (.ref p) H') : SpRowsAlongI  vs H Q E_
noncomputable def spRowsAlong : Sp := fun vs H Q E => SpRowsAlongI  vs H Q E
inductive SpSetRowI (vs : List V) (H : Hp) (Q : VK) (E_ : XK) : Prop
  | mk (vc vw vn vr ps row : _) (z0 : vs = [vc,vr]) (z1 : IsCaseV H vc ps vw vn) (z2 : IsL H vr row) (z3 : PassesOk ps) (z4 : ps.length ≤ 100) (z5 : row.length * 3 ^ ps.length ≤ 10000) (z6 : ∀ p xs H',Same H H' → H p = none → H' p = some (.lst xs) → Paired (IsS H') xs (setRow ps row) → Q (.ref p) H') : SpSetRowI  vs H Q E_
noncomputable def spSetRow : Sp := fun vs H Q E => SpSetRowI  vs H Q E
inductive SpWholeI (vs : List V) (H : Hp) (Q : VK) (E_ : XK) : Prop
  | mk (i : _) (z0 : vs = [.int i]) (z1 : Q (.bl true) H) : SpWholeI  vs H Q E_
noncomputable def spWhole : Sp := fun vs H Q E => SpWholeI  vs H Q E
inductive SpMixI (vs : List V) (H : Hp) (Q : VK) (E_ : XK) : Prop
  | mk (c k : _) (z0 : vs = [.int c,.int k]) (z1 : ∀ m : Int,0 ≤ m → m < 2147483647 → Q (.int m) H) : SpMixI  vs H Q E_
noncomputable def spMix : Sp := fun vs H Q E => SpMixI  vs H Q E
inductive SpPartI (vs : List V) (H : Hp) (Q : VK) (E_ : XK) : Prop
  | mk (c k vz vt zs ns : _) (z0 : vs = [.int c,.int k,vz,vt]) (z1 : IsL H vz zs) (z2 : zs ≠ []) (z3 : (∀ z ∈ zs,0 ≤ z ∧ z ≤ 4)) (z4 : IsL H vt ns) (z5 : ns ≠ []) (z6 : ns.length ≤ 1000) (z7 : zs.length ≤ 1000) (z8 : ∀ v t H',Same H H' → IsT H' v t → (t.length : Int) ∈ zs → Q v H') : SpPartI  vs H Q E_
noncomputable def spPart : Sp := fun vs H Q E => SpPartI  vs H Q E
noncomputable def ROk (r : Rule) : Prop := 1 ≤ r.t.length ∧ r.t.length ≤ 4 ∧ r.b.length ≤ 3 ∧ r.a.length ≤ 3 ∧ 1 ≤ r.g.length ∧ r.g.length ≤ 3
inductive SpRuleI (vs : List V) (H : Hp) (Q : VK) (E_ : XK) : Prop
  | mk (c vt ns : _) (z0 : vs = [.int c,vt]) (z1 : IsL H vt ns) (z2 : ns ≠ []) (z3 : ns.length ≤ 1000) (z4 : ∀ v r H',Same H H' → IsRule H' v r → ROk r → Q v H') : SpRuleI  vs H Q E_
noncomputable def spRule : Sp := fun vs H Q E => SpRuleI  vs H Q E
inductive SpPassesI (K : PySem.W.Frag) (vs : List V) (H : Hp) (Q : VK) (E_ : XK) : Prop
  | mk (a ns vt st : _) (start many rules : Nat) (z0 : vs = [.ref a,.int (start : Int),.int (many : Int),.int (rules : Int),vt]) (z1 : SqL K H a (iv ns)) (z2 : IsL H vt st) (z3 : st ≠ []) (z4 : st.length ≤ 1000) (z5 : many ≤ 100) (z6 : rules ≤ 100) (z7 : ∀ p xs ps H',Same H H' → H p = none → H' p = some (.lst xs) → Paired (fun x rs => x ≠ .ref p ∧ IsRules H' x rs) xs ps → PassesOk ps → ps.length = many → (∀ rs ∈ ps,rs.length = rules) → Q (.ref p) H') : SpPassesI K vs H Q E_
noncomputable def spPasses (K : PySem.W.Frag) : Sp := fun vs H Q E => SpPassesI K vs H Q E
inductive SpLettersI (K : PySem.W.Frag) (vs : List V) (H : Hp) (Q : VK) (E_ : XK) : Prop
  | mk (a ns vt st : _) (start many : Nat) (z0 : vs = [.ref a,.int (start : Int),.int (many : Int),vt]) (z1 : SqL K H a (iv ns)) (z2 : IsL H vt st) (z3 : st ≠ []) (z4 : st.length ≤ 1000) (z5 : many ≤ 1000) (z6 : ∀ p ls H',Same H H' → H p = none → H' p = some (.lst (iv ls)) → ls.length = many → Q (.ref p) H') : SpLettersI K vs H Q E_
noncomputable def spLetters (K : PySem.W.Frag) : Sp := fun vs H Q E => SpLettersI K vs H Q E
inductive SpLawFitsI (vs : List V) (H : Hp) (Q : VK) (E_ : XK) : Prop
  | mk (vr vsh : _) (k : Nat) (r sh : _) (z0 : vs = [vr,vsh,.int (k : Int)]) (z1 : IsRule H vr r) (z2 : IsL H vsh sh) (z3 : sh.length ≤ 10000) (z4 : k ≤ sh.length) (z5 : r.b.length + r.t.length + r.a.length ≤ 100) (z6 : ∀ H',Same H H' → Q (.bl (fitL r sh k)) H') : SpLawFitsI  vs H Q E_
noncomputable def spLawFits : Sp := fun vs H Q E => SpLawFitsI  vs H Q E
inductive SpSameI (vs : List V) (H : Hp) (Q : VK) (E_ : XK) : Prop
  | mk (vf vd ts : _) (z0 : vs = [vf,vd]) (z1 : LstOf IsT H vf ts) (z2 : LstOf IsT H vd ts) (z3 : ts.length ≤ 10000) (z4 : (∀ t ∈ ts,t.length ≤ 100)) (z5 : Q (.bl true) H) : SpSameI  vs H Q E_
noncomputable def spSame : Sp := fun vs H Q E => SpSameI  vs H Q E
inductive SpLawI (K : PySem.W.Frag) (vs : List V) (H : Hp) (Q : VK) (E_ : XK) : Prop
  | mk (a : Addr) (ns : List Int) (z0 : vs = [.ref a]) (z1 : SqL K H a (iv ns)) (z2 : ns.length ≤ 63) (z3 : ∀ H',Q (.bl true) H') : SpLawI K vs H Q E_
noncomputable def spLaw (K : PySem.W.Frag) : Sp := fun vs H Q E => SpLawI K vs H Q E
end Ink
namespace Ink
open PySem L2
theorem pr_impm {α β : Type} {F G : α → β → Prop} : ∀ {xs : List α} {ds : List β},Paired F xs ds → (∀ x d,x ∈ xs → F x d → G x d) → Paired G xs ds := by
  intro xs ds g
  induction g with
  | nil => exact fun _ => .nil
  | cons r t ih => exact fun h => .cons (h _ _ List.mem_cons_self r) (ih fun x d m => h x d (List.mem_cons_of_mem _ m))
theorem pr_dropLast {α β : Type} {F : α → β → Prop} {xs : List α} {ds : List β} (h : Paired F xs ds) : Paired F xs.dropLast ds.dropLast := by
  rw [List.dropLast_eq_take,List.dropLast_eq_take,pr_len h]
  exact pr_take _ h
theorem last_split {α : Type} {l : List α} {z : α} (h : l.getLast? = some z) : l = l.dropLast ++ [z] := by
  have hne : l ≠ [] := fun q => by rw [q] at h; cases h
  have := List.dropLast_concat_getLast hne
  rw [List.getLast?_eq_some_getLast hne] at h
  rw [Option.some.inj h] at this
  exact this.symm
theorem lst_off {α : Type} {R : Hp → V → α → Prop} (t : TpsR R) {H : Hp} {fo : Addr} {ys : List V} {o : HO} {x : V} {ds : List α} (h : x ≠ .ref fo) (hfo : H fo = some (.lst ys)) (hx : LstOf R H x ds) : LstOf R (upd H fo o) x ds := by
  obtain ⟨a,xs,rfl,q,p⟩ := hx
  exact ⟨a,xs,rfl,by rw [upd_ne (fun z => h (congrArg V.ref z))]; exact q,pr_tps t p (Tps.lst hfo)⟩
theorem rules_off {H : Hp} {fo : Addr} {ys : List V} {o : HO} {x : V} {rs : List Rule} (h : x ≠ .ref fo) (hfo : H fo = some (.lst ys)) (hx : IsRules H x rs) : IsRules (upd H fo o) x rs := lst_off tR h hfo hx
end Ink
namespace Ink
open PySem L2
theorem range_all {n : Nat} {e : Nat → Bool} (h : ∀ j,j < n → e j = true) : (List.range n).all e = true := by
  rw [List.all_eq_true]; intro j hj; exact h j (List.mem_range.mp hj)
theorem eqL {K : PySem.W.Frag} {H : Hp} {a b : Addr} {ns ms : List Int} (ne : a ≠ b) (ha : H a = some (.lst (iv ns))) (hb : H b = some (.lst (iv ms))) : EqV K H 1 (.ref a) (.ref b) (decide (ns = ms)) := by
  by_cases hl : ns.length = ms.length
  · have e := EqV.lst (K := K) (n := 0) (e := fun j => (ns.getD j 0) == (ms.getD j 0)) ne (SqL.of ha) (SqL.of hb) (by rw [iv_len,iv_len]; exact hl) fun j x y hx hy => by
      obtain ⟨n,en,rfl⟩ := at_iv hx
      obtain ⟨m,em,rfl⟩ := at_iv hy
      have e1 : ns.getD j 0 = n := by rw [List.getD_eq_getElem?_getD,en]; rfl
      have e2 : ms.getD j 0 = m := by rw [List.getD_eq_getElem?_getD,em]; rfl
      rw [e1,e2]
      exact .int n m
    have q : (List.range (iv ns).length).all (fun j => (ns.getD j 0) == (ms.getD j 0)) = decide (ns = ms) := by
      rw [Bool.eq_iff_iff]
      simp only [List.length_map,List.all_eq_true,List.mem_range,beq_iff_eq,decide_eq_true_eq]
      constructor
      · intro h1
        refine List.ext_getElem hl fun i h3 h4 => ?_
        have := h1 i (by omega)
        rw [List.getD_eq_getElem?_getD,List.getD_eq_getElem?_getD,List.getElem?_eq_getElem h3,List.getElem?_eq_getElem h4] at this
        exact this
      · rintro rfl
        exact fun _ _ => rfl
    rw [q] at e
    exact e
  · rw [decide_eq_false (fun q => hl (congrArg List.length q))]
    exact .lstL ne (SqL.of ha) (SqL.of hb) (by rw [iv_len,iv_len]; exact hl)
theorem eqSame {K : PySem.W.Frag} {H : Hp} {a b : Addr} {xs : List V} (ne : a ≠ b) (ha : H a = some (.lst xs)) (hb : H b = some (.lst xs)) (h : ∀ x ∈ xs,∃ q,x = .ref q) : EqV K H 1 (.ref a) (.ref b) true := by
  have e := EqV.lst (K := K) (n := 0) (e := fun _ => true) ne (SqL.of ha) (SqL.of hb) rfl fun j x y hx hy => by
    rw [hx] at hy
    obtain ⟨q,rfl⟩ := h x (List.mem_of_getElem? hx)
    rw [← Option.some.inj hy]
    exact .same _ (fun _ z => nomatch z) (fun _ z => nomatch z)
  rw [range_all (fun _ _ => rfl)] at e
  exact e
theorem IsP.t {H : Hp} {v : V} {d : Nat × Nat} (h : IsP H v d) : IsT H v [(d.1 : Int),(d.2 : Int)] := h
theorem pr_map {α β γ : Type} {F : α → β → Prop} {G : α → γ → Prop} {g : β → γ} (h : ∀ x d,F x d → G x (g d)) : ∀ {xs : List α} {ds : List β},Paired F xs ds → Paired G xs (ds.map g) := by
  intro xs ds p
  induction p with
  | nil => exact .nil
  | cons r t ih => exact .cons (h _ _ r) ih
noncomputable def winR (r : Rule) : List Int := r.b ++ r.t ++ r.a
theorem fitL_no {r : Rule} {sh : List Int} {k : Nat} (hk : k ≤ sh.length) (h : k < r.b.length ∨ sh.length + r.b.length < k + (winR r).length) : fitL r sh k = false := by
  unfold fitL
  by_cases hb : r.b.length ≤ k
  · rw [decide_eq_true hb,Bool.true_and]
    refine decide_eq_false fun q => ?_
    have := congrArg List.length q
    rw [List.length_take,List.length_drop] at this
    change min (winR r).length (sh.length - (k - r.b.length)) = (winR r).length at this
    have h3 := Nat.min_le_right (winR r).length (sh.length - (k - r.b.length))
    rw [this] at h3
    clear this
    omega
  · rw [decide_eq_false hb,Bool.false_and]
theorem fitL_iff {r : Rule} {sh : List Int} {k : Nat} (hb : r.b.length ≤ k) (hl : k - r.b.length + (winR r).length ≤ sh.length) : fitL r sh k = true ↔ ∀ j,j < (winR r).length → sh[k - r.b.length + j]? = (winR r)[j]? := by
  unfold fitL
  rw [decide_eq_true hb,Bool.true_and,decide_eq_true_eq]
  change (sh.drop (k - r.b.length)).take (winR r).length = winR r ↔ _
  constructor
  · intro h j hj
    have this : ((sh.drop (k - r.b.length)).take (winR r).length)[j]? = (winR r)[j]? := congrArg (fun l => l[j]?) h
    rw [List.getElem?_take,if_pos hj,List.getElem?_drop] at this
    exact this
  · intro h
    refine List.ext_getElem? fun j => ?_
    rw [List.getElem?_take]
    by_cases hj : j < (winR r).length
    · rw [if_pos hj,List.getElem?_drop]; exact h j hj
    · rw [if_neg hj,List.getElem?_eq_none (by omega)]
inductive SpLawDoingsI (vs : List V) (H : Hp) (Q : VK) (E_ : XK) : Prop
  | mk (vr vsh rs sh : _) (z0 : vs = [vr,vsh]) (z1 : IsRules H vr rs) (z2 : IsL H vsh sh) (z3 : RulesOk rs) (z4 : rs.length ≤ 100) (z5 : sh.length ≤ 10000) (z6 : ∀ p xs H',Same H H' → H p = none → H' p = some (.lst xs) → Paired (IsP H') xs (doer rs sh 0) → Q (.ref p) H') : SpLawDoingsI  vs H Q E_
noncomputable def spLawDoings : Sp := fun vs H Q E => SpLawDoingsI  vs H Q E
noncomputable def goodP (rs : List Rule) (sh : List Int) (k : Nat) (j : Nat) : Bool := ((rs[j]?).map fun r => fitB r sh k).getD false
noncomputable def goodL (rs : List Rule) (sh : List Int) (k i : Nat) : List Nat := (List.range i).filter (goodP rs sh k)
theorem goodP_of {rs : List Rule} {sh : List Int} {k j : Nat} {r : Rule} (h : rs[j]? = some r) : goodP rs sh k j = fitB r sh k := by unfold goodP; rw [h]; rfl
theorem goodL_succ {rs : List Rule} {sh : List Int} {k i : Nat} : goodL rs sh k (i + 1) = goodL rs sh k i ++ if goodP rs sh k i = true then [i] else [] := by
  unfold goodL
  rw [List.range_succ,List.filter_append]
  congr 1
  by_cases h : goodP rs sh k i = true
  · rw [if_pos h]; simp [h]
  · rw [if_neg h]; simp [h]
theorem goodL_len (rs : List Rule) (sh : List Int) (k i : Nat) : (goodL rs sh k i).length ≤ i := by
  have := List.length_filter_le (goodP rs sh k) (List.range i)
  rw [List.length_range] at this; exact this
theorem goodL_first (rs : List Rule) (sh : List Int) (k : Nat) : (goodL rs sh k rs.length).head? = firstFit rs sh k := filter_first rs _ _ fun _ _ h => goodP_of h
noncomputable abbrev nv' (l : List Nat) : List Int := l.map fun (n : Nat) => (n : Int)
end Ink
namespace Ink
open PySem L2
noncomputable def IntVals {κ : Type} [DecidableEq κ] (kvs : List (κ × V)) : Prop := ∀ k v,valV kvs k = some v → ∃ i,v = .int i
noncomputable def vInt : V → Int
  | .int i => i
  | _ => 0
noncomputable def wdOf (kvs : List (Key × V)) (s : Int) : Int := vInt ((valV kvs (Sum.inl s)).getD (.int 10))
noncomputable def nrOf (kvs : List (List Key × V)) (s t : Int) : Int := vInt ((valV kvs [Sum.inl s,Sum.inl t]).getD (.int 0))
theorem intVals_get {κ : Type} [DecidableEq κ] {kvs : List (κ × V)} (h : IntVals kvs) (k : κ) (d : Int) : (valV kvs k).getD (.int d) = .int (vInt ((valV kvs k).getD (.int d))) := by
  cases e : valV kvs k with
  | none => rfl
  | some v => obtain ⟨i,rfl⟩ := h k v e; rfl
noncomputable def IsW (H : Hp) (v : V) (kvs : List (Key × V)) : Prop := ∃ a,v = .ref a ∧ H a = some (.dK kvs) ∧ IntVals kvs
noncomputable def IsN (H : Hp) (v : V) (kvs : List (List Key × V)) : Prop := ∃ a,v = .ref a ∧ H a = some (.dT kvs) ∧ IntVals kvs
theorem IsW.same {H H' : Hp} {v : V} {kvs : List (Key × V)} (h : IsW H v kvs) (s : Same H H') : IsW H' v kvs := let ⟨a,e,q,i⟩ := h; ⟨a,e,s a _ q,i⟩
theorem IsN.same {H H' : Hp} {v : V} {kvs : List (List Key × V)} (h : IsN H v kvs) (s : Same H H') : IsN H' v kvs := let ⟨a,e,q,i⟩ := h; ⟨a,e,s a _ q,i⟩
noncomputable def IsCase (H : Hp) (v : V) (ps : List (List Rule)) (kw : List (Key × V)) (kn : List (List Key × V)) : Prop := Ex2 fun vw vn => And3 (IsCaseV H v ps vw vn) (IsW H vw kw) (IsN H vn kn)
theorem IsCase.same {H H' : Hp} {v : V} {ps : List (List Rule)} {kw : List (Key × V)} {kn : List (List Key × V)} (h : IsCase H v ps kw kn) (s : Same H H') : IsCase H' v ps kw kn :=
  let ⟨vw,vn,c,w,n⟩ := h; ⟨vw,vn,c.same s,w.same s,n.same s⟩
inductive SpWidthOfI (vs : List V) (H : Hp) (Q : VK) (E_ : XK) : Prop
  | mk (vc ps kw kn s : _) (z0 : vs = [vc,.int s]) (z1 : IsCase H vc ps kw kn) (z2 : Q (.int (wdOf kw s)) H) : SpWidthOfI  vs H Q E_
noncomputable def spWidthOf : Sp := fun vs H Q E => SpWidthOfI  vs H Q E
inductive SpNearOfI (vs : List V) (H : Hp) (Q : VK) (E_ : XK) : Prop
  | mk (vc ps kw kn s t : _) (z0 : vs = [vc,.int s,.int t]) (z1 : IsCase H vc ps kw kn) (z2 : ∀ H',Same H H' → Q (.int (nrOf kn s t)) H') : SpNearOfI  vs H Q E_
noncomputable def spNearOf : Sp := fun vs H Q E => SpNearOfI  vs H Q E
theorem ite_join {c : Prop} [Decidable c] {A : Prop} {R : St → Hp → Prop} {σ : St} {H : Hp} (P : St → Hp → Prop) (hP : ∀ σ H,P σ H → R σ H) (h1 : (∀ σ H,P σ H → R σ H) → c → A) (h2 : ¬ c → P σ H) : if c then A else R σ H := by
  by_cases h : c
  · rw [if_pos h]; exact h1 hP h
  · rw [if_neg h]; exact hP _ _ (h2 h)
end Ink
namespace Ink
open PySem L2
end Ink
namespace Ink
open PySem L2
theorem ixN_nat {n j : Nat} (h : j < n) : ixN n (j : Int) = some j := by
  unfold ixN
  rw [if_pos (by omega),if_pos (by omega)]; simp
noncomputable abbrev bv (bs : List Bool) : List V := bs.map V.bl
theorem atI_bv {bs : List Bool} {i : Nat} {b : Bool} (h : bs[i]? = some b) : atI (bv bs) (i : Int) = some (.bl b) := atI_nat (by rw [List.getElem?_map,h]; rfl)
inductive SpBundledI (vs : List V) (H : Hp) (Q : VK) (E_ : XK) : Prop
  | mk (vrow sl : _) (many : Nat) (z0 : vs = [vrow,.int (many : Int)]) (z1 : IsSlots H vrow sl) (z2 : Wk sl 0 (many : Int)) (z3 : many ≤ 10000) (z4 : sl.length ≤ 10000) (z5 : ∀ p xs H',Same H H' → H p = none → H' p = some (.lst xs) → Paired (IsS H') xs (melt sl) → Q (.ref p) H') : SpBundledI  vs H Q E_
noncomputable def spBundled : Sp := fun vs H Q E => SpBundledI  vs H Q E
inductive SpNextRowI (vs : List V) (H : Hp) (Q : VK) (E_ : XK) : Prop
  | mk (vr vrow rs sl : _) (many : Nat) (z0 : vs = [vr,vrow,.int (many : Int)]) (z1 : IsRules H vr rs) (z2 : IsSlots H vrow sl) (z3 : RulesOk rs) (z4 : rs.length ≤ 100) (z5 : Sg sl 0 (many : Int)) (z6 : many ≤ 10000) (z7 : sl.length ≤ 3000) (z8 : ∀ p xs H',Same H H' → H p = none → H' p = some (.lst xs) → Paired (IsS H') xs (melt (passedSlots rs sl)) → Q (.ref p) H') : SpNextRowI  vs H Q E_
noncomputable def spNextRow : Sp := fun vs H Q E => SpNextRowI  vs H Q E
inductive SpLawRowsI (vs : List V) (H : Hp) (Q : VK) (E_ : XK) : Prop
  | mk (b xs vl ps row : _) (z0 : vs = [.ref b,vl]) (z1 : H b = some (.lst xs)) (z2 : Paired (IsRules H) xs ps) (z3 : IsL H vl row) (z4 : PassesOk ps) (z5 : (∀ rs ∈ ps,rs.length ≤ 100)) (z6 : ps.length ≤ 4) (z7 : row.length * 3 ^ ps.length ≤ 9000) (z8 : ∀ p xs H',Same H H' → H p = none → H' p = some (.lst xs) → Paired (fun x sl => (∀ q,x = .ref q → H q = none) ∧ IsSlots H' x sl) xs (rowsA ps row) → Q (.ref p) H') : SpLawRowsI  vs H Q E_
noncomputable def spLawRows : Sp := fun vs H Q E => SpLawRowsI  vs H Q E
theorem inside_take {sl : List Slot} {i : Nat} {d : Slot} (h : sl[i]? = some d) (p : Int) : inside (sl.take (i + 1)) p ↔ inside (sl.take i) p ∨ (slo d < p ∧ p < shi d) := by
  unfold inside
  rw [take_snoc h]
  constructor
  · rintro ⟨s,hs,h1⟩
    rcases List.mem_append.mp hs with hs | hs
    · exact .inl ⟨s,hs,h1⟩
    · rw [List.mem_singleton.mp hs] at h1; exact .inr h1
  · rintro (⟨s,hs,h1⟩ | h1)
    · exact ⟨s,List.mem_append_left _ hs,h1⟩
    · exact ⟨d,List.mem_append_right _ (List.mem_singleton.mpr rfl),h1⟩
theorem Wk.bounds {l : List Slot} {n : Int} (h : Wk l 0 n) : ∀ s ∈ l,0 ≤ slo s ∧ slo s < shi s ∧ shi s ≤ n := fun s hs => ⟨h.lo s hs,h.pos s hs,h.hi s hs⟩
theorem mem_chain {l : List Slot} {n : Int} (h : Wk l 0 n) {c : List Slot} (hc : c ∈ grp l) : 0 ≤ hdLo c ∧ lsHi c ≤ n := by
  have hne := grp_nonempty l c hc
  have hsub : ∀ s ∈ c,s ∈ l := (grp_cc h.ch h.pos).2 c hc |>.2
  obtain ⟨a,ha⟩ := exHead hne
  obtain ⟨z,hz⟩ := exLast hne
  rw [hdLo_of ha,lsHi_of hz]
  exact ⟨h.lo a (hsub a (headMem ha)),h.hi z (hsub z (lastMem hz))⟩
end Ink
namespace Ink
open PySem L2
noncomputable def Cp (H : Hp) (x y : V) : Prop := Ex3 fun a b zs => And6 (x = .ref a) (y = .ref b) (a ≠ b) (H a = some (.lst zs)) (H b = some (.lst zs)) (∀ z ∈ zs,∃ q,z = .ref q)
theorem eqCp {K : PySem.W.Frag} {H : Hp} {a b : Addr} {xs ys : List V} (ne : a ≠ b) (ha : H a = some (.lst xs)) (hb : H b = some (.lst ys)) (hp : Paired (Cp H) xs ys) : EqV K H 2 (.ref a) (.ref b) true := by
  have e := EqV.lst (K := K) (n := 1) (e := fun _ => true) ne (SqL.of ha) (SqL.of hb) (pr_len hp) fun j x y h1 h2 => by
    obtain ⟨y',e1,a',b',zs,rfl,rfl,ne',h3,h4,h5⟩ := pr_get hp h1
    rw [h2] at e1; cases e1
    exact eqSame ne' h3 h4 h5
  rw [range_all (fun _ _ => rfl)] at e
  exact e
theorem rules_refs {H : Hp} {xs : List V} {rs : List Rule} (h : Paired (IsRule H) xs rs) : ∀ z ∈ xs,∃ q,z = .ref q := fun z hz => by
  obtain ⟨i,hi⟩ := List.getElem?_of_mem hz
  obtain ⟨d,_,a',_,_,_,_,e,_⟩ := pr_get h hi
  exact ⟨a',e⟩
end Ink
namespace Ink
open PySem L2
end Ink
namespace Ink
open PySem L2
noncomputable def IsQ (H : Hp) (v : V) (d : Int × Int) : Prop := ∃ a,v = .ref a ∧ H a = some (.tup [.int d.1,.int d.2])
theorem tQ : TpsR IsQ := fun _ _ _ _ h t => let ⟨a,e,q⟩ := h; ⟨a,e,t a _ q⟩
inductive SpSpansI (vs : List V) (H : Hp) (Q : VK) (E_ : XK) : Prop
  | mk (vc vsl ps kw kn sl : _) (z0 : vs = [vc,vsl]) (z1 : IsCase H vc ps kw kn) (z2 : IsSlots H vsl sl) (z3 : sl.length ≤ 100000) (z4 : ∀ p xs H',Same H H' → H p = none → H' p = some (.lst xs) → Paired (IsQ H') xs (spansL (wdOf kw) (nrOf kn) (shp sl)) → Q (.ref p) H') : SpSpansI  vs H Q E_
noncomputable def spSpans : Sp := fun vs H Q E => SpSpansI  vs H Q E
inductive SpWholeWI (vs : List V) (H : Hp) (Q : VK) (E_ : XK) : Prop
  | mk (v wd nr sh : _) (z0 : vs = [v]) (z1 : LstOf IsQ H v (spansL wd nr sh)) (z2 : Q (.int (widthS wd nr sh)) H) : SpWholeWI  vs H Q E_
noncomputable def spWholeW : Sp := fun vs H Q E => SpWholeWI  vs H Q E
noncomputable def IsBar (H : Hp) (v : V) : Bar → Prop
  | .rule t a n => ∃ q,v = .ref q ∧ H q = some (.tup [.str "rule",.int (t : Int),.int (a : Int),.int (n : Int)])
  | .near a => ∃ q,v = .ref q ∧ H q = some (.tup [.str "near",.int (a : Int)])
theorem tBar : TpsR IsBar := fun _ _ _ b h t => match b,h with
  | .rule _ _ _,⟨q,e,h⟩ => ⟨q,e,t q _ h⟩
  | .near _,⟨q,e,h⟩ => ⟨q,e,t q _ h⟩
noncomputable def BR (H : Hp) (kvs : List (Key × V)) (ev : List (Int × Bar)) : Prop := ∀ p : Int,(barOf ev p = none ∧ valV kvs (Sum.inl p) = none) ∨ ∃ b v,barOf ev p = some b ∧ valV kvs (Sum.inl p) = some v ∧ IsBar H v b
theorem BR.tps {H H' : Hp} {kvs : List (Key × V)} {ev : List (Int × Bar)} (h : BR H kvs ev) (t : Tps H H') : BR H' kvs ev := fun p => (h p).imp id fun ⟨b,v,h1,h2,h3⟩ => ⟨b,v,h1,h2,tBar _ _ _ _ h3 t⟩
theorem BR.old {H : Hp} {kvs : List (Key × V)} {ev : List (Int × Bar)} {q : Int} {b : Bar} {v : V} (h : BR H kvs ev) (hv : valV kvs (Sum.inl q) = some v) : BR H kvs (ev ++ [(q,b)]) := fun p => by
  rw [barOf_app,barOf_one]
  rcases h p with ⟨h1,h2⟩ | ⟨b',v',h1,h2,h3⟩
  · have : q ≠ p := fun z => by rw [z,h2] at hv; cases hv
    rw [h1,if_neg this]; exact .inl ⟨rfl,h2⟩
  · rw [h1]; exact .inr ⟨b',v',rfl,h2,h3⟩
theorem BR.new {H : Hp} {kvs : List (Key × V)} {ev : List (Int × Bar)} {q : Int} {b : Bar} {v : V} (h : BR H kvs ev) (hv : valV kvs (Sum.inl q) = none) (hb : IsBar H v b) : BR H (putK kvs (Sum.inl q) v) (ev ++ [(q,b)]) := fun p => by
  rw [barOf_app,barOf_one,valV_put]
  by_cases e : p = q
  · subst e
    rcases h p with ⟨h1,_⟩ | ⟨b',v',_,h2,_⟩
    · rw [h1,if_pos rfl,if_pos rfl]; exact .inr ⟨b,v,rfl,rfl,hb⟩
    · rw [hv] at h2; cases h2
  · rw [if_neg (fun z => e (Sum.inl.inj z)),if_neg (fun z => e z.symm)]
    rcases h p with ⟨h1,h2⟩ | ⟨b',v',h1,h2,h3⟩
    · rw [h1]; exact .inl ⟨rfl,h2⟩
    · rw [h1]; exact .inr ⟨b',v',rfl,h2,h3⟩
noncomputable def KeysIn (n : Nat) (kvs : List (Key × V)) : Prop := (kvs.map (·.1)).Nodup ∧ ∀ k ∈ kvs.map (·.1),∃ i : Nat,k = Sum.inl (i : Int) ∧ 1 ≤ i ∧ i ≤ n
theorem nodup_filter_len (a : Key) : ∀ {ks : List Key},ks.Nodup → ks.length ≤ (ks.filter fun k => decide (k ≠ a)).length + 1
  | [],_ => Nat.zero_le _
  | k :: ks,nd => by
    rw [List.nodup_cons] at nd
    by_cases e : k = a
    · have : ks.filter (fun k => decide (k ≠ a)) = ks := List.filter_eq_self.mpr fun x hx => decide_eq_true fun q => nd.1 (by rw [e,← q]; exact hx)
      rw [List.filter_cons_of_neg (by simp [e]),this]; exact Nat.le_refl _
    · have := nodup_filter_len a nd.2
      rw [List.filter_cons_of_pos (by simp [e])]
      simp only [List.length_cons]; omega
theorem keys_len : ∀ {n : Nat} {ks : List Key},ks.Nodup → (∀ k ∈ ks,∃ i : Nat,k = Sum.inl (i : Int) ∧ 1 ≤ i ∧ i ≤ n) → ks.length ≤ n := by
  intro n
  induction n with
  | zero =>
    intro ks _ h
    cases ks with
    | nil => exact Nat.le_refl _
    | cons k ks => obtain ⟨i,_,h1,h2⟩ := h k List.mem_cons_self; omega
  | succ n ih =>
    intro ks nd h
    have h1 := nodup_filter_len (Sum.inl ((n + 1 : Nat) : Int)) nd
    have h2 := ih (ks := ks.filter fun k => decide (k ≠ Sum.inl ((n + 1 : Nat) : Int))) (List.Pairwise.filter _ nd) fun k hk => by
      rw [List.mem_filter] at hk
      obtain ⟨i,e,h1,h2⟩ := h k hk.1
      refine ⟨i,e,h1,?_⟩
      have : i ≠ n + 1 := fun q => of_decide_eq_true hk.2 (by rw [e,q])
      omega
    omega
theorem KeysIn.len {n : Nat} {kvs : List (Key × V)} (h : KeysIn n kvs) : kvs.length ≤ n := by
  have := keys_len h.1 h.2
  rw [List.length_map] at this; exact this
theorem KeysIn.put {n : Nat} {kvs : List (Key × V)} {i : Nat} {v : V} (h : KeysIn n kvs) (hv : valV kvs (Sum.inl (i : Int)) = none) (h1 : 1 ≤ i) (h2 : i ≤ n) : KeysIn n (putK kvs (Sum.inl (i : Int)) v) := by
  refine ⟨nd_putK _ h.1 hv,fun k hk => ?_⟩
  rw [putK_new _ hv,List.map_append] at hk
  rcases List.mem_append.mp hk with hk | hk
  · exact h.2 k hk
  · exact ⟨i,List.mem_singleton.mp hk,h1,h2⟩
noncomputable def SameX (q : Addr) (H H' : Hp) : Prop := ∀ b o,b ≠ q → H b = some o → H' b = some o
theorem SameX.refl (q : Addr) (H : Hp) : SameX q H H := fun _ _ _ e => e
theorem SameX.trans {q : Addr} {H H1 H2 : Hp} (a : SameX q H H1) (b : SameX q H1 H2) : SameX q H H2 := fun x o n e => b x o n (a x o n e)
theorem SameX.of {q : Addr} {H H1 : Hp} (a : Same H H1) : SameX q H H1 := fun x o _ e => a x o e
theorem SameX.upd {q : Addr} {H : Hp} {o : HO} : SameX q H (upd H q o) := fun _ _ n e => by rw [upd_ne n]; exact e
theorem SameX.same {q : Addr} {H C H' : Hp} (h : SameX q C H') (s : Same H C) (hq : H q = none) : Same H H' := fun b o e => h b o (ne_of_none e hq) (s b o e)
theorem SameX.tps {q : Addr} {H H' : Hp} {kvs : List (Key × V)} (h : SameX q H H') (hq : H q = some (.dK kvs)) : Tps H H' := fun b xs e => h b _ (fun z => by rw [z,hq] at e; cases e) e
theorem SameX.slots {q : Addr} {H H' : Hp} {kvs : List (Key × V)} {v : V} {sl : List Slot} (h : SameX q H H') (hq : H q = some (.dK kvs)) (hs : IsSlots H v sl) : IsSlots H' v sl := by
  obtain ⟨a,xs,e,h1,h2⟩ := hs
  exact ⟨a,xs,e,h a _ (fun z => by rw [z,hq] at h1; cases h1) h1,pr_tps tS h2 (h.tps hq)⟩
inductive SpPlacesI (vs : List V) (H : Hp) (Q : VK) (E_ : XK) : Prop
  | mk (vr vsl : _) (k : Nat) (r sl : _) (z0 : vs = [vr,vsl,.int (k : Int)]) (z1 : IsRule H vr r) (z2 : IsSlots H vsl sl) (z3 : r.b.length ≤ k) (z4 : 1 ≤ r.t.length) (z5 : k + r.t.length + r.a.length ≤ sl.length) (z6 : (∀ s ∈ sl,0 ≤ slo s ∧ slo s ≤ 10000 ∧ 0 ≤ shi s ∧ shi s ≤ 10000)) (z7 : ∀ p H',Same H H' → H p = none → H' p = some (.lst (iv (placesL sl k r))) → Q (.ref p) H') : SpPlacesI  vs H Q E_
noncomputable def spPlaces : Sp := fun vs H Q E => SpPlacesI  vs H Q E
inductive SpNearAcrossI (vs : List V) (H : Hp) (Q : VK) (E_ : XK) : Prop
  | mk (vc va vb ps kw kn a b : _) (z0 : vs = [vc,va,vb]) (z1 : IsCase H vc ps kw kn) (z2 : IsS H va a) (z3 : IsS H vb b) (z4 : ∀ H',Same H H' → Q (.bl (nearB (nrOf kn) a b)) H') : SpNearAcrossI  vs H Q E_
noncomputable def spNearAcross : Sp := fun vs H Q E => SpNearAcrossI  vs H Q E
noncomputable def CaseOk (ps : List (List Rule)) (row : List Int) : Prop := PassesOk ps ∧ ps.length ≤ 100 ∧ row.length ≤ 1000 ∧ row.length * 3 ^ ps.length ≤ 10000
inductive SpBarsI (vs : List V) (H : Hp) (Q : VK) (E_ : XK) : Prop
  | mk (vc vr ps kw kn row : _) (z0 : vs = [vc,vr]) (z1 : IsCase H vc ps kw kn) (z2 : IsL H vr row) (z3 : CaseOk ps row) (z4 : ∀ p kvs H',Same H H' → H p = none → H' p = some (.dK kvs) → BR H' kvs (evAll ps (nrOf kn) row) → Q (.ref p) H') : SpBarsI  vs H Q E_
noncomputable def spBars : Sp := fun vs H Q E => SpBarsI  vs H Q E
inductive SpCutsI (vs : List V) (H : Hp) (Q : VK) (E_ : XK) : Prop
  | mk (vc vr ps kw kn row : _) (z0 : vs = [vc,vr]) (z1 : IsCase H vc ps kw kn) (z2 : IsL H vr row) (z3 : CaseOk ps row) (z4 : ∀ p H',Same H H' → H p = none → H' p = some (.lst (iv (nv' (cutsN (evAll ps (nrOf kn) row) (row.length - 1))))) → Q (.ref p) H') : SpCutsI  vs H Q E_
noncomputable def spCuts : Sp := fun vs H Q E => SpCutsI  vs H Q E
end Ink
namespace Ink
open PySem L2
theorem ivn_snoc (cs : List Nat) (p : Nat) : iv (nv' (cs ++ [p])) = iv (nv' cs) ++ [.int (p : Int)] := by
  show iv (List.map _ (cs ++ [p])) = _
  rw [List.map_append,iv_app]; rfl
theorem ivn_len (cs : List Nat) : (iv (nv' cs)).length = cs.length := by rw [iv_len,List.length_map]
theorem at_ivn {cs : List Nat} {i : Nat} {x : V} (h : (iv (nv' cs))[i]? = some x) : ∃ n,cs[i]? = some n ∧ x = .int (n : Int) := by
  obtain ⟨p,hp,rfl⟩ := at_iv h
  rw [List.getElem?_map] at hp
  obtain ⟨n,hn,rfl⟩ := Option.map_eq_some_iff.mp hp
  exact ⟨n,hn,rfl⟩
end Ink
namespace Ink
end Ink
namespace Ink
open PySem L2
inductive SpSharesI (vs : List V) (H : Hp) (Q : VK) (E_ : XK) : Prop
  | mk (b e : _) (n : Nat) (z0 : vs = [.int b,.int e,.int (n : Int)]) (z1 : 0 < n) (z2 : n ≤ 10000) (z3 : ∀ p H',Same H H' → H p = none → H' p = some (.lst (iv (sharesL b e n))) → Q (.ref p) H') : SpSharesI  vs H Q E_
noncomputable def spShares : Sp := fun vs H Q E => SpSharesI  vs H Q E
inductive SpCaretsI (vs : List V) (H : Hp) (Q : VK) (E_ : XK) : Prop
  | mk (vc vr ps kw kn row : _) (z0 : vs = [vc,vr]) (z1 : IsCase H vc ps kw kn) (z2 : IsL H vr row) (z3 : CaseOk ps row) (z4 : ∀ p H',Same H H' → H p = none → H' p = some (.lst (iv (caretsL (wdOf kw) (nrOf kn) (setRow ps row)))) → Q (.ref p) H') : SpCaretsI  vs H Q E_
noncomputable def spCarets : Sp := fun vs H Q E => SpCaretsI  vs H Q E
noncomputable def IsEnd (f : Nat → Int) (places : List Nat) (b : Nat) (m : Int) (e : Nat) : Prop :=
  (e ∈ places ∧ f e - f b ≤ m ∧ ∀ q ∈ places,f q - f b ≤ m → q ≤ e) ∨ ((∀ q ∈ places,¬ f q - f b ≤ m) ∧ places.head? = some e)
inductive SpLineEndI (vs : List V) (H : Hp) (Q : VK) (E_ : XK) : Prop
  | mk (vf vp far places : _) (b : Nat) (m : Int) (f : Nat → Int) (z0 : vs = [vf,vp,.int (b : Int),.int m]) (z1 : IsL H vf far) (z2 : IsL H vp (nv' places)) (z3 : places ≠ []) (z4 : places.length ≤ 10000) (z5 : far[b]? = some (f b)) (z6 : (∀ q ∈ places,far[q]? = some (f q))) (z7 : ∀ (e : Nat) H',Same H H' → IsEnd f places b m e → Q (.int (e : Int)) H') : SpLineEndI  vs H Q E_
noncomputable def spLineEnd : Sp := fun vs H Q E => SpLineEndI  vs H Q E
inductive LinesAre (f : Nat → Int) (places : List Nat) (n : Nat) (m : Int) : Nat → List (Nat × Nat) → Prop
  | nil {b : Nat} : n ≤ b → LinesAre f places n m b []
  | cons {b e : Nat} {l : List (Nat × Nat)} : b < n → b < e → e ≤ n → IsEnd f (places.filter fun q => decide (b < q)) b m e → LinesAre f places n m e l → LinesAre f places n m b ((b,e) :: l)
noncomputable def placesOf (ps : List (List Rule)) (nr : Int → Int → Int) (row : List Int) : List Nat := cutsN (evAll ps nr row) (row.length - 1) ++ [row.length]
inductive SpLinesI (vs : List V) (H : Hp) (Q : VK) (E_ : XK) : Prop
  | mk (vc vr ps kw kn row m : _) (z0 : vs = [vc,vr,.int m]) (z1 : IsCase H vc ps kw kn) (z2 : IsL H vr row) (z3 : CaseOk ps row) (z4 : ∀ p xs ls H',Same H H' → H p = none → H' p = some (.lst xs) → Paired (IsP H') xs ls → LinesAre (wTo ps (wdOf kw) (nrOf kn) row) (placesOf ps (nrOf kn) row) row.length m 0 ls → ls.length ≤ row.length → Q (.ref p) H') : SpLinesI  vs H Q E_
noncomputable def spLines : Sp := fun vs H Q E => SpLinesI  vs H Q E
end Ink
namespace Ink
open PySem L2
end Ink
namespace Ink
theorem places_rising (ps : List (List Rule)) (nr : Int → Int → Int) (row : List Int) : (placesOf ps nr row).Pairwise (fun a b => a ≤ b) := by
  unfold placesOf
  rw [List.pairwise_append]
  refine ⟨List.Pairwise.imp (fun h => Nat.le_of_lt h) (cuts_rising _ _),List.pairwise_singleton _ _,fun a ha b hb => ?_⟩
  rw [List.mem_singleton.mp hb]
  have := (mem_cuts.mp ha).2.1
  omega
theorem placesOf_ok {ps : List (List Rule)} {nr : Int → Int → Int} {row : List Int} : ∀ q ∈ placesOf ps nr row,okPlace ps nr row q ∧ q ≤ row.length := fun q hq => by
  unfold placesOf at hq
  rcases List.mem_append.mp hq with hq | hq
  · obtain ⟨k1,k2,k3⟩ := mem_cuts.mp hq
    obtain ⟨c1,c2⟩ := cut_free k3
    exact ⟨.inr (.inr ⟨k1,by omega,c1,c2⟩),by omega⟩
  · rw [List.mem_singleton.mp hq]; exact ⟨.inr (.inl rfl),Nat.le_refl _⟩
end Ink
namespace Ink
open PySem L2
noncomputable def IsBarO (H : Hp) (v : V) : Option Bar → Prop
  | none => v = .non
  | some b => IsBar H v b
end Ink
namespace Ink
open PySem L2
end Ink
namespace Ink
end Ink
namespace Ink
open PySem L2
noncomputable def stockL (s : Int) (m : Nat) : List Int := (List.range m).map fun (k : Nat) => s * (k : Int) + s / 50
noncomputable def StockOk (ns : List Int) : Prop := Ex2 fun s m => And3 ((s = 1 ∨ s = 197)) (m ≤ 5) (ns = stockL s m)
inductive SpStock2I (vs : List V) (H : Hp) (Q : VK) (E_ : XK) : Prop
  | mk (c : _) (z0 : vs = [.int c]) (z1 : ∀ p ns H',Same H H' → H p = none → H' p = some (.lst (iv ns)) → 2 ≤ ns.length → ns.length ≤ 5 → StockOk ns → Q (.ref p) H') : SpStock2I  vs H Q E_
noncomputable def spStock2 : Sp := fun vs H Q E => SpStock2I  vs H Q E
theorem nodup_put {κ : Type} [DecidableEq κ] {kvs : List (κ × V)} (h : (kvs.map (·.1)).Nodup) (k : κ) (v : V) : ((putK kvs k v).map (·.1)).Nodup := by
  cases e : valV kvs k with
  | none => exact nd_putK _ h e
  | some x =>
    unfold putK
    rw [if_pos (by rw [valV_any,e]; rfl),List.map_map]
    have : kvs.map ((fun x => x.1) ∘ fun kv => if kv.1 = k then (kv.1,v) else kv) = kvs.map (·.1) := List.map_congr_left fun kv _ => by
      show (if kv.1 = k then (kv.1,v) else kv).1 = kv.1
      split <;> rfl
    rw [this]; exact h
theorem mem_putK {κ : Type} [DecidableEq κ] {kvs : List (κ × V)} {k : κ} {v : V} {p : κ × V} (h : p ∈ putK kvs k v) : (∃ q ∈ kvs,p.1 = q.1 ∧ (p.2 = q.2 ∨ p.2 = v)) ∨ p = (k,v) := by
  unfold putK at h
  split at h
  · obtain ⟨q,hq,rfl⟩ := List.mem_map.mp h
    by_cases e : q.1 = k
    · rw [if_pos e]; exact .inl ⟨q,hq,rfl,.inr rfl⟩
    · rw [if_neg e]; exact .inl ⟨q,hq,rfl,.inl rfl⟩
  · rcases List.mem_append.mp h with h | h
    · exact .inl ⟨p,h,rfl,.inl rfl⟩
    · exact .inr (List.mem_singleton.mp h)
theorem allI_int {κ : Type} [DecidableEq κ] {kvs : List (κ × V)} (h : AllI kvs) : IntVals kvs := fun k v e => by
  unfold valV at e
  obtain ⟨kv,h1,h2⟩ := Option.map_eq_some_iff.mp e
  obtain ⟨i,hi⟩ := h kv (List.mem_of_find?_eq_some h1)
  exact ⟨i,by rw [← h2,hi]⟩
structure WOk (kvs : List (Key × V)) : Prop where
  i : AllI kvs
  l : AllL (kvs.map (·.1))
  n : (kvs.map (·.1)).Nodup
theorem wOk_nil : WOk [] := ⟨(fun _ h => nomatch h),(fun _ h => nomatch h),List.nodup_nil⟩
theorem wOk_put {kvs : List (Key × V)} (h : WOk kvs) (k i : Int) : WOk (putK kvs (Sum.inl k) (.int i)) := by
  refine ⟨fun p hp => ?_,fun q hq => ?_,nodup_put h.n _ _⟩
  · rcases mem_putK hp with ⟨q,hq,_,e | e⟩ | e
    · rw [e]; exact h.i q hq
    · exact ⟨i,e⟩
    · rw [e]; exact ⟨i,rfl⟩
  · obtain ⟨p,hp,rfl⟩ := List.mem_map.mp hq
    rcases mem_putK hp with ⟨q,hq,e,_⟩ | e
    · rw [e]; exact h.l _ (List.mem_map.mpr ⟨q,hq,rfl⟩)
    · rw [e]; exact ⟨k,rfl⟩
structure NOk (st : List Int) (kvs : List (List Key × V)) : Prop where
  i : AllI kvs
  l : ∀ kv ∈ kvs,∃ a b,a ∈ st ∧ b ∈ st ∧ kv.1 = [Sum.inl a,Sum.inl b]
  n : (kvs.map (·.1)).Nodup
theorem nOk_nil {st : List Int} : NOk st [] := ⟨(fun _ h => nomatch h),(fun _ h => nomatch h),List.nodup_nil⟩
theorem nOk_put {st : List Int} {kvs : List (List Key × V)} (h : NOk st kvs) {a b : Int} (ha : a ∈ st) (hb : b ∈ st) (i : Int) : NOk st (putK kvs [Sum.inl a,Sum.inl b] (.int i)) := by
  refine ⟨fun p hp => ?_,fun p hp => ?_,nodup_put h.n _ _⟩
  · rcases mem_putK hp with ⟨q,hq,_,e | e⟩ | e
    · rw [e]; exact h.i q hq
    · exact ⟨i,e⟩
    · rw [e]; exact ⟨i,rfl⟩
  · rcases mem_putK hp with ⟨q,hq,e,_⟩ | e
    · rw [e]; exact h.l q hq
    · rw [e]; exact ⟨a,b,ha,hb,rfl⟩
inductive SpWidths2I (vs : List V) (H : Hp) (Q : VK) (E_ : XK) : Prop
  | mk (c vt st : _) (z0 : vs = [.int c,vt]) (z1 : IsL H vt st) (z2 : st.length ≤ 5) (z3 : ∀ p kvs H',Same H H' → H p = none → H' p = some (.dK kvs) → WOk kvs → Q (.ref p) H') : SpWidths2I  vs H Q E_
noncomputable def spWidths2 : Sp := fun vs H Q E => SpWidths2I  vs H Q E
inductive SpNears2I (vs : List V) (H : Hp) (Q : VK) (E_ : XK) : Prop
  | mk (c vt st rr : _) (z0 : vs = [.int c,vt,.int rr]) (z1 : IsL H vt st) (z2 : st.length ≤ 5) (z3 : 0 < rr) (z4 : ∀ p kvs H',Same H H' → H p = none → H' p = some (.dT kvs) → NOk st kvs → Q (.ref p) H') : SpNears2I  vs H Q E_
noncomputable def spNears2 : Sp := fun vs H Q E => SpNears2I  vs H Q E
theorem NOk.all {st : List Int} {kvs : List (List Key × V)} (h : NOk st kvs) : ∀ kv ∈ kvs,AllL kv.1 := fun kv m k hk => by
  obtain ⟨a,b,_,_,e⟩ := h.l kv m
  rw [e] at hk
  rcases List.mem_cons.mp hk with rfl | hk
  · exact ⟨a,rfl⟩
  · exact ⟨b,List.mem_singleton.mp hk⟩
noncomputable def hK (k : List Key) : Int := reduceHash (Builtin.Tuple.tupleHashOf (k.map fun k => match k with | .inl i => hashInt i | .inr _ => 0))
noncomputable def pairsL (l : List Int) : List (List Key) := (l.map fun a => l.map fun b => [Sum.inl a,Sum.inl b]).flatten
theorem hash1 : ((pairsL [0,1,2,3,4]).map hK).Nodup := by decide +kernel
theorem hash197 : ((pairsL [3,200,397,594,791]).map hK).Nodup := by decide +kernel
theorem inj_of {α β : Type} {f : α → β} : ∀ {l : List α},(l.map f).Nodup → ∀ a ∈ l,∀ b ∈ l,f a = f b → a = b
  | [],_,a,h,_,_,_ => by cases h
  | x :: l,nd,a,ha,b,hb,e => by
    rw [List.map_cons,List.nodup_cons] at nd
    rcases List.mem_cons.mp ha with q1 | q1
    · rcases List.mem_cons.mp hb with q2 | q2
      · rw [q1,q2]
      · exact absurd (List.mem_map.mpr ⟨b,q2,by rw [← e,q1]⟩) nd.1
    · rcases List.mem_cons.mp hb with q2 | q2
      · exact absurd (List.mem_map.mpr ⟨a,q1,by rw [e,q2]⟩) nd.1
      · exact inj_of nd.2 a q1 b q2 e
theorem nodup_inj {α β : Type} {f : α → β} : ∀ {l : List α},l.Nodup → (∀ a ∈ l,∀ b ∈ l,f a = f b → a = b) → (l.map f).Nodup
  | [],_,_ => List.nodup_nil
  | x :: l,nd,h => by
    rw [List.nodup_cons] at nd
    rw [List.map_cons,List.nodup_cons]
    refine ⟨fun hm => ?_,nodup_inj nd.2 fun a ha b hb => h a (List.mem_cons_of_mem _ ha) b (List.mem_cons_of_mem _ hb)⟩
    obtain ⟨b,hb,e⟩ := List.mem_map.mp hm
    exact nd.1 (h b (List.mem_cons_of_mem _ hb) x List.mem_cons_self e ▸ hb)
theorem mem_pairsL {l : List Int} {a b : Int} (ha : a ∈ l) (hb : b ∈ l) : ([Sum.inl a,Sum.inl b] : List Key) ∈ pairsL l := List.mem_flatten.mpr ⟨_,List.mem_map.mpr ⟨a,ha,rfl⟩,List.mem_map.mpr ⟨b,hb,rfl⟩⟩
theorem stock_in {st : List Int} (h : StockOk st) : (∀ a ∈ st,a ∈ ([0,1,2,3,4] : List Int)) ∨ ∀ a ∈ st,a ∈ ([3,200,397,594,791] : List Int) := by
  obtain ⟨s,m,hs,hm,rfl⟩ := h
  rcases hs with rfl | rfl
  · refine .inl fun a ha => ?_
    unfold stockL at ha
    obtain ⟨k,hk,rfl⟩ := List.mem_map.mp ha
    rw [List.mem_range] at hk
    have : k = 0 ∨ k = 1 ∨ k = 2 ∨ k = 3 ∨ k = 4 := by omega
    clear ha hk
    rcases this with rfl | rfl | rfl | rfl | rfl <;> decide
  · refine .inr fun a ha => ?_
    unfold stockL at ha
    obtain ⟨k,hk,rfl⟩ := List.mem_map.mp ha
    rw [List.mem_range] at hk
    have : k = 0 ∨ k = 1 ∨ k = 2 ∨ k = 3 ∨ k = 4 := by omega
    clear ha hk
    rcases this with rfl | rfl | rfl | rfl | rfl <;> decide
theorem NOk.hash {st : List Int} {kvs : List (List Key × V)} (h : NOk st kvs) (hs : StockOk st) : HashOk kvs := by
  have e : HashOk kvs ↔ ((kvs.map (·.1)).map hK).Nodup := by
    unfold HashOk; rw [List.map_map]; rfl
  rw [e]
  refine nodup_inj h.n fun a ha b hb q => ?_
  obtain ⟨p,hp,rfl⟩ := List.mem_map.mp ha
  obtain ⟨p',hp',rfl⟩ := List.mem_map.mp hb
  obtain ⟨a1,a2,m1,m2,e1⟩ := h.l p hp
  obtain ⟨b1,b2,n1,n2,e2⟩ := h.l p' hp'
  rw [e1,e2] at q ⊢
  rcases stock_in hs with hin | hin
  · exact inj_of hash1 _ (mem_pairsL (hin _ m1) (hin _ m2)) _ (mem_pairsL (hin _ n1) (hin _ n2)) q
  · exact inj_of hash197 _ (mem_pairsL (hin _ m1) (hin _ m2)) _ (mem_pairsL (hin _ n1) (hin _ n2)) q
end Ink
namespace Ink
open PySem L2
noncomputable def Conts (H : Hp) : List V → List (List V) → Prop := Paired fun x zs => ∃ a,x = .ref a ∧ H a = some (.lst zs) ∧ ∀ z ∈ zs,∃ q,z = .ref q
theorem conts_of {H : Hp} : ∀ {xs : List V} {ps : List (List Rule)},Paired (IsRules H) xs ps → ∃ zss,Conts H xs zss := by
  intro xs ps p
  induction p with
  | nil => exact ⟨[],.nil⟩
  | cons r t ih =>
    obtain ⟨zss,h⟩ := ih
    obtain ⟨a,zs,e,h1,h2⟩ := r
    exact ⟨zs :: zss,.cons ⟨a,e,h1,rules_refs h2⟩ h⟩
theorem Conts.same {H H' : Hp} {xs : List V} {zss : List (List V)} (h : Conts H xs zss) (s : Same H H') : Conts H' xs zss := Paired.imp' (fun _ _ ⟨a,e,q,r⟩ => ⟨a,e,s a _ q,r⟩) h
structure IsCopy (B H : Hp) (t : Addr) (zss : List (List V)) (kw : List (Key × V)) (kn : List (List Key × V)) (row : List Int) : Prop where
  ex : ∃ D w n l ys,H t = some (.tup [.ref D,.ref w,.ref n,.ref l]) ∧ H D = some (.lst ys) ∧ Paired (fun (zs : List V) y => ∃ b,y = .ref b ∧ B b = none ∧ H b = some (.lst zs) ∧ ∀ z ∈ zs,∃ q,z = .ref q) zss ys ∧ H w = some (.dK kw) ∧ H n = some (.dT kn) ∧ H l = some (.lst (iv row)) ∧ B D = none ∧ B w = none ∧ B n = none ∧ B l = none
theorem IsCopy.same {B H H' : Hp} {t : Addr} {zss : List (List V)} {kw : List (Key × V)} {kn : List (List Key × V)} {row : List Int} (c : IsCopy B H t zss kw kn row) (s : Same H H') : IsCopy B H' t zss kw kn row := by
  obtain ⟨D,w,n,l,ys,h1,h2,h3,h4,h5,h6,h7⟩ := c.ex
  exact ⟨D,w,n,l,ys,s _ _ h1,s _ _ h2,Paired.imp' (fun _ _ zz1 => by obtain ⟨b,e,q,r,z⟩ := zz1; exact ⟨b,e,q,s _ _ r,z⟩) h3,s _ _ h4,s _ _ h5,s _ _ h6,h7⟩
theorem pr_both {α β γ : Type} {F : α → β → Prop} {G : α → γ → Prop} {R : β → γ → Prop} (h : ∀ a b c,F a b → G a c → R b c) : ∀ {as : List α} {bs : List β} {cs : List γ},Paired F as bs → Paired G as cs → Paired R bs cs :=
  by
  intro as bs cs p
  induction p generalizing cs with
  | nil => intro q; cases q; exact .nil
  | cons r t ih =>
    intro q
    cases q with
    | cons r' t' => exact .cons (h _ _ _ r r') (ih t')
theorem copy_like {X : Cx} {A B H : Hp} {t t2 : Addr} {zss : List (List V)} {kw : List (Key × V)} {kn : List (List Key × V)} {row : List Int} (c1 : IsCopy A B t zss kw kn row) (s : Same B H) (c2 : IsCopy B H t2 zss kw kn row) (ok : WOk kw) (nk : AllI kn ∧ ∀ kv ∈ kn,AllL kv.1) :
    ∃ xs ys,H t2 = some (.tup xs) ∧ H t = some (.tup ys) ∧ xs.length = ys.length ∧ ∀ (j : Nat) x y,xs[j]? = some x → ys[j]? = some y → EqW X H x y := by
  obtain ⟨D,w,n,l,ys,h1,h2,h3,h4,h5,h6,_⟩ := c1.ex
  obtain ⟨D',w',n',l',ys',k1,k2,k3,k4,k5,k6,k7,k8,k9,k10⟩ := c2.ex
  refine ⟨_,_,k1,s _ _ h1,rfl,fun j x y hx hy => ?_⟩
  match j with
  | 0 =>
    cases hx; cases hy
    have ne : D' ≠ D := (ne_of_none h2 k7).symm
    refine eqW_of (n := 2) (by decide) (eqCp ne k2 (s _ _ h2) (pr_both (fun zs y' y q q' => ?_) k3 h3))
    obtain ⟨b',rfl,e1,e2,e3⟩ := q
    obtain ⟨b,rfl,_,e5,_⟩ := q'
    exact ⟨b',b,zs,rfl,rfl,(ne_of_none e5 e1).symm,e2,s _ _ e5,e3⟩
  | 1 =>
    cases hx; cases hy
    exact eqW_dK (ne_of_none h4 k8).symm k4 (s _ _ h4) ok.i ok.l ok.n
  | 2 =>
    cases hx; cases hy
    exact eqW_dT (ne_of_none h5 k9).symm k5 (s _ _ h5) nk.1 nk.2
  | 3 =>
    cases hx; cases hy
    have ne : l' ≠ l := (ne_of_none h6 k10).symm
    have := eqL (K := X.K) ne k6 (s _ _ h6)
    rw [decide_eq_true rfl] at this
    exact eqW_of (n := 1) (by decide) this
  | j + 4 => simp at hx
inductive SpCopyI (vs : List V) (H : Hp) (Q : VK) (E_ : XK) : Prop
  | mk (a pp wp np lp xs zss kw kn row : _) (z0 : vs = [.ref a,.ref lp]) (z1 : H a = some (.tup [.ref pp,.ref wp,.ref np])) (z2 : H pp = some (.lst xs)) (z3 : Conts H xs zss) (z4 : xs.length ≤ 1000) (z5 : H wp = some (.dK kw)) (z6 : H np = some (.dT kn)) (z7 : (∀ kv ∈ kn,AllL kv.1)) (z8 : HashOk kn) (z9 : H lp = some (.lst (iv row))) (z10 : ∀ t H',Same H H' → H t = none → IsCopy H H' t zss kw kn row → Q (.ref t) H') : SpCopyI  vs H Q E_
noncomputable def spCopy : Sp := fun vs H Q E => SpCopyI  vs H Q E
noncomputable def begsL (wd : Int → Int) (nr : Int → Int → Int) (sh : List Int) : List Int := (List.range (sh.length + 1)).map fun k => if k < sh.length then begAt wd nr sh k else wpre wd nr sh sh.length
theorem begs_at {wd : Int → Int} {nr : Int → Int → Int} {sh : List Int} {k : Nat} (h : k ≤ sh.length) : (begsL wd nr sh)[k]? = some (if k < sh.length then begAt wd nr sh k else wpre wd nr sh sh.length) := by
  unfold begsL; rw [List.getElem?_map,List.getElem?_range (by omega)]; rfl
theorem begs_len (wd : Int → Int) (nr : Int → Int → Int) (sh : List Int) : (begsL wd nr sh).length = sh.length + 1 := by unfold begsL; rw [List.length_map,List.length_range]
inductive SpBeginsI (vs : List V) (H : Hp) (Q : VK) (E_ : XK) : Prop
  | mk (aw an vrow kw kn sl : _) (z0 : vs = [.ref aw,.ref an,vrow]) (z1 : H aw = some (.dK kw)) (z2 : IntVals kw) (z3 : H an = some (.dT kn)) (z4 : IntVals kn) (z5 : IsSlots H vrow sl) (z6 : sl.length ≤ 10000) (z7 : ∀ p H',Same H H' → H p = none → H' p = some (.lst (iv (begsL (wdOf kw) (nrOf kn) (shp sl)))) → Q (.ref p) H') : SpBeginsI  vs H Q E_
noncomputable def spBegins : Sp := fun vs H Q E => SpBeginsI  vs H Q E
end Ink
namespace Ink
open PySem L2
end Ink
namespace Ink
open PySem L2
inductive SpLawBarI (vs : List V) (H : Hp) (Q : VK) (E_ : XK) : Prop
  | mk (pp an vrows xps kn ps row : _) (rp rx : _) (p : Nat) (z0 : vs = [.ref pp,.ref an,vrows,.int (p : Int)]) (z1 : H pp = some (.lst xps)) (z2 : Paired (IsRules H) xps ps) (z3 : H an = some (.dT kn)) (z4 : IntVals kn) (z5 : vrows = .ref rp) (z6 : H rp = some (.lst rx)) (z7 : Paired (IsSlots H) rx (rowsA ps row)) (z8 : PassesOk ps) (z9 : (∀ rs ∈ ps,rs.length ≤ 100)) (z10 : ps.length ≤ 4) (z11 : row.length * 3 ^ ps.length ≤ 9000) (z12 : ∀ v H',Same H H' → IsBarO H' v (barOf (evAll ps (nrOf kn) row) (p : Int)) → Q v H') : SpLawBarI  vs H Q E_
noncomputable def spLawBar : Sp := fun vs H Q E => SpLawBarI  vs H Q E
inductive SpLawWidthI (vs : List V) (H : Hp) (Q : VK) (E_ : XK) : Prop
  | mk (pp wp np vl xps ps kw kn row : _) (z0 : vs = [.ref pp,.ref wp,.ref np,vl]) (z1 : H pp = some (.lst xps)) (z2 : Paired (IsRules H) xps ps) (z3 : H wp = some (.dK kw)) (z4 : IntVals kw) (z5 : H np = some (.dT kn)) (z6 : IntVals kn) (z7 : IsL H vl row) (z8 : PassesOk ps) (z9 : (∀ rs ∈ ps,rs.length ≤ 100)) (z10 : ps.length ≤ 4) (z11 : row.length * 3 ^ ps.length ≤ 9000) (z12 : ∀ H',Same H H' → Q (.int (widthS (wdOf kw) (nrOf kn) (shp (setRow ps row)))) H') : SpLawWidthI  vs H Q E_
noncomputable def spLawWidth : Sp := fun vs H Q E => SpLawWidthI  vs H Q E
theorem rowsA_at {ps : List (List Rule)} {row : List Int} {i : Nat} (h : i ≤ ps.length) : (rowsA ps row)[i]? = some (setRow (ps.take i) row) := by
  unfold rowsA; rw [List.getElem?_map,List.getElem?_range (by omega)]; rfl
theorem evR_succ {ps : List (List Rule)} {row : List Int} {i : Nat} {rs : List Rule} (h : ps[i]? = some rs) : evR ps row (i + 1) = evR ps row i ++ evP rs (setRow (ps.take i) row) i := by
  have hgd : ps.getD i [] = rs := by rw [List.getD_eq_getElem?_getD,h]; rfl
  unfold evR; rw [flat_succ,hgd]
theorem evR_split {ps : List (List Rule)} {row : List Int} : ∀ {i : Nat},i ≤ ps.length → ∃ rest,evR ps row ps.length = evR ps row i ++ rest := by
  intro i hi
  obtain ⟨k,hk⟩ : ∃ k,ps.length = i + k := ⟨ps.length - i,by omega⟩
  rw [hk]
  clear hk hi
  induction k with
  | zero => exact ⟨[],by rw [List.append_nil]; rfl⟩
  | succ k ih =>
    obtain ⟨rest,e⟩ := ih
    refine ⟨rest ++ evP (ps.getD (i + k) []) (setRow (ps.take (i + k)) row) (i + k),?_⟩
    rw [← List.append_assoc,← e]
    show evR ps row ((i + k) + 1) = _
    unfold evR; rw [flat_succ]
theorem evN_split {nr : Int → Int → Int} {sl : List Slot} {i n : Nat} (h : i ≤ n) : ∃ rest,evN nr sl n = evN nr sl i ++ rest := by
  obtain ⟨k,hk⟩ : ∃ k,n = i + k := ⟨n - i,by omega⟩
  subst hk
  clear h
  induction k with
  | zero => exact ⟨[],by rw [List.append_nil]; rfl⟩
  | succ k ih =>
    obtain ⟨rest,e⟩ := ih
    refine ⟨rest ++ nearEv nr sl (i + k),?_⟩
    rw [← List.append_assoc,← e]
    show evN nr sl ((i + k) + 1) = _
    unfold evN; rw [flat_succ]
theorem barOf_evD {rules : List Rule} {slots : List Slot} {turn : Nat} {d : Nat × Nat} {r : Rule} {p : Int} (hr : rules[d.2]? = some r) : barOf (evD rules slots turn d) p = if ruleLo slots d.1 r < p ∧ p < ruleHi slots d.1 r then some (Bar.rule turn d.1 d.2) else none := by
  unfold evD
  rw [hr]
  show barOf ((placesL slots d.1 r).map fun p => (p,Bar.rule turn d.1 d.2)) p = _
  by_cases h : ruleLo slots d.1 r < p ∧ p < ruleHi slots d.1 r
  · rw [if_pos h]
    have hm := mem_places.mpr h
    generalize placesL slots d.1 r = l at hm
    induction l with
    | nil => cases hm
    | cons q l ih =>
      show barOf ((q,Bar.rule turn d.1 d.2) :: l.map fun p => (p,Bar.rule turn d.1 d.2)) p = _
      rw [show ((q,Bar.rule turn d.1 d.2) :: l.map fun p => (p,Bar.rule turn d.1 d.2)) = [(q,Bar.rule turn d.1 d.2)] ++ l.map fun p => (p,Bar.rule turn d.1 d.2) from rfl,barOf_app,barOf_one]
      by_cases e : q = p
      · rw [if_pos e]; rfl
      · rw [if_neg e]
        rcases List.mem_cons.mp hm with hm | hm
        · exact absurd hm.symm e
        · exact ih hm
  · rw [if_neg h,barOf_none]
    rintro e he rfl
    obtain ⟨q,hq,rfl⟩ := List.mem_map.mp he
    exact h (mem_places.mp hq)
theorem lines_one {f : Nat → Int} {places : List Nat} {n : Nat} {m : Int} : ∀ {l l' : List (Nat × Nat)} {b : Nat},LinesAre f places n m b l → LinesAre f places n m b l' → l = l'
  | _,_,_,.nil _,.nil _ => rfl
  | _,_,_,.nil h,.cons h1 _ _ _ _ => by omega
  | _,_,_,.cons h1 _ _ _ _,.nil h => by omega
  | _,_,_,.cons (e := e) a1 a2 a3 a4 a5,.cons (e := e') b1 b2 b3 b4 b5 => by
    have : e = e' := by
      rcases a4 with ⟨p1,p2,p3⟩ | ⟨p1,p2⟩
      · rcases b4 with ⟨q1,q2,q3⟩ | ⟨q1,q2⟩
        · exact Nat.le_antisymm (q3 e p1 p2) (p3 e' q1 q2)
        · exact absurd p2 (q1 e p1)
      · rcases b4 with ⟨q1,q2,q3⟩ | ⟨q1,q2⟩
        · exact absurd q2 (p1 e' q1)
        · rw [p2] at q2; exact Option.some.inj q2
    subst this
    rw [lines_one a5 b5]
end Ink
set_option maxHeartbeats 2000000
namespace W
open PySem PySem.Spec PyProof.Rows L2 Ink
noncomputable def top (i : Nat) : Stmt := PySem.Challenge.pw_inkmelt_k11_lines.main.body.getD i (.Pass ⟨0,0,0,0⟩)
noncomputable abbrev s_doings : Stmt := top 11
noncomputable abbrev s_set_row : Stmt := top 12
noncomputable abbrev s_rows_along : Stmt := top 13
noncomputable abbrev s_first_that_fits : Stmt := top 14
noncomputable abbrev s_fits : Stmt := top 15
noncomputable abbrev s_stands : Stmt := top 16
noncomputable abbrev s_first_slots : Stmt := top 17
noncomputable abbrev s_passed_slots : Stmt := top 18
noncomputable abbrev s_melted : Stmt := top 19
noncomputable abbrev s_chains : Stmt := top 20
noncomputable abbrev s_all_of : Stmt := top 21
noncomputable abbrev s_shapes_of : Stmt := top 22
noncomputable abbrev s_carets : Stmt := top 27
noncomputable abbrev s_spans : Stmt := top 28
noncomputable abbrev s_whole_width : Stmt := top 29
noncomputable abbrev s_shares : Stmt := top 30
noncomputable abbrev s_width_of : Stmt := top 31
noncomputable abbrev s_near_of : Stmt := top 32
noncomputable abbrev s_cuts : Stmt := top 34
noncomputable abbrev s_bars : Stmt := top 35
noncomputable abbrev s_places_across : Stmt := top 36
noncomputable abbrev s_is_near_across : Stmt := top 37
noncomputable abbrev s_lines : Stmt := top 39
noncomputable abbrev s_line_end : Stmt := top 40
noncomputable abbrev s_law_cell_at : Stmt := top 42
noncomputable abbrev s_law_pick : Stmt := top 43
noncomputable abbrev s_law_whole : Stmt := top 44
noncomputable abbrev s_law_mix : Stmt := top 45
noncomputable abbrev s_law_stock : Stmt := top 46
noncomputable abbrev s_law_part : Stmt := top 47
noncomputable abbrev s_law_rule : Stmt := top 48
noncomputable abbrev s_law_passes : Stmt := top 49
noncomputable abbrev s_law_letters : Stmt := top 50
noncomputable abbrev s_law_widths : Stmt := top 51
noncomputable abbrev s_law_nears : Stmt := top 52
noncomputable abbrev s_law_fits : Stmt := top 53
noncomputable abbrev s_law_doings : Stmt := top 54
noncomputable abbrev s_law_bundled : Stmt := top 55
noncomputable abbrev s_law_next_row : Stmt := top 56
noncomputable abbrev s_law_rows : Stmt := top 57
noncomputable abbrev s_law_begins : Stmt := top 58
noncomputable abbrev s_law_same : Stmt := top 59
noncomputable abbrev s_law_bar : Stmt := top 60
noncomputable abbrev s_law_width : Stmt := top 61
noncomputable abbrev s_law_copy : Stmt := top 62
noncomputable abbrev s_law : Stmt := top 63
theorem sc_doings : FnScope ["rules","shapes","done","at","number"] ["rules","shapes"] (defScope s_doings) := ⟨rfl,rfl,rfl,by decide +kernel,rfl,by decide +kernel,by decide +kernel⟩
theorem sc_set_row : FnScope ["case","row"] ["case","row"] (defScope s_set_row) := ⟨rfl,rfl,rfl,by decide +kernel,rfl,by decide +kernel,by decide +kernel⟩
theorem sc_rows_along : FnScope ["case","row","rows","rules"] ["case","row"] (defScope s_rows_along) := ⟨rfl,rfl,rfl,by decide +kernel,rfl,by decide +kernel,by decide +kernel⟩
theorem sc_first_that_fits : FnScope ["rules","shapes","at","number","rule"] ["rules","shapes","at"] (defScope s_first_that_fits) := ⟨rfl,rfl,rfl,by decide +kernel,rfl,by decide +kernel,by decide +kernel⟩
theorem sc_fits : FnScope ["rule","shapes","at","behind","take"] ["rule","shapes","at"] (defScope s_fits) := ⟨rfl,rfl,rfl,by decide +kernel,rfl,by decide +kernel,by decide +kernel⟩
theorem sc_stands : FnScope ["part","shapes","at"] ["part","shapes","at"] (defScope s_stands) := ⟨rfl,rfl,rfl,by decide +kernel,rfl,by decide +kernel,by decide +kernel⟩
theorem sc_first_slots : FnScope ["row"] ["row"] (defScope s_first_slots) := ⟨rfl,rfl,rfl,by decide +kernel,rfl,by decide +kernel,by decide +kernel⟩
theorem sc_passed_slots : FnScope ["rules","slots","new","reached","at","number"] ["rules","slots"] (defScope s_passed_slots) := ⟨rfl,rfl,rfl,by decide +kernel,rfl,by decide +kernel,by decide +kernel⟩
theorem sc_melted : FnScope ["slots","new","chain"] ["slots"] (defScope s_melted) := ⟨rfl,rfl,rfl,by decide +kernel,rfl,by decide +kernel,by decide +kernel⟩
theorem sc_chains : FnScope ["slots","found","slot"] ["slots"] (defScope s_chains) := ⟨rfl,rfl,rfl,by decide +kernel,rfl,by decide +kernel,by decide +kernel⟩
theorem sc_all_of : FnScope ["shapes","slots"] ["shapes","slots"] (defScope s_all_of) := ⟨rfl,rfl,rfl,by decide +kernel,rfl,by decide +kernel,by decide +kernel⟩
theorem sc_shapes_of : FnScope ["slots"] ["slots"] (defScope s_shapes_of) := ⟨rfl,rfl,rfl,by decide +kernel,rfl,by decide +kernel,by decide +kernel⟩
theorem sc_carets : FnScope ["case","row","slots","found","told","at","bundle","own"] ["case","row"] (defScope s_carets) := ⟨rfl,rfl,rfl,by decide +kernel,rfl,by decide +kernel,by decide +kernel⟩
theorem sc_spans : FnScope ["case","slots","shapes","found","begin","at","shape"] ["case","slots"] (defScope s_spans) := ⟨rfl,rfl,rfl,by decide +kernel,rfl,by decide +kernel,by decide +kernel⟩
theorem sc_whole_width : FnScope ["found"] ["found"] (defScope s_whole_width) := ⟨rfl,rfl,rfl,by decide +kernel,rfl,by decide +kernel,by decide +kernel⟩
theorem sc_shares : FnScope ["begin","end","letters"] ["begin","end","letters"] (defScope s_shares) := ⟨rfl,rfl,rfl,by decide +kernel,rfl,by decide +kernel,by decide +kernel⟩
theorem sc_width_of : FnScope ["case","shape"] ["case","shape"] (defScope s_width_of) := ⟨rfl,rfl,rfl,by decide +kernel,rfl,by decide +kernel,by decide +kernel⟩
theorem sc_near_of : FnScope ["case","shape","follower"] ["case","shape","follower"] (defScope s_near_of) := ⟨rfl,rfl,rfl,by decide +kernel,rfl,by decide +kernel,by decide +kernel⟩
theorem sc_cuts : FnScope ["case","row","barred"] ["case","row"] (defScope s_cuts) := ⟨rfl,rfl,rfl,by decide +kernel,rfl,by decide +kernel,by decide +kernel⟩
theorem sc_bars : FnScope ["case","row","found","rows","turn","rules","at","number","place","slots"] ["case","row"] (defScope s_bars) := ⟨rfl,rfl,rfl,by decide +kernel,rfl,by decide +kernel,by decide +kernel⟩
theorem sc_places_across : FnScope ["rule","slots","at","first","last"] ["rule","slots","at"] (defScope s_places_across) := ⟨rfl,rfl,rfl,by decide +kernel,rfl,by decide +kernel,by decide +kernel⟩
theorem sc_is_near_across : FnScope ["case","slot","follower"] ["case","slot","follower"] (defScope s_is_near_across) := ⟨rfl,rfl,rfl,by decide +kernel,rfl,by decide +kernel,by decide +kernel⟩
theorem sc_lines : FnScope ["case","row","measure","places","far","told","begin","end"] ["case","row","measure"] (defScope s_lines) := ⟨rfl,rfl,rfl,by decide +kernel,rfl,by decide +kernel,by decide +kernel⟩
theorem sc_line_end : FnScope ["far","places","begin","measure","fitting"] ["far","places","begin","measure"] (defScope s_line_end) := ⟨rfl,rfl,rfl,by decide +kernel,rfl,by decide +kernel,by decide +kernel⟩
theorem sc_law_cell_at : FnScope ["script","k"] ["script","k"] (defScope s_law_cell_at) := ⟨rfl,rfl,rfl,by decide +kernel,rfl,by decide +kernel,by decide +kernel⟩
theorem sc_law_pick : FnScope ["script","k"] ["script","k"] (defScope s_law_pick) := ⟨rfl,rfl,rfl,by decide +kernel,rfl,by decide +kernel,by decide +kernel⟩
theorem sc_law_whole : FnScope ["x"] ["x"] (defScope s_law_whole) := ⟨rfl,rfl,rfl,by decide +kernel,rfl,by decide +kernel,by decide +kernel⟩
theorem sc_law_mix : FnScope ["cell","k","number"] ["cell","k"] (defScope s_law_mix) := ⟨rfl,rfl,rfl,by decide +kernel,rfl,by decide +kernel,by decide +kernel⟩
theorem sc_law_stock : FnScope ["cell","step"] ["cell"] (defScope s_law_stock) := ⟨rfl,rfl,rfl,by decide +kernel,rfl,by decide +kernel,by decide +kernel⟩
theorem sc_law_part : FnScope ["cell","k","sizes","stock","many"] ["cell","k","sizes","stock"] (defScope s_law_part) := ⟨rfl,rfl,rfl,by decide +kernel,rfl,by decide +kernel,by decide +kernel⟩
theorem sc_law_rule : FnScope ["cell","stock","behind","take","ahead"] ["cell","stock"] (defScope s_law_rule) := ⟨rfl,rfl,rfl,by decide +kernel,rfl,by decide +kernel,by decide +kernel⟩
theorem sc_law_passes : FnScope ["script","start","many","rules","stock","found","k","row","j"] ["script","start","many","rules","stock"] (defScope s_law_passes) := ⟨rfl,rfl,rfl,by decide +kernel,rfl,by decide +kernel,by decide +kernel⟩
theorem sc_law_letters : FnScope ["script","start","many","stock"] ["script","start","many","stock"] (defScope s_law_letters) := ⟨rfl,rfl,rfl,by decide +kernel,rfl,by decide +kernel,by decide +kernel⟩
theorem sc_law_widths : FnScope ["cell","stock","found","shape"] ["cell","stock"] (defScope s_law_widths) := ⟨rfl,rfl,rfl,by decide +kernel,rfl,by decide +kernel,by decide +kernel⟩
theorem sc_law_nears : FnScope ["cell","stock","rare","wide","found","one","other"] ["cell","stock","rare"] (defScope s_law_nears) := ⟨rfl,rfl,rfl,by decide +kernel,rfl,by decide +kernel,by decide +kernel⟩
theorem sc_law_fits : FnScope ["rule","shapes","at","window","begin","k"] ["rule","shapes","at"] (defScope s_law_fits) := ⟨rfl,rfl,rfl,by decide +kernel,rfl,by decide +kernel,by decide +kernel⟩
theorem sc_law_doings : FnScope ["rules","shapes","found","at","good"] ["rules","shapes"] (defScope s_law_doings) := ⟨rfl,rfl,rfl,by decide +kernel,rfl,by decide +kernel,by decide +kernel⟩
theorem sc_law_bundled : FnScope ["row","many","inside","one","place","found","begin","end"] ["row","many"] (defScope s_law_bundled) := ⟨rfl,rfl,rfl,by decide +kernel,rfl,by decide +kernel,by decide +kernel⟩
theorem sc_law_next_row : FnScope ["rules","row","many","found","at","one","rule","last","shape"] ["rules","row","many"] (defScope s_law_next_row) := ⟨rfl,rfl,rfl,by decide +kernel,rfl,by decide +kernel,by decide +kernel⟩
theorem sc_law_rows : FnScope ["passes","letters","row","found","rules"] ["passes","letters"] (defScope s_law_rows) := ⟨rfl,rfl,rfl,by decide +kernel,rfl,by decide +kernel,by decide +kernel⟩
theorem sc_law_begins : FnScope ["widths","nears","row","found","k","more"] ["widths","nears","row"] (defScope s_law_begins) := ⟨rfl,rfl,rfl,by decide +kernel,rfl,by decide +kernel,by decide +kernel⟩
theorem sc_law_same : FnScope ["found","due","k","j"] ["found","due"] (defScope s_law_same) := ⟨rfl,rfl,rfl,by decide +kernel,rfl,by decide +kernel,by decide +kernel⟩
theorem sc_law_bar : FnScope ["passes","nears","rows","place","number","row","one","rule","first","last","at"] ["passes","nears","rows","place"] (defScope s_law_bar) := ⟨rfl,rfl,rfl,by decide +kernel,rfl,by decide +kernel,by decide +kernel⟩
theorem sc_law_width : FnScope ["passes","widths","nears","letters"] ["passes","widths","nears","letters"] (defScope s_law_width) := ⟨rfl,rfl,rfl,by decide +kernel,rfl,by decide +kernel,by decide +kernel⟩
theorem sc_law_copy : FnScope ["case","letters"] ["case","letters"] (defScope s_law_copy) := ⟨rfl,rfl,rfl,by decide +kernel,rfl,by decide +kernel,by decide +kernel⟩
theorem sc_law : FnScope ["script","cell","stock","passes","letters","widths","nears","measure","rows","places","due","begin","later","end","place","case","kept","found"] ["script"] (defScope s_law) := ⟨rfl,rfl,rfl,by decide +kernel,rfl,by decide +kernel,by decide +kernel⟩
structure Txt (mg : Str → Option Value) : Prop where
  c_PASSES : ∃ t,mg "PASSES" = some (.int 0 t)
  c_WIDTHS : ∃ t,mg "WIDTHS" = some (.int 1 t)
  c_NEARS : ∃ t,mg "NEARS" = some (.int 2 t)
  c_BEHIND : ∃ t,mg "BEHIND" = some (.int 0 t)
  c_TAKE : ∃ t,mg "TAKE" = some (.int 1 t)
  c_AHEAD : ∃ t,mg "AHEAD" = some (.int 2 t)
  c_GIVE : ∃ t,mg "GIVE" = some (.int 3 t)
  c_SHAPE : ∃ t,mg "SHAPE" = some (.int 0 t)
  c_FROM : ∃ t,mg "FROM" = some (.int 1 t)
  c_TO : ∃ t,mg "TO" = some (.int 2 t)
  c_USUAL_WIDTH : ∃ t,mg "USUAL_WIDTH" = some (.int 10 t)
  c_BEGIN : ∃ t,mg "BEGIN" = some (.int 0 t)
  c_END : ∃ t,mg "END" = some (.int 1 t)
  n_bool : mg "bool" = none
  n_dict : mg "dict" = none
  n_enumerate : mg "enumerate" = none
  n_int : mg "int" = none
  n_isinstance : mg "isinstance" = none
  n_len : mg "len" = none
  n_list : mg "list" = none
  n_max : mg "max" = none
  n_range : mg "range" = none
  n_tuple : mg "tuple" = none
section
variable {P : Program} {w : World} {K : PySem.W.Frag} {mg : Str → Option Value} {base : Heap}
theorem ok_law_cell_at {f : Addr} {fd : FuncData} (D : Dn K mg "_law_cell_at" s_law_cell_at ["script","k"] f fd) (T : Txt mg) :
    FnOk P w K mg base CX0 1 f fd ["script","k"] (spCellAt K) := by
  refine D.F.ok (k := 0) sc_law_cell_at (fun vs H Q E h => ?_) (fun cdv A outer s H vs Q E hr h => ?_)
  · obtain ⟨a,ns,k,rfl,h0k,hS,kq⟩ := h
    rfl
  · obtain ⟨a,ns,k,rfl,h0k,hS,kq⟩ := h
    refine ⟨_,(pss_cons (ps_if (pt_cmpR op_lt (pv 1) (pe_callB call_len_seq (by rfl) T.n_len PySem.boot_len (pa_cons (pv 0) pa_nil)) (nomark _))
       (pss_one (ps_ret (pe_ix ix_list (pv 0) (pv 1) (fun _ _ => rfl))))
       pss_nil)
       (pss_one (ps_ret pe_int))),?_⟩
    obtain ⟨n,rfl⟩ := Int.eq_ofNat_of_zero_le h0k
    refine ⟨_,rfl,_,rfl,a,_,rfl,.inl hS,_,_,rfl,rfl,_,rfl,?_⟩
    refine ite2 (fun h0 => ?_) (fun h0 => ?_)
    · have hk : n < ns.length := by simpa using h0
      exact ⟨_,rfl,_,rfl,a,_,_,_,rfl,rfl,hS,atI_iv (List.getElem?_eq_getElem hk),kq _⟩
    · exact kq 0
theorem ok_law_stock {f : Addr} {fd : FuncData} (D : Dn K mg "_law_stock" s_law_stock ["cell"] f fd) (T : Txt mg) :
    FnOk P w K mg base CX0 1 f fd ["cell"] spStock2 := by
  refine D.F.ok (k := 0) sc_law_stock (fun vs H Q E h => ?_) (fun cdv A outer s H vs Q E hr h => ?_)
  · obtain ⟨c,rfl,kq⟩ := h
    rfl
  · obtain ⟨c,rfl,kq⟩ := h
    refine ⟨_,(pss_cons (ps_set (i := 1) sc_law_stock.nd rfl (by first | exact Or.inl rfl | exact Or.inr rfl) (pe_ix ix_list0 (pe_lst (pa_cons pe_int (pa_cons pe_int (pa_cons pe_int pa_nil)))) (pe_op op_mod (pe_op op_fdiv (pv 0) pe_int) pe_int) (fun _ _ => rfl)))
       (pss_one (ps_ret (pe_lc ["k"] [1] rfl (pi_range1 (by rfl) T.n_range (pa_cons (pe_op op_add pe_int (pe_op op_mod (pv 0) pe_int)) pa_nil)) (fun _ _ _ _ => ⟨(pg_name (i := 0) (by exact (show (["k","step"] : List Str).Nodup by decide +kernel)) rfl (by first | exact Or.inl rfl | exact Or.inr rfl)),pts_nil,(pe_op op_add (pe_op op_mul (pv 1) (pv 0)) (pe_op op_fdiv (pv 1) pe_int))⟩))))),?_⟩
    refine ⟨(by decide),fun l hl => ⟨_,rfl,_,_,rfl,rfl,⟨(by first | decide | omega),(by first | decide | omega)⟩,_,_,rfl,rfl,(by first | decide | omega),?_⟩⟩
    obtain ⟨j,hj⟩ : ∃ j : Nat,c / 700 % 3 = (j : Int) := Int.eq_ofNat_of_zero_le (by first | decide | omega)
    have hj3 : j < 3 := by omega
    obtain ⟨s,hs,hs2,hs3⟩ : ∃ s : Int,[1,1,197][j]? = some s ∧ (0 ≤ s ∧ s < 1000) ∧ (s = 1 ∨ s = 197) := by
      match j,hj3 with
      | 0,_ => exact ⟨1,rfl,by (first | ((try clear hj); (try clear hj3); omega) | omega),by (first | ((try clear hj); (try clear hj3); omega) | omega)⟩
      | 1,_ => exact ⟨1,rfl,by (first | ((try clear hj); (try clear hj3); omega) | omega),by (first | ((try clear hj); (try clear hj3); omega) | omega)⟩
      | 2,_ => exact ⟨197,rfl,by (first | ((try clear hj); (try clear hj3); omega) | omega),by (first | ((try clear hj); (try clear hj3); omega) | omega)⟩
    refine ⟨l,_,(j : Int),_,rfl,congrArg V.int hj,SqL.of upd_same,atI_iv (ns := [1,1,197]) hs,?_⟩
    obtain ⟨m,hm⟩ : ∃ m : Nat,2 + c % 4 = (m : Int) := Int.eq_ofNat_of_zero_le (by first | decide | (first | ((try clear hs3); (try clear hs2); (try clear hj3); (try clear hj); omega) | omega))
    refine ⟨_,rfl,_,_,rfl,rfl,(by first | decide | omega),_,_,rfl,rfl,(m : Int),congrArg (fun z => [V.int z]) hm,by (first | ((try clear hs3); (try clear hs2); (try clear hj3); (try clear hj); omega) | omega),by (first | ((try clear hs3); (try clear hs2); (try clear hj3); (try clear hj); omega) | omega),?_⟩
    refine fun D hD => lc_range (n := m) (fun i ys τ H' => Ex2 fun a ns => And5 (τ = [a,some (.int s)]) (Same H H') (H' D = some (.lst ys)) (ys = iv ns) (ns = stockL s i))
      ⟨none,[],rfl,(same_new hl).trans (same_new hD),upd_same,rfl,rfl⟩ (fun i ys τ H' _ zz1 => by obtain ⟨_,_,_,_,h',_⟩ := zz1; exact h') ?_ ?_
    · rintro i ys τ H' hi ⟨a,ns,rfl,s1,hd1,rfl,hn⟩
      refine lcN ?_
      refine ⟨_,rfl,_,rfl,_,_,rfl,rfl,.inl ⟨(by first | decide | (first | ((try clear hi); (try clear hm); (try clear hs3); (try clear hj3); (try clear hj); omega) | omega)),(by first | decide | (first | ((try clear hi); (try clear hm); (try clear hs3); (try clear hj3); (try clear hj); omega) | omega))⟩,_,rfl,_,_,rfl,rfl,⟨(by first | decide | omega),(by first | decide | omega)⟩,_,_,rfl,rfl,hd1,small (by rw [iv_len,hn]; unfold stockL; rw [List.length_map,List.length_range]; (first | ((try clear hs3); (try clear hs2); (try clear hj3); (try clear hj); omega) | omega)),_,ns ++ [s * (0 + (i : Int)) + s / 50],rfl,same_off s1 ((same_new hl).free hD),upd_same,?_,?_⟩
      · rw [iv_app]; rfl
      · rw [hn]; unfold stockL; rw [List.range_succ,List.map_append,show (0 : Int) + (i : Int) = (i : Int) by (first | ((try clear hi); (try clear hm); (try clear hs3); (try clear hs2); (try clear hj3); (try clear hj); omega) | omega)]; rfl
    · rintro ys τ H' ⟨a,ns,rfl,s1,hd1,rfl,hn⟩
      have hnl : ns.length = m := by rw [hn]; unfold stockL; rw [List.length_map,List.length_range]
      exact kq D ns H' s1 ((same_new hl).free hD) hd1 (by first | decide | (first | ((try clear hs3); (try clear hs2); (try clear hj3); (try clear hj); omega) | omega)) (by first | decide | (first | ((try clear hs3); (try clear hs2); (try clear hj3); (try clear hj); omega) | omega)) ⟨s,m,hs3,by (first | ((try clear hs3); (try clear hs2); (try clear hj3); (try clear hj); omega) | omega),hn⟩
theorem ok_law_mix {f : Addr} {fd : FuncData} (D : Dn K mg "_law_mix" s_law_mix ["cell","k"] f fd) (T : Txt mg) :
    FnOk P w K mg base CX0 1 f fd ["cell","k"] spMix := by
  refine D.F.ok (k := 0) sc_law_mix (fun vs H Q E h => ?_) (fun cdv A outer s H vs Q E hr h => ?_)
  · obtain ⟨c,k,rfl,kq⟩ := h
    rfl
  · obtain ⟨c,k,rfl,kq⟩ := h
    refine ⟨_,(pss_cons (ps_set (i := 2) sc_law_mix.nd rfl (by first | exact Or.inl rfl | exact Or.inr rfl) (pe_op op_mod (pe_op op_add (pe_op op_add (pe_op op_mul (pv 0) pe_int) (pe_op op_mul pe_int (pv 1))) pe_int) pe_int))
       (pss_one (ps_ret (pe_op op_mod (pe_op op_add (pe_op op_add (pe_op op_mul (pv 2) (pv 2)) (pe_op op_mul pe_int (pv 2))) (pv 1)) pe_int)))),?_⟩
    refine ⟨_,rfl,_,_,rfl,rfl,.inr ⟨(by first | decide | omega),(by first | decide | omega)⟩,_,rfl,_,_,rfl,rfl,.inl ⟨(by first | decide | omega),(by first | decide | omega)⟩,_,_,rfl,rfl,_,_,rfl,rfl,_,_,rfl,rfl,(by first | decide | omega),?_⟩
    refine ⟨_,rfl,_,rfl,_,_,rfl,rfl,.inl ⟨(by first | decide | omega),(by first | decide | omega)⟩,_,rfl,_,_,rfl,rfl,.inl ⟨(by first | decide | omega),(by first | decide | omega)⟩,_,_,rfl,rfl,_,rfl,_,_,rfl,rfl,_,_,rfl,rfl,(by first | decide | omega),kq _ (by first | decide | omega) (by first | decide | omega)⟩
theorem ok_law_part {f : Addr} {fd : FuncData} {f_law_mix : Addr} {fd_law_mix : FuncData} (D : Dn K mg "_law_part" s_law_part ["cell","k","sizes","stock"] f fd) (T : Txt mg)
    (D_law_mix : Dn K mg "_law_mix" s_law_mix ["cell","k"] f_law_mix fd_law_mix) (G_law_mix : FnOk P w K mg base CX0 1 f_law_mix fd_law_mix ["cell","k"] spMix) :
    FnOk P w K mg base CX0 2 f fd ["cell","k","sizes","stock"] spPart := by
  refine D.F.ok (k := 1) sc_law_part (fun vs H Q E h => ?_) (fun cdv A outer s H vs Q E hr h => ?_)
  · obtain ⟨c,k,vz,vt,zs,ns,rfl,⟨az,rfl,hz⟩,hz0,hz4,⟨at',rfl,ht⟩,ht0,ht1,hz1,kq⟩ := h
    rfl
  · obtain ⟨c,k,vz,vt,zs,ns,rfl,⟨az,rfl,hz⟩,hz0,hz4,⟨at',rfl,ht⟩,ht0,ht1,hz1,kq⟩ := h
    refine ⟨_,(pss_cons (ps_set (i := 4) sc_law_part.nd rfl (by first | exact Or.inl rfl | exact Or.inr rfl) (pe_ix ix_list0 (pv 2) (pe_op op_mod (pe_call G_law_mix (hr.mono (by decide)) (by rfl) D_law_mix.m D_law_mix.F.kp D_law_mix.b .nil pass0 (pa_cons (pv 0) (pa_cons (pv 1) pa_nil))) (pe_callB call_len_seq0 (by rfl) T.n_len PySem.boot_len (pa_cons (pv 2) pa_nil))) (fun _ _ => rfl)))
       (pss_one (ps_ret (pe_callTy call_tuple_of0 (by rfl) T.n_tuple boot_tuple (pa_cons (pe_lc ["j"] [3,0,1] rfl (pi_range1 (by rfl) T.n_range (pa_cons (pv 4) pa_nil)) (fun _ _ _ _ => ⟨(pg_name (i := 0) (by exact (show (["j","stock","cell","k"] : List Str).Nodup by decide +kernel)) rfl (by first | exact Or.inl rfl | exact Or.inr rfl)),pts_nil,(pe_ix ix_list0 (pv 1) (pe_op op_mod (pe_call G_law_mix (hr.mono (by decide)) (by rfl) D_law_mix.m D_law_mix.F.kp D_law_mix.b .nil pass0 (pa_cons (pv 2) (pa_cons (pe_op op_add (pe_op op_add pe_int (pe_op op_mul pe_int (pv 3))) (pv 0)) pa_nil))) (pe_callB call_len_seq0 (by rfl) T.n_len PySem.boot_len (pa_cons (pv 1) pa_nil))) (fun _ _ => rfl))⟩)) pa_nil))))),?_⟩
    have hzl : 0 < zs.length := List.length_pos_iff.mpr hz0
    have htl : 0 < ns.length := List.length_pos_iff.mpr ht0
    refine ⟨_,rfl,_,rfl,_,rfl,c,k,rfl,fun m hm0 hm1 => ⟨_,rfl,az,_,rfl,.inl (SqL.of hz),_,_,rfl,rfl,(by rw [iv_len]; first | decide | (first | ((try clear hm1); (try clear hm0); (try clear htl); (try clear ht1); omega) | omega)),?_⟩⟩
    obtain ⟨j,hj⟩ : ∃ j : Nat,m % ((iv zs).length : Int) = (j : Int) := Int.eq_ofNat_of_zero_le (Int.emod_nonneg _ (by rw [iv_len]; first | decide | (first | ((try clear hm1); (try clear hm0); (try clear htl); (try clear ht1); omega) | omega)))
    have hjl : j < zs.length := by
      have := Int.emod_lt_of_pos m (b := ((iv zs).length : Int)) (by rw [iv_len]; first | decide | (first | ((try clear hj); (try clear hm1); (try clear hm0); (try clear htl); (try clear ht1); omega) | omega))
      rw [hj,iv_len] at this; (first | ((try clear hj); (try clear hm1); (try clear hm0); (try clear htl); (try clear hzl); (try clear hz1); (try clear ht1); omega) | omega)
    have hzj : zs[j]? = some zs[j] := List.getElem?_eq_getElem hjl
    have hmem : zs[j] ∈ zs := List.getElem_mem hjl
    have hb := hz4 _ hmem
    generalize zs[j] = z at hzj hmem hb
    obtain ⟨q,rfl⟩ := Int.eq_ofNat_of_zero_le hb.1
    refine ⟨az,_,(j : Int),_,rfl,congrArg V.int hj,SqL.of hz,atI_iv hzj,?_⟩
    refine ⟨_,rfl,_,rfl,by (first | ((try clear hjl); (try clear hj); (try clear hm1); (try clear hm0); (try clear htl); (try clear hzl); (try clear hz1); (try clear ht1); omega) | omega),by (first | ((try clear hjl); (try clear hj); (try clear hm1); (try clear hm0); (try clear htl); (try clear hzl); (try clear hz1); (try clear ht1); omega) | omega),fun D hD => (let Iv : Nat → List V → L2.St → Hp → Prop := fun i ys τ H' => Ex2 fun a t => And5 (τ = [a,some (.ref at'),some (.int c),some (.int k)]) (Same H H') (H' D = some (.lst ys)) (ys = iv t) (t.length = i); lc_range (n := q) Iv
      ⟨none,[],rfl,same_new hD,upd_same,rfl,rfl⟩ (fun i ys τ H' _ zz1 => by obtain ⟨_,_,_,_,h',_⟩ := zz1; exact h') ?_ ?_)⟩
    · rintro i ys τ H' hi ⟨a,t,rfl,s1,hd1,rfl,hn⟩
      refine lcN ?_
      refine ⟨_,rfl,_,rfl,_,rfl,_,_,rfl,rfl,.inl ⟨(by first | decide | omega),(by first | decide | omega)⟩,_,_,rfl,rfl,_,rfl,_,_,rfl,rfl,c,_,rfl,fun m' hm0' hm1' => ⟨_,rfl,at',_,rfl,.inl (SqL.of (s1 _ _ ht)),_,_,rfl,rfl,(by rw [iv_len]; first | decide | (first | ((try clear hm1'); (try clear hm0'); (try clear hn); (try clear hi); (try clear hb); (try clear hjl); (try clear hj); (try clear hm1); (try clear hm0); (try clear hzl); (try clear hz1); omega) | omega)),?_⟩⟩
      obtain ⟨j',hj'⟩ : ∃ j : Nat,m' % ((iv ns).length : Int) = (j : Int) := Int.eq_ofNat_of_zero_le (Int.emod_nonneg _ (by rw [iv_len]; first | decide | (first | ((try clear hm1'); (try clear hm0'); (try clear hn); (try clear hi); (try clear hb); (try clear hjl); (try clear hj); (try clear hm1); (try clear hm0); (try clear hzl); (try clear hz1); omega) | omega)))
      have hjl' : j' < ns.length := by
        have := Int.emod_lt_of_pos m' (b := ((iv ns).length : Int)) (by rw [iv_len]; first | decide | (first | ((try clear hj'); (try clear hm1'); (try clear hm0'); (try clear hn); (try clear hi); (try clear hb); (try clear hjl); (try clear hj); (try clear hm1); (try clear hm0); (try clear hzl); (try clear hz1); omega) | omega))
        rw [hj',iv_len] at this; (first | ((try clear hj'); (try clear hm1'); (try clear hm0'); (try clear hn); (try clear hi); (try clear hb); (try clear hjl); (try clear hj); (try clear hm1); (try clear hm0); (try clear htl); (try clear hzl); (try clear hz1); (try clear ht1); omega) | omega)
      refine ⟨at',_,(j' : Int),_,rfl,congrArg V.int hj',SqL.of (s1 _ _ ht),atI_iv (List.getElem?_eq_getElem hjl'),hd1,small (by rw [iv_len]; first | decide | (first | ((try clear hjl'); (try clear hj'); (try clear hm1'); (try clear hm0'); (try clear hjl); (try clear hj); (try clear hm1); (try clear hm0); (try clear htl); (try clear hzl); (try clear hz1); (try clear ht1); omega) | omega)),_,t ++ [ns[j']],rfl,same_off s1 hD,upd_same,?_,?_⟩
      · rw [iv_app]; rfl
      · rw [List.length_append,List.length_singleton,hn]
    · rintro ys τ H' ⟨a,t,rfl,s1,hd1,rfl,hn⟩
      refine ⟨D,_,rfl,.inl ⟨SqL.of hd1,fun p hp => ?_⟩⟩
      exact kq _ t _ (s1.trans (same_new hp)) ⟨p,rfl,upd_same⟩ (by rw [hn]; exact hmem)
theorem ok_law_rule {f : Addr} {fd : FuncData} {f_law_part : Addr} {fd_law_part : FuncData} (D : Dn K mg "_law_rule" s_law_rule ["cell","stock"] f fd) (T : Txt mg)
    (D_law_part : Dn K mg "_law_part" s_law_part ["cell","k","sizes","stock"] f_law_part fd_law_part) (G_law_part : FnOk P w K mg base CX0 2 f_law_part fd_law_part ["cell","k","sizes","stock"] spPart) :
    FnOk P w K mg base CX0 3 f fd ["cell","stock"] spRule := by
  refine D.F.ok (k := 2) sc_law_rule (fun vs H Q E h => ?_) (fun cdv A outer s H vs Q E hr h => ?_)
  · obtain ⟨c,vt,ns,rfl,ht,ht0,ht1,kq⟩ := h
    rfl
  · obtain ⟨c,vt,ns,rfl,ht,ht0,ht1,kq⟩ := h
    refine ⟨_,(pss_cons (ps_set (i := 2) sc_law_rule.nd rfl (by first | exact Or.inl rfl | exact Or.inr rfl) (pe_call G_law_part (hr.mono (by decide)) (by rfl) D_law_part.m D_law_part.F.kp D_law_part.b .nil pass0 (pa_cons (pv 0) (pa_cons pe_int (pa_cons (pe_lst (pa_cons pe_int (pa_cons pe_int (pa_cons pe_int (pa_cons pe_int (pa_cons pe_int (pa_cons pe_int (pa_cons pe_int (pa_cons pe_int pa_nil))))))))) (pa_cons (pv 1) pa_nil))))))
       (pss_cons (ps_set (i := 3) sc_law_rule.nd rfl (by first | exact Or.inl rfl | exact Or.inr rfl) (pe_call G_law_part (hr.mono (by decide)) (by rfl) D_law_part.m D_law_part.F.kp D_law_part.b .nil pass0 (pa_cons (pv 0) (pa_cons pe_int (pa_cons (pe_lst (pa_cons pe_int (pa_cons pe_int (pa_cons pe_int (pa_cons pe_int (pa_cons pe_int (pa_cons pe_int (pa_cons pe_int (pa_cons pe_int pa_nil))))))))) (pa_cons (pv 1) pa_nil))))))
       (pss_cons (ps_set (i := 4) sc_law_rule.nd rfl (by first | exact Or.inl rfl | exact Or.inr rfl) (pe_call G_law_part (hr.mono (by decide)) (by rfl) D_law_part.m D_law_part.F.kp D_law_part.b .nil pass0 (pa_cons (pv 0) (pa_cons pe_int (pa_cons (pe_lst (pa_cons pe_int (pa_cons pe_int (pa_cons pe_int (pa_cons pe_int (pa_cons pe_int (pa_cons pe_int (pa_cons pe_int (pa_cons pe_int pa_nil))))))))) (pa_cons (pv 1) pa_nil))))))
       (pss_one (ps_ret (pe_tup (pa_cons (pv 2) (pa_cons (pv 3) (pa_cons (pv 4) (pa_cons (pe_call G_law_part (hr.mono (by decide)) (by rfl) D_law_part.m D_law_part.F.kp D_law_part.b .nil pass0 (pa_cons (pv 0) (pa_cons pe_int (pa_cons (pe_lst (pa_cons pe_int (pa_cons pe_int (pa_cons pe_int (pa_cons pe_int (pa_cons pe_int pa_nil)))))) (pa_cons (pv 1) pa_nil))))) pa_nil)))))))))),?_⟩
    refine ⟨_,rfl,(by show 8 ≤ sizeLine; decide),fun l1 hl1 => ⟨_,rfl,c,1,_,_,[0,0,0,1,2,0,1,3],ns,rfl,⟨l1,rfl,upd_same⟩,(by simp),zb1,ht.same (same_new hl1),ht0,ht1,(by show 8 ≤ 1000; decide),fun vb tb H1 s1 hb hbm => ?_⟩⟩
    have u1 : Same H H1 := (same_new hl1).trans s1
    refine ⟨_,rfl,(by show 8 ≤ sizeLine; decide),fun l2 hl2 => ⟨_,rfl,c,2,_,_,[1,1,2,2,3,2,1,4],ns,rfl,⟨l2,rfl,upd_same⟩,(by simp),zb2,(ht.same u1).same (same_new hl2),ht0,ht1,(by show 8 ≤ 1000; decide),fun vt' tt H2 s2 htk htm => ?_⟩⟩
    have u2 : Same H1 H2 := (same_new hl2).trans s2
    refine ⟨_,rfl,(by show 8 ≤ sizeLine; decide),fun l3 hl3 => ⟨_,rfl,c,3,_,_,[0,0,0,1,2,0,1,3],ns,rfl,⟨l3,rfl,upd_same⟩,(by simp),zb1,((ht.same u1).same u2).same (same_new hl3),ht0,ht1,(by show 8 ≤ 1000; decide),fun va ta H3 s3 ha ham => ?_⟩⟩
    have u3 : Same H2 H3 := (same_new hl3).trans s3
    refine ⟨_,rfl,_,rfl,_,rfl,_,rfl,(by show 5 ≤ sizeLine; decide),fun l4 hl4 => ⟨_,rfl,c,4,_,_,[1,1,2,1,3],ns,rfl,⟨l4,rfl,upd_same⟩,(by simp),zb3,(((ht.same u1).same u2).same u3).same (same_new hl4),ht0,ht1,(by show 5 ≤ 1000; decide),fun vg tg H4 s4 hg hgm => ?_⟩⟩
    have u4 : Same H3 H4 := (same_new hl4).trans s4
    refine ⟨(by show 4 ≤ sizeLine; decide),fun t ht' => ?_⟩
    have u5 : Same H4 (upd H4 t (.tup [vb,vt',va,vg])) := same_new ht'
    refine kq _ ⟨tb,tt,ta,tg⟩ _ ((((u1.trans u2).trans u3).trans u4).trans u5) ⟨t,vb,vt',va,vg,rfl,upd_same,hb.tps (tps_of (((u2.trans u3).trans u4).trans u5)),htk.tps (tps_of ((u3.trans u4).trans u5)),ha.tps (tps_of (u4.trans u5)),hg.tps (tps_of u5)⟩ ?_
    exact ⟨(zc2 htm).1,(zc2 htm).2,zc1 hbm,zc1 ham,(zc3 hgm).1,(zc3 hgm).2⟩
theorem ok_law_pick {f : Addr} {fd : FuncData} {f_law_cell_at : Addr} {fd_law_cell_at : FuncData} (D : Dn K mg "_law_pick" s_law_pick ["script","k"] f fd) (T : Txt mg)
    (D_law_cell_at : Dn K mg "_law_cell_at" s_law_cell_at ["script","k"] f_law_cell_at fd_law_cell_at) (G_law_cell_at : FnOk P w K mg base CX0 1 f_law_cell_at fd_law_cell_at ["script","k"] (spCellAt K)) :
    FnOk P w K mg base CX0 2 f fd ["script","k"] (spCellAt K) := by
  refine D.F.ok (k := 1) sc_law_pick (fun vs H Q E h => ?_) (fun cdv A outer s H vs Q E hr h => ?_)
  · obtain ⟨a,ns,k,rfl,h0k,hS,kq⟩ := h
    rfl
  · obtain ⟨a,ns,k,rfl,h0k,hS,kq⟩ := h
    refine ⟨_,(pss_cons (ps_if (pt_cmpR op_lt (pv 1) (pe_callB call_len_seq (by rfl) T.n_len PySem.boot_len (pa_cons (pv 0) pa_nil)) (nomark _))
       (pss_one (ps_ret (pe_ix ix_list (pv 0) (pv 1) (fun _ _ => rfl))))
       pss_nil)
       (pss_one (ps_ret (pe_op op_fdiv (pe_op op_mod (pe_op op_mul (pe_op op_add (pe_op op_add (pe_call G_law_cell_at (hr.mono (by decide)) (by rfl) D_law_cell_at.m D_law_cell_at.F.kp D_law_cell_at.b .nil pass0 (pa_cons (pv 0) (pa_cons pe_int pa_nil))) (pe_op op_mul pe_int (pv 1))) pe_int) pe_int) pe_int) pe_int)))),?_⟩
    obtain ⟨n,rfl⟩ := Int.eq_ofNat_of_zero_le h0k
    refine ⟨_,rfl,_,rfl,a,_,rfl,.inl hS,_,_,rfl,rfl,_,rfl,?_⟩
    refine ite2 (fun h0 => ?_) (fun h0 => ?_)
    · have hk : n < ns.length := by simpa using h0
      exact ⟨_,rfl,_,rfl,a,_,_,_,rfl,rfl,hS,atI_iv (List.getElem?_eq_getElem hk),kq _⟩
    · refine ⟨_,rfl,a,ns,0,rfl,Int.le_refl _,hS,fun c => ?_⟩
      exact ⟨_,rfl,_,_,rfl,rfl,.inl ⟨(by first | decide | omega),(by first | decide | omega)⟩,_,_,rfl,rfl,_,_,rfl,rfl,_,_,rfl,rfl,.inr ⟨(by first | decide | omega),(by first | decide | omega)⟩,_,_,rfl,rfl,(by first | decide | omega),_,_,rfl,rfl,⟨(by first | decide | omega),(by first | decide | omega)⟩,kq _⟩
theorem ok_law_passes {f : Addr} {fd : FuncData} {f_law_rule : Addr} {fd_law_rule : FuncData} {f_law_pick : Addr} {fd_law_pick : FuncData} (D : Dn K mg "_law_passes" s_law_passes ["script","start","many","rules","stock"] f fd) (T : Txt mg)
    (D_law_rule : Dn K mg "_law_rule" s_law_rule ["cell","stock"] f_law_rule fd_law_rule) (G_law_rule : FnOk P w K mg base CX0 3 f_law_rule fd_law_rule ["cell","stock"] spRule)
    (D_law_pick : Dn K mg "_law_pick" s_law_pick ["script","k"] f_law_pick fd_law_pick) (G_law_pick : FnOk P w K mg base CX0 2 f_law_pick fd_law_pick ["script","k"] (spCellAt K)) :
    FnOk P w K mg base CX0 4 f fd ["script","start","many","rules","stock"] (spPasses K) := by
  refine D.F.ok (k := 3) sc_law_passes (fun vs H Q E h => ?_) (fun cdv A outer s H vs Q E hr h => ?_)
  · obtain ⟨a,ns,vt,st,start,many,rules,rfl,hS,hst,hst0,hst1,hmany,hrules,kq⟩ := h
    rfl
  · obtain ⟨a,ns,vt,st,start,many,rules,rfl,hS,hst,hst0,hst1,hmany,hrules,kq⟩ := h
    refine ⟨_,(pss_cons (ps_set (i := 5) sc_law_passes.nd rfl (by first | exact Or.inl rfl | exact Or.inr rfl) (pe_lst pa_nil))
       (pss_cons (ps_for PassesOwn.never rfl (pi_range1 (by rfl) T.n_range (pa_cons (pv 2) pa_nil)) (pg_name (i := 6) sc_law_passes.nd rfl (by first | exact Or.inl rfl | exact Or.inr rfl))
       (pss_cons (ps_set (i := 7) sc_law_passes.nd rfl (by first | exact Or.inl rfl | exact Or.inr rfl) (pe_lst pa_nil))
       (pss_cons (ps_for PassesOwn.never rfl (pi_range1 (by rfl) T.n_range (pa_cons (pv 3) pa_nil)) (pg_name (i := 8) sc_law_passes.nd rfl (by first | exact Or.inl rfl | exact Or.inr rfl))
       (pss_one (ps_expr (pe_bmZ PySem.F.plainAttrs_list PySem.F.slot_list_append PySem.F.type_list_append mt_append (pv 7) (pa_cons (pe_call G_law_rule (hr.mono (by decide)) (by rfl) D_law_rule.m D_law_rule.F.kp D_law_rule.b .nil pass0 (pa_cons (pe_call G_law_pick (hr.mono (by decide)) (by rfl) D_law_pick.m D_law_pick.F.kp D_law_pick.b .nil pass0 (pa_cons (pv 0) (pa_cons (pe_op op_add (pe_op op_add (pv 1) (pe_op op_mul (pv 6) (pv 3))) (pv 8)) pa_nil))) (pa_cons (pv 4) pa_nil))) pa_nil)))))
       (pss_one (ps_expr (pe_bmZ PySem.F.plainAttrs_list PySem.F.slot_list_append PySem.F.type_list_append mt_append (pv 5) (pa_cons (pv 7) pa_nil)))))))
       (pss_one (ps_ret (pv 5))))),?_⟩
    refine ⟨Nat.zero_le _,fun fo hfo => ?_⟩
    refine ⟨_,rfl,_,rfl,by (first | ((try clear hrules); (try clear hst1); omega) | omega),by (first | ((try clear hrules); (try clear hst1); omega) | omega),(let Sg : (Option V) → (Option V) → (Option V) → L2.St := fun kv rv jv => [some (.ref a),some (.int (start : Int)),some (.int (many : Int)),some (.int (rules : Int)),some vt,some (.ref fo),kv,rv,jv]; let Iv : Nat → L2.St → Hp → Prop := fun i σ H' => Ex5 fun kv rv jv xs ps => And7 (σ = Sg kv rv jv) (Same H H') (H' fo = some (.lst xs)) (Paired (fun x rs => x ≠ .ref fo ∧ IsRules H' x rs) xs ps) (PassesOk ps) (ps.length = i) (∀ rs ∈ ps,rs.length = rules); for_range (n := many) Iv
      ⟨none,none,none,[],[],rfl,same_new hfo,upd_same,.nil,(fun _ h => nomatch h),rfl,(fun _ h => nomatch h)⟩ ?_ ?_)⟩
    · rintro i σ H' hi ⟨kv,rv,jv,xs,ps,rfl,s1,hf1,hp1,ok1,hl1,hr1⟩
      refine ⟨Nat.zero_le _,fun ro hro => ?_⟩
      have s1' : Same H (upd H' ro (.lst [])) := s1.trans (same_new hro)
      refine ⟨_,rfl,_,rfl,by (first | ((try clear hl1); (try clear hi); (try clear hmany); (try clear hst1); omega) | omega),by (first | ((try clear hl1); (try clear hi); (try clear hmany); (try clear hst1); omega) | omega),(let Sg : (Option V) → L2.St := fun jv => [some (.ref a),some (.int (start : Int)),some (.int (many : Int)),some (.int (rules : Int)),some vt,some (.ref fo),some (.int (0 + (i : Int))),some (.ref ro),jv]; let Iv : Nat → L2.St → Hp → Prop := fun j σ H2 => Ex3 fun jv ys rs => And6 (σ = Sg jv) (Same H' H2) (H2 ro = some (.lst ys)) (Paired (IsRule H2) ys rs) (RulesOk rs) (rs.length = j); for_range (n := rules) Iv
        ⟨jv,[],[],rfl,same_new hro,upd_same,.nil,(fun _ h => nomatch h),rfl⟩ ?_ ?_)⟩
      · rintro j σ H2 hj ⟨jv,ys,rs,rfl,s2,hr2,hp2,ok2,hl2⟩
        have s12 : Same H H2 := s1.trans s2
        refine ⟨_,rfl,.inl ⟨rfl,_,SqL.of hr2⟩,_,rfl,_,rfl,_,rfl,_,rfl,_,_,rfl,rfl,.inl ⟨(by first | decide | (first | ((try clear hl2); (try clear hj); (try clear hi); (try clear hrules); (try clear hmany); (try clear hst1); omega) | omega)),(by first | decide | (first | ((try clear hl2); (try clear hj); (try clear hrules); (try clear hst1); omega) | omega))⟩,_,_,rfl,rfl,_,rfl,_,_,rfl,rfl,a,ns,_,rfl,?_,s12.seq hS,fun c => ⟨_,rfl,c,vt,st,rfl,hst.same s12,hst0,hst1,fun v r H3 s3 hrl hok => ?_⟩⟩
        · have : 0 ≤ (0 + (i : Int)) * (rules : Int) := Int.mul_nonneg (by first | decide | (first | ((try clear hl2); (try clear hj); (try clear hi); (try clear hrules); (try clear hmany); (try clear hst1); omega) | omega)) (by first | decide | (first | ((try clear hl2); (try clear hj); (try clear hl1); (try clear hi); (try clear hmany); (try clear hst1); omega) | omega))
          (first | ((try clear hl1); (try clear hi); (try clear hmany); (try clear hst1); omega) | omega)
        have hr3 := s3 _ _ hr2
        have hyl : ys.length = rs.length := pr_len hp2
        refine ⟨ro,ys,v,rfl,rfl,hr3,small (by first | decide | (first | ((try clear hl1); (try clear hi); (try clear hmany); (try clear hst1); omega) | omega)),?_⟩
        refine ⟨_,_,rs ++ [r],rfl,same_off (s2.trans s3) hro,upd_same,?_,?_,by rw [List.length_append,List.length_singleton,hl2]⟩
        · exact pr_app (pr_tps tR hp2 ((tps_of s3).trans (Tps.lst hr3))) (.cons (hrl.tps (Tps.lst hr3)) .nil)
        · intro x hx
          rcases List.mem_append.mp hx with h | h
          · exact ok2 x h
          · rw [List.mem_singleton.mp h]; exact hok
      · rintro σ H2 ⟨jv,ys,rs,rfl,s2,hr2,hp2,ok2,hl2⟩
        have hf2 := s2 _ _ hf1
        have hxl : xs.length = ps.length := pr_len hp1
        refine ⟨_,rfl,.inl ⟨rfl,_,SqL.of hf2⟩,_,rfl,fo,xs,_,rfl,rfl,hf2,small (by first | decide | (first | ((try clear hl2); (try clear hrules); (try clear hst1); omega) | omega)),?_⟩
        have hne : ro ≠ fo := fun q => by rw [q,hf1] at hro; cases hro
        have s3 : Same H (upd H2 fo (.lst (xs ++ [.ref ro]))) := same_off (s1.trans s2) hfo
        refine ⟨_,_,_,_,ps ++ [rs],rfl,s3,upd_same,?_,?_,by rw [List.length_append,List.length_singleton,hl1],?_⟩
        · refine pr_app (Paired.imp' (fun x rs' q => ⟨q.1,rules_off q.1 hf2 (q.2.same tR s2)⟩) hp1) (.cons ⟨fun q => hne (V.ref.inj q),?_⟩ .nil)
          exact rules_off (fun q => hne (V.ref.inj q)) hf2 ⟨ro,ys,rfl,hr2,hp2⟩
        · intro x hx
          rcases List.mem_append.mp hx with h | h
          · exact ok1 x h
          · rw [List.mem_singleton.mp h]; exact ok2
        · intro x hx
          rcases List.mem_append.mp hx with h | h
          · exact hr1 x h
          · rw [List.mem_singleton.mp h]; exact hl2
    · rintro σ H' ⟨kv,rv,jv,xs,ps,rfl,s1,hf1,hp1,ok1,hl1,hr1⟩
      exact ⟨_,rfl,kq fo xs ps H' s1 hfo hf1 hp1 ok1 hl1 hr1⟩
theorem ok_law_letters {f : Addr} {fd : FuncData} {f_law_mix : Addr} {fd_law_mix : FuncData} {f_law_pick : Addr} {fd_law_pick : FuncData} (D : Dn K mg "_law_letters" s_law_letters ["script","start","many","stock"] f fd) (T : Txt mg)
    (D_law_mix : Dn K mg "_law_mix" s_law_mix ["cell","k"] f_law_mix fd_law_mix) (G_law_mix : FnOk P w K mg base CX0 1 f_law_mix fd_law_mix ["cell","k"] spMix)
    (D_law_pick : Dn K mg "_law_pick" s_law_pick ["script","k"] f_law_pick fd_law_pick) (G_law_pick : FnOk P w K mg base CX0 2 f_law_pick fd_law_pick ["script","k"] (spCellAt K)) :
    FnOk P w K mg base CX0 3 f fd ["script","start","many","stock"] (spLetters K) := by
  refine D.F.ok (k := 2) sc_law_letters (fun vs H Q E h => ?_) (fun cdv A outer s H vs Q E hr h => ?_)
  · obtain ⟨a,ns,vt,st,start,many,rfl,hS,⟨at',rfl,hst⟩,hst0,hst1,hmany,kq⟩ := h
    rfl
  · obtain ⟨a,ns,vt,st,start,many,rfl,hS,⟨at',rfl,hst⟩,hst0,hst1,hmany,kq⟩ := h
    refine ⟨_,(pss_one (ps_ret (pe_lc ["j"] [3,0,1] rfl (pi_range1 (by rfl) T.n_range (pa_cons (pv 2) pa_nil)) (fun _ _ _ _ => ⟨(pg_name (i := 0) (by exact (show (["j","stock","script","start"] : List Str).Nodup by decide +kernel)) rfl (by first | exact Or.inl rfl | exact Or.inr rfl)),pts_nil,(pe_ix ix_list0 (pv 1) (pe_op op_mod (pe_call G_law_mix (hr.mono (by decide)) (by rfl) D_law_mix.m D_law_mix.F.kp D_law_mix.b .nil pass0 (pa_cons (pe_call G_law_pick (hr.mono (by decide)) (by rfl) D_law_pick.m D_law_pick.F.kp D_law_pick.b .nil pass0 (pa_cons (pv 2) (pa_cons (pe_op op_add (pv 3) (pv 0)) pa_nil))) (pa_cons (pv 0) pa_nil))) (pe_callB call_len_seq0 (by rfl) T.n_len PySem.boot_len (pa_cons (pv 1) pa_nil))) (fun _ _ => rfl))⟩)))),?_⟩
    have htl : 0 < st.length := List.length_pos_iff.mpr hst0
    refine ⟨_,rfl,_,rfl,by (first | ((try clear htl); (try clear hst1); omega) | omega),by (first | ((try clear htl); (try clear hst1); omega) | omega),fun D hD => (let Iv : Nat → List V → L2.St → Hp → Prop := fun i ys τ H' => Ex2 fun b t => And5 (τ = [b,some (.ref at'),some (.ref a),some (.int (start : Int))]) (Same H H') (H' D = some (.lst ys)) (ys = iv t) (t.length = i); lc_range (n := many) Iv
      ⟨none,[],rfl,same_new hD,upd_same,rfl,rfl⟩ (fun i ys τ H' _ zz1 => by obtain ⟨_,_,_,_,h',_⟩ := zz1; exact h') ?_ ?_)⟩
    · rintro i ys τ H' hi ⟨b,t,rfl,s1,hd1,rfl,hn⟩
      refine lcN ?_
      refine ⟨_,rfl,_,rfl,_,rfl,_,rfl,_,_,rfl,rfl,a,ns,_,rfl,by (first | ((try clear htl); (try clear hst1); omega) | omega),s1.seq hS,fun c => ⟨_,rfl,c,_,rfl,fun m' hm0' hm1' => ⟨_,rfl,at',_,rfl,.inl (SqL.of (s1 _ _ hst)),_,_,rfl,rfl,(by rw [iv_len]; first | decide | (first | ((try clear hm1'); (try clear hm0'); (try clear hn); (try clear hi); (try clear hmany); omega) | omega)),?_⟩⟩⟩
      obtain ⟨j',hj'⟩ : ∃ j : Nat,m' % ((iv st).length : Int) = (j : Int) := Int.eq_ofNat_of_zero_le (Int.emod_nonneg _ (by rw [iv_len]; first | decide | (first | ((try clear hm1'); (try clear hm0'); (try clear hn); (try clear hi); (try clear hmany); omega) | omega)))
      have hjl' : j' < st.length := by
        have := Int.emod_lt_of_pos m' (b := ((iv st).length : Int)) (by rw [iv_len]; first | decide | (first | ((try clear hj'); (try clear hm1'); (try clear hm0'); (try clear hn); (try clear hi); (try clear hmany); omega) | omega))
        rw [hj',iv_len] at this; (first | ((try clear hj'); (try clear hm1'); (try clear hm0'); (try clear hn); (try clear hi); (try clear htl); (try clear hmany); (try clear hst1); omega) | omega)
      refine ⟨at',_,(j' : Int),_,rfl,congrArg V.int hj',SqL.of (s1 _ _ hst),atI_iv (List.getElem?_eq_getElem hjl'),hd1,small (by rw [iv_len]; first | decide | (first | ((try clear hjl'); (try clear hj'); (try clear hm1'); (try clear hm0'); (try clear htl); (try clear hst1); omega) | omega)),_,t ++ [st[j']],rfl,same_off s1 hD,upd_same,?_,?_⟩
      · rw [iv_app]; rfl
      · rw [List.length_append,List.length_singleton,hn]
    · rintro ys τ H' ⟨a,t,rfl,s1,hd1,rfl,hn⟩
      exact kq D t H' s1 hD hd1 hn
theorem ok_law_widths {f : Addr} {fd : FuncData} {f_law_mix : Addr} {fd_law_mix : FuncData} (D : Dn K mg "_law_widths" s_law_widths ["cell","stock"] f fd) (T : Txt mg)
    (D_law_mix : Dn K mg "_law_mix" s_law_mix ["cell","k"] f_law_mix fd_law_mix) (G_law_mix : FnOk P w K mg base CX0 1 f_law_mix fd_law_mix ["cell","k"] spMix) :
    FnOk P w K mg base CX0 2 f fd ["cell","stock"] spWidths2 := by
  refine D.F.ok (k := 1) sc_law_widths (fun vs H Q E h => ?_) (fun cdv A outer s H vs Q E hr h => ?_)
  · obtain ⟨c,vt,st,rfl,⟨sk,rfl,hsk⟩,hst5,kq⟩ := h
    rfl
  · obtain ⟨c,vt,st,rfl,⟨sk,rfl,hsk⟩,hst5,kq⟩ := h
    refine ⟨_,(pss_cons (ps_set (i := 2) sc_law_widths.nd rfl (by first | exact Or.inl rfl | exact Or.inr rfl) pe_dnewK)
       (pss_cons (ps_for PassesOwn.never rfl (pi_list0 (pv 1)) (pg_name (i := 3) sc_law_widths.nd rfl (by first | exact Or.inl rfl | exact Or.inr rfl))
       (pss_one (ps_if (pt_cmpR op_gt (pe_op op_mod (pe_call G_law_mix (hr.mono (by decide)) (by rfl) D_law_mix.m D_law_mix.F.kp D_law_mix.b .nil pass0 (pa_cons (pv 0) (pa_cons (pe_op op_add pe_int (pv 3)) pa_nil))) pe_int) pe_int (nomark _))
       (pss_one (ps_dput (hu_of hr) (pv 2) (pv 3) (pe_op op_mod (pe_call G_law_mix (hr.mono (by decide)) (by rfl) D_law_mix.m D_law_mix.F.kp D_law_mix.b .nil pass0 (pa_cons (pv 0) (pa_cons (pe_op op_add pe_int (pv 3)) pa_nil))) pe_int) rfl))
       pss_nil)))
       (pss_one (ps_ret (pv 2))))),?_⟩
    refine fun fo hfo => ?_
    refine ⟨_,rfl,sk,rfl,⟨_,SqL.of ((same_new hfo) _ _ hsk)⟩,(let Iv : Nat → L2.St → Hp → Prop := fun i σ H' => Ex2 fun sv kvs => And5 (σ = [some (.int c),some (.ref sk),some (.ref fo),sv]) (Same H H') (H' fo = some (.dK kvs)) (WOk kvs) (kvs.length ≤ i); for_list (xs := iv st) Iv
      ⟨none,[],rfl,same_new hfo,upd_same,wOk_nil,Nat.le_refl _⟩ (fun i σ H' _ zz1 => by obtain ⟨_,_,_,s',_⟩ := zz1; exact SqL.of (s' _ _ hsk)) ?_ ?_)⟩
    · rintro i x σ H' hx ⟨sv,kvs,rfl,s1,hf1,iv1,hl1⟩
      obtain ⟨n,hn,rfl⟩ := at_iv hx
      have hil : i < st.length := (List.getElem?_eq_some_iff.mp hn).1
      refine ⟨_,rfl,_,rfl,_,_,rfl,rfl,c,_,rfl,fun m hm0 hm1 => ⟨_,_,rfl,rfl,(by first | decide | omega),_,_,rfl,rfl,_,rfl,?_⟩⟩
      refine ite2 (fun h0 => ?_) (fun h0 => ?_)
      · refine ⟨_,rfl,_,rfl,_,_,rfl,rfl,c,_,rfl,fun m' hm0' hm1' => ⟨_,_,rfl,rfl,(by first | decide | omega),_,rfl,_,rfl,fo,_,rfl,DPut.k (k := Sum.inl n) hf1 (small (by first | decide | (first | ((try clear hm1'); (try clear hm0'); (try clear hm1); (try clear hm0); omega) | omega))),?_⟩⟩
        exact ⟨_,_,rfl,same_off s1 hfo,upd_same,wOk_put iv1 _ _,Nat.le_trans (length_putK _ _ _) (by first | decide | (first | ((try clear hm1'); (try clear hm0'); (try clear hm1); (try clear hm0); (try clear hil); (try clear hst5); omega) | omega))⟩
      · exact ⟨_,_,rfl,s1,hf1,iv1,by (first | ((try clear h0); (try clear hm1); (try clear hm0); (try clear hil); (try clear hst5); omega) | omega)⟩
    · rintro σ H' ⟨sv,kvs,rfl,s1,hf1,iv1,hl1⟩
      exact ⟨_,rfl,kq fo kvs H' s1 hfo hf1 iv1⟩
theorem ok_law_nears {f : Addr} {fd : FuncData} {f_law_mix : Addr} {fd_law_mix : FuncData} (D : Dn K mg "_law_nears" s_law_nears ["cell","stock","rare"] f fd) (T : Txt mg)
    (D_law_mix : Dn K mg "_law_mix" s_law_mix ["cell","k"] f_law_mix fd_law_mix) (G_law_mix : FnOk P w K mg base CX0 1 f_law_mix fd_law_mix ["cell","k"] spMix) :
    FnOk P w K mg base CX0 2 f fd ["cell","stock","rare"] spNears2 := by
  refine D.F.ok (k := 1) sc_law_nears (fun vs H Q E h => ?_) (fun cdv A outer s H vs Q E hr h => ?_)
  · obtain ⟨c,vt,st,rr,rfl,⟨sk,rfl,hsk⟩,hst5,hrr,kq⟩ := h
    rfl
  · obtain ⟨c,vt,st,rr,rfl,⟨sk,rfl,hsk⟩,hst5,hrr,kq⟩ := h
    refine ⟨_,(pss_cons (ps_set (i := 3) sc_law_nears.nd rfl (by first | exact Or.inl rfl | exact Or.inr rfl) (pe_ix ix_list0 (pe_lst (pa_cons pe_int (pa_cons pe_int (pa_cons pe_int pa_nil)))) (pe_op op_mod (pe_op op_fdiv (pv 0) pe_int) pe_int) (fun _ _ => rfl)))
       (pss_cons (ps_set (i := 4) sc_law_nears.nd rfl (by first | exact Or.inl rfl | exact Or.inr rfl) pe_dnewT)
       (pss_cons (ps_for PassesOwn.never rfl (pi_list0 (pv 1)) (pg_name (i := 5) sc_law_nears.nd rfl (by first | exact Or.inl rfl | exact Or.inr rfl))
       (pss_one (ps_for PassesOwn.never rfl (pi_list0 (pv 1)) (pg_name (i := 6) sc_law_nears.nd rfl (by first | exact Or.inl rfl | exact Or.inr rfl))
       (pss_one (ps_if (pt_cmpR op_eq (pe_op op_mod (pe_call G_law_mix (hr.mono (by decide)) (by rfl) D_law_mix.m D_law_mix.F.kp D_law_mix.b .nil pass0 (pa_cons (pv 0) (pa_cons (pe_op op_add (pe_op op_add pe_int (pe_op op_mul pe_int (pv 5))) (pv 6)) pa_nil))) (pv 2)) pe_int (nomark _))
       (pss_one (ps_dput (hu_of hr) (pv 4) (pe_tup (pa_cons (pv 5) (pa_cons (pv 6) pa_nil))) (pe_op op_sub (pe_op op_mod (pe_call G_law_mix (hr.mono (by decide)) (by rfl) D_law_mix.m D_law_mix.F.kp D_law_mix.b .nil pass0 (pa_cons (pv 0) (pa_cons (pe_op op_add (pe_op op_add pe_int (pv 5)) (pe_op op_mul pe_int (pv 6))) pa_nil))) (pe_op op_add (pe_op op_mul pe_int (pv 3)) pe_int)) (pv 3)) rfl))
       pss_nil)))))
       (pss_one (ps_ret (pv 4)))))),?_⟩
    refine ⟨(by show 3 ≤ sizeLine; decide),fun l hl => ⟨_,rfl,_,_,rfl,rfl,⟨(by first | decide | omega),(by first | decide | omega)⟩,_,_,rfl,rfl,(by first | decide | omega),?_⟩⟩
    obtain ⟨j,hj⟩ : ∃ j : Nat,c / 9 % 3 = (j : Int) := Int.eq_ofNat_of_zero_le (by first | decide | (first | ((try clear hrr); (try clear hst5); omega) | omega))
    have hj3 : j < 3 := by (first | ((try clear hrr); (try clear hst5); omega) | omega)
    obtain ⟨wide,hs,hs2⟩ : ∃ s : Int,[6,6,60][j]? = some s ∧ (1 ≤ s ∧ s < 1000) := by
      match j,hj3 with
      | 0,_ => exact ⟨6,rfl,by (first | ((try clear hj); (try clear hj3); (try clear hrr); (try clear hst5); omega) | omega)⟩
      | 1,_ => exact ⟨6,rfl,by (first | ((try clear hj); (try clear hj3); (try clear hrr); (try clear hst5); omega) | omega)⟩
      | 2,_ => exact ⟨60,rfl,by (first | ((try clear hj); (try clear hj3); (try clear hrr); (try clear hst5); omega) | omega)⟩
    refine ⟨l,_,(j : Int),_,rfl,congrArg V.int hj,SqL.of upd_same,atI_iv (ns := [6,6,60]) hs,?_⟩
    have s0 : Same H (upd H l (.lst [.int 6,.int 6,.int 60])) := same_new hl
    refine fun fo hfo => ?_
    have s0' := s0.trans (same_new (o := .dT []) hfo)
    have hfo0 : H fo = none := s0.free hfo
    refine ⟨_,rfl,sk,rfl,⟨_,SqL.of (s0' _ _ hsk)⟩,(let Sg : (Option V) → (Option V) → L2.St := fun ov tv => [some (.int c),some (.ref sk),some (.int rr),some (.int wide),some (.ref fo),ov,tv]; let Iv : Nat → L2.St → Hp → Prop := fun i σ H' => Ex3 fun ov tv kvs => And5 (σ = Sg ov tv) (Same H H') (H' fo = some (.dT kvs)) (NOk st kvs) (kvs.length ≤ 5 * i); for_list (xs := iv st) Iv
      ⟨none,none,[],rfl,s0',upd_same,nOk_nil,Nat.zero_le _⟩ (fun i σ H' _ zz1 => by obtain ⟨_,_,_,_,s',_⟩ := zz1; exact SqL.of (s' _ _ hsk)) ?_ ?_)⟩
    · rintro i x σ H' hx ⟨ov,tv,kvs,rfl,s1,hf1,iv1,hl1⟩
      obtain ⟨n,hn,rfl⟩ := at_iv hx
      have hil : i < st.length := (List.getElem?_eq_some_iff.mp hn).1
      refine ⟨_,rfl,sk,rfl,⟨_,SqL.of (s1 _ _ hsk)⟩,(let Sg : (Option V) → L2.St := fun tv => [some (.int c),some (.ref sk),some (.int rr),some (.int wide),some (.ref fo),some (.int n),tv]; let Iv : Nat → L2.St → Hp → Prop := fun k σ H' => Ex2 fun tv kvs => And5 (σ = Sg tv) (Same H H') (H' fo = some (.dT kvs)) (NOk st kvs) (kvs.length ≤ 5 * i + k); for_list (xs := iv st) Iv
        ⟨tv,kvs,rfl,s1,hf1,iv1,hl1⟩ (fun i σ H' _ zz1 => by obtain ⟨_,_,_,s',_⟩ := zz1; exact SqL.of (s' _ _ hsk)) ?_ ?_)⟩
      · rintro k y σ H' hy ⟨tv,kvs,rfl,s1,hf1,iv1,hl1⟩
        obtain ⟨n',hn',rfl⟩ := at_iv hy
        have hkl : k < st.length := (List.getElem?_eq_some_iff.mp hn').1
        refine ⟨_,rfl,_,rfl,_,_,rfl,rfl,.inl ⟨(by first | decide | omega),(by first | decide | omega)⟩,_,_,rfl,rfl,_,rfl,_,_,rfl,rfl,c,_,rfl,fun m hm0 hm1 => ⟨_,rfl,_,_,rfl,rfl,hrr,rfl,_,rfl,?_⟩⟩
        refine ite2 (fun h0 => ?_) (fun h0 => ?_)
        · refine ⟨_,rfl,_,rfl,_,_,rfl,rfl,_,rfl,_,_,rfl,rfl,.inl ⟨(by first | decide | omega),(by first | decide | omega)⟩,_,_,rfl,rfl,c,_,rfl,fun m' hm0' hm1' => ⟨_,rfl,_,_,rfl,rfl,.inl ⟨(by first | decide | omega),(by first | decide | omega)⟩,_,_,rfl,rfl,_,_,rfl,rfl,(by first | decide | (first | ((try clear hm1'); (try clear hm0'); (try clear hm1); (try clear hm0); (try clear hkl); (try clear hl1); (try clear hil); (try clear hj3); (try clear hj); (try clear hrr); (try clear hst5); omega) | omega)),_,rfl,_,_,rfl,rfl,_,rfl,_,rfl,_,rfl,(by show 2 ≤ sizeLine; decide),fun t ht => ?_⟩⟩
          have hft : fo ≠ t := ne_of_none hf1 ht
          refine ⟨fo,_,rfl,DPut.t (k := [Sum.inl n,Sum.inl n']) (by rw [upd_ne hft]; exact hf1) upd_same (small (by first | decide | (first | ((try clear hm1'); (try clear hm0'); (try clear hm1); (try clear hm0); (try clear hs2); (try clear hj3); (try clear hj); (try clear hrr); omega) | omega))),?_⟩
          exact ⟨_,_,rfl,same_off (s1.trans (same_new ht)) hfo0,upd_same,nOk_put iv1 (List.mem_of_getElem? hn) (List.mem_of_getElem? hn') _,Nat.le_trans (length_putK _ _ _) (by first | decide | (first | ((try clear hm1'); (try clear hm0'); (try clear hm1); (try clear hm0); (try clear hkl); (try clear hil); (try clear hs2); (try clear hj3); (try clear hj); (try clear hrr); (try clear hst5); omega) | omega))⟩
        · exact ⟨_,_,rfl,s1,hf1,iv1,by (first | ((try clear h0); (try clear hm1); (try clear hm0); (try clear hkl); (try clear hil); (try clear hs2); (try clear hj3); (try clear hj); (try clear hrr); (try clear hst5); omega) | omega)⟩
      · rintro σ H' ⟨tv,kvs,rfl,s1,hf1,iv1,hl1⟩
        rw [iv_len] at hl1
        exact ⟨_,_,_,rfl,s1,hf1,iv1,by (first | ((try clear hil); (try clear hs2); (try clear hj3); (try clear hj); (try clear hrr); omega) | omega)⟩
    · rintro σ H' ⟨ov,tv,kvs,rfl,s1,hf1,iv1,hl1⟩
      exact ⟨_,rfl,kq fo kvs H' s1 hfo0 hf1 iv1⟩
theorem ok_law_bundled {f : Addr} {fd : FuncData} (D : Dn K mg "_law_bundled" s_law_bundled ["row","many"] f fd) (T : Txt mg) :
    FnOk P w K mg base CX0 1 f fd ["row","many"] spBundled := by
  refine D.F.ok (k := 0) sc_law_bundled (fun vs H Q E h => ?_) (fun cdv A outer s H vs Q E hr h => ?_)
  · obtain ⟨vrow,sl,many,rfl,⟨asl,xsl,rfl,hsl,hpsl⟩,wk,hmany,hlen,kq⟩ := h
    rfl
  · obtain ⟨vrow,sl,many,rfl,⟨asl,xsl,rfl,hsl,hpsl⟩,wk,hmany,hlen,kq⟩ := h
    refine ⟨_,(pss_cons (ps_setLc (i := 2) ["place"] [] sc_law_bundled.nd rfl (by first | exact Or.inl rfl | exact Or.inr rfl) rfl (pi_range1 (by rfl) T.n_range (pa_cons (pe_op op_add (pv 1) pe_int) pa_nil)) (fun _ _ _ _ => ⟨(pg_name (i := 0) (by exact (show (["place"] : List Str).Nodup by decide +kernel)) rfl (by first | exact Or.inl rfl | exact Or.inr rfl)),pts_nil,pe_bl⟩))
       (pss_cons (ps_for PassesOwn.never rfl (pi_list0 (pv 0)) (pg_name (i := 3) sc_law_bundled.nd rfl (by first | exact Or.inl rfl | exact Or.inr rfl))
       (pss_one (ps_for PassesOwn.never rfl (pi_range2 (by rfl) T.n_range (pa_cons (pe_op op_add (pe_ix ix_tup0 (pv 3) pe_int (fun _ _ => rfl)) pe_int) (pa_cons (pe_ix ix_tup0 (pv 3) pe_int (fun _ _ => rfl)) pa_nil))) (pg_name (i := 4) sc_law_bundled.nd rfl (by first | exact Or.inl rfl | exact Or.inr rfl))
       (pss_one (ps_asg pe_bl (pg_sub (pv 2) (pv 4) set_list))))))
       (pss_cons (ps_set (i := 5) sc_law_bundled.nd rfl (by first | exact Or.inl rfl | exact Or.inr rfl) (pe_lst pa_nil))
       (pss_cons (ps_for PassesOwn.never rfl (pi_list0 (pv 0)) (pg_name (i := 3) sc_law_bundled.nd rfl (by first | exact Or.inl rfl | exact Or.inr rfl))
       (pss_cons (ps_set (i := 6) sc_law_bundled.nd rfl (by first | exact Or.inl rfl | exact Or.inr rfl) (pe_ix ix_tup0 (pv 3) pe_int (fun _ _ => rfl)))
       (pss_cons (ps_while PassesOwn.never (pt_val (pe_ix ix_list0 (pv 2) (pv 6) (fun _ _ => rfl)))
       (pss_one (ps_set (i := 6) sc_law_bundled.nd rfl (by first | exact Or.inl rfl | exact Or.inr rfl) (pe_op op_sub (pv 6) pe_int))))
       (pss_cons (ps_set (i := 7) sc_law_bundled.nd rfl (by first | exact Or.inl rfl | exact Or.inr rfl) (pe_ix ix_tup0 (pv 3) pe_int (fun _ _ => rfl)))
       (pss_cons (ps_while PassesOwn.never (pt_val (pe_ix ix_list0 (pv 2) (pv 7) (fun _ _ => rfl)))
       (pss_one (ps_set (i := 7) sc_law_bundled.nd rfl (by first | exact Or.inl rfl | exact Or.inr rfl) (pe_op op_add (pv 7) pe_int))))
       (pss_one (ps_expr (pe_bmZ PySem.F.plainAttrs_list PySem.F.slot_list_append PySem.F.type_list_append mt_append (pv 5) (pa_cons (pe_tup (pa_cons (pe_ix ix_tup0 (pv 3) pe_int (fun _ _ => rfl)) (pa_cons (pv 6) (pa_cons (pv 7) pa_nil)))) pa_nil)))))))))
       (pss_one (ps_ret (pv 5))))))),?_⟩
    have hxl : xsl.length = sl.length := pr_len hpsl
    refine ⟨_,rfl,_,_,rfl,rfl,((many + 1 : Nat) : Int),congrArg (fun z => [V.int z]) (by first | decide | (first | ((try clear hxl); (try clear hlen); (try clear hmany); omega) | omega)),by (first | ((try clear hxl); (try clear hlen); omega) | omega),by (first | ((try clear hxl); (try clear hlen); omega) | omega),fun D hD => (let Iv : Nat → List V → L2.St → Hp → Prop := fun i ys τ H' => ∃ b,And4 (τ = [b]) (Same H H') (H' D = some (.lst ys)) (ys = bv (List.replicate i false)); lc_range (n := many + 1) Iv
      ⟨none,rfl,same_new hD,upd_same,rfl⟩ (fun i ys τ H' _ zz1 => by obtain ⟨_,_,_,h',_⟩ := zz1; exact h') ?_ ?_)⟩
    · rintro i ys τ H' hi ⟨b,rfl,s1,hd1,rfl⟩
      refine lcN ?_
      refine ⟨hd1,small (by rw [List.length_map,List.length_replicate]; (first | ((try clear hxl); (try clear hlen); omega) | omega)),_,rfl,same_off s1 hD,upd_same,?_⟩
      rw [List.replicate_succ']; simp
    rintro ys τ H1 ⟨b,rfl,s1,hd1,rfl⟩
    refine ⟨_,rfl,asl,rfl,⟨_,SqL.of (s1 _ _ hsl)⟩,(let Sg : (Option V) → (Option V) → L2.St := fun ov pv => [some (.ref asl),some (.int (many : Int)),some (.ref D),ov,pv,none,none,none]; let Iv : Nat → L2.St → Hp → Prop := fun i σ H' => Ex3 fun ov pv bs => And5 (σ = Sg ov pv) (Same H H') (H' D = some (.lst (bv bs))) (bs.length = many + 1) (∀ p : Nat,p ≤ many → (bs[p]? = some true ↔ inside (sl.take i) (p : Int))); for_list (xs := xsl) Iv
      ⟨none,none,_,rfl,s1,hd1,List.length_replicate,fun p hp => ?_⟩ (fun i σ H' _ zz1 => by obtain ⟨_,_,_,_,s',_⟩ := zz1; exact SqL.of (s' _ _ hsl)) ?_ ?_)⟩
    · constructor
      · intro h
        rw [List.getElem?_replicate] at h
        by_cases q : p < many + 1
        · rw [if_pos q] at h; cases h
        · rw [if_neg q] at h; cases h
      · rintro ⟨s,hs,_⟩
        cases hs
    · rintro i x σ H' hx ⟨ov,pv,bs,rfl,s2,hd2,hbl,hb⟩
      obtain ⟨d,hd,ad,rfl,had⟩ := pr_get hpsl hx
      have hdb := wk.bounds d (List.mem_of_getElem? hd)
      have had2 := s2 _ _ had
      obtain ⟨lo,hlo⟩ := Int.eq_ofNat_of_zero_le hdb.1
      obtain ⟨hi',hhi⟩ : ∃ h : Nat,shi d = (h : Int) := Int.eq_ofNat_of_zero_le (by first | decide | (first | ((try clear hbl); (try clear hxl); (try clear hlen); (try clear hmany); omega) | omega))
      have e1 : d.2.1 = (lo : Int) := hlo
      have e2 : d.2.2 = (hi' : Int) := hhi
      rw [e1,e2] at had2
      refine ⟨_,rfl,ad,_,_,_,rfl,rfl,SqT.of had2,rfl,_,_,rfl,rfl,_,rfl,ad,_,_,_,rfl,rfl,SqT.of had2,rfl,_,_,rfl,⟨by (first | ((try clear e2); (try clear hhi); (try clear hbl); (try clear hxl); (try clear hlen); (try clear hmany); omega) | omega),by (first | ((try clear hxl); (try clear hlen); omega) | omega),by (first | ((try clear e1); (try clear hhi); (try clear hlo); (try clear hdb); (try clear hbl); (try clear hxl); (try clear hlen); (try clear hmany); omega) | omega),by (first | ((try clear e1); (try clear hlo); (try clear hxl); (try clear hlen); omega) | omega)⟩,(let Sg : (Option V) → L2.St := fun pv => [some (.ref asl),some (.int (many : Int)),some (.ref D),some (.ref ad),pv,none,none,none]; let Iv : Nat → L2.St → Hp → Prop := fun j σ H' => Ex2 fun pv bs => And5 (σ = Sg pv) (Same H H') (H' D = some (.lst (bv bs))) (bs.length = many + 1) (∀ p : Nat,p ≤ many → (bs[p]? = some true ↔ inside (sl.take i) (p : Int) ∨ (lo < p ∧ p < lo + 1 + j))); for_range (lo := (lo : Int) + 1) (n := ((hi' : Int) - ((lo : Int) + 1)).toNat) Iv
        ⟨pv,bs,rfl,s2,hd2,hbl,fun p hp => ?_⟩ ?_ ?_)⟩
      · rw [hb p hp]
        constructor
        · exact .inl
        · rintro (h | h)
          · exact h
          · (first | ((try clear hp); (try clear e2); (try clear hhi); (try clear hlo); (try clear hdb); (try clear hbl); (try clear hxl); (try clear hlen); (try clear hmany); omega) | omega)
      · rintro j σ H' hj ⟨pv,bs,rfl,s2,hd2,hbl,hb⟩
        have hjl : lo + 1 + j < many + 1 := by (first | ((try clear hlo); (try clear hxl); (try clear hlen); (try clear hmany); omega) | omega)
        refine ⟨_,rfl,_,rfl,D,_,((lo + 1 + j : Nat) : Int),lo + 1 + j,rfl,congrArg V.int (by first | exact Int.zero_add _ | (first | ((try clear hjl); (try clear hbl); (try clear hj); (try clear e2); (try clear e1); (try clear hhi); (try clear hlo); (try clear hdb); (try clear hxl); (try clear hlen); (try clear hmany); omega) | omega)),hd2,ixN_nat (by rw [List.length_map]; (first | ((try clear hj); (try clear e2); (try clear hhi); (try clear hlo); (try clear hdb); (try clear hxl); (try clear hlen); (try clear hmany); omega) | omega)),?_⟩
        refine ⟨_,bs.set (lo + 1 + j) true,rfl,same_off s2 hD,?_,by rw [List.length_set]; exact hbl,fun p hp => ?_⟩
        · rw [upd_same,← List.map_set]
        · rw [List.getElem?_set]
          by_cases e : lo + 1 + j = p
          · rw [if_pos e,if_pos (by first | decide | (first | ((try clear hp); (try clear hj); (try clear e2); (try clear hhi); (try clear hlo); (try clear hdb); (try clear hxl); (try clear hlen); (try clear hmany); omega) | omega))]
            constructor
            · intro _; exact .inr (by first | decide | (first | ((try clear hp); (try clear hjl); (try clear hbl); (try clear hj); (try clear e2); (try clear hhi); (try clear hlo); (try clear hdb); (try clear hxl); (try clear hlen); (try clear hmany); omega) | omega))
            · intro _; rfl
          · rw [if_neg e,hb p hp]
            constructor
            · rintro (h | h)
              · exact .inl h
              · exact .inr (by first | decide | (first | ((try clear e); (try clear hp); (try clear hjl); (try clear hbl); (try clear hj); (try clear e2); (try clear hhi); (try clear hlo); (try clear hdb); (try clear hxl); (try clear hlen); (try clear hmany); omega) | omega))
            · rintro (h | h)
              · exact .inl h
              · exact .inr (by first | decide | (first | ((try clear hp); (try clear hjl); (try clear hbl); (try clear hj); (try clear e2); (try clear hhi); (try clear hlo); (try clear hdb); (try clear hxl); (try clear hlen); (try clear hmany); omega) | omega))
      · rintro σ H' ⟨pv,bs,rfl,s2,hd2,hbl,hb⟩
        refine ⟨_,_,bs,rfl,s2,hd2,hbl,fun p hp => ?_⟩
        rw [hb p hp,inside_take hd,hlo,hhi]
        constructor
        · rintro (h | h)
          · exact .inl h
          · exact .inr (by first | decide | (first | ((try clear hp); (try clear hbl); (try clear hxl); (try clear hlen); (try clear hmany); omega) | omega))
        · rintro (h | h)
          · exact .inl h
          · exact .inr (by first | decide | (first | ((try clear hp); (try clear hbl); (try clear hxl); (try clear hlen); (try clear hmany); omega) | omega))
    rintro σ H2 ⟨ov,pv,bs,rfl,s2,hd2,hbl,hb⟩
    rw [List.take_of_length_le (by first | decide | (first | ((try clear hb1); (try clear f4); (try clear f6); (try clear hclo); (try clear f1); (try clear m1); (try clear hb2); (try clear e2); (try clear e1); (try clear hchi); (try clear hhi); (try clear hlo); (try clear m2); (try clear f2); (try clear hdb); (try clear hil); (try clear hbl); (try clear hlen); (try clear hmany); omega) | omega))] at hb
    refine ⟨Nat.zero_le _,fun fo hfo => ?_⟩
    have nDf : D ≠ fo := ne_of_none hd2 hfo
    have hfo0 : H fo = none := s2.free hfo
    have s2' : Same H (upd H2 fo (.lst [])) := s2.trans (same_new hfo)
    refine ⟨_,rfl,asl,rfl,⟨_,SqL.of (s2' _ _ hsl)⟩,(let Sg : (Option V) → (Option V) → (Option V) → (Option V) → L2.St := fun ov pv bv' ev => [some (.ref asl),some (.int (many : Int)),some (.ref D),ov,pv,some (.ref fo),bv',ev]; let Iv : Nat → L2.St → Hp → Prop := fun i σ H' => Ex5 fun ov pv bv' ev ys => And5 (σ = Sg ov pv bv' ev) (Same H H') (H' D = some (.lst (bv bs))) (H' fo = some (.lst ys)) (Paired (IsS H') ys ((melt sl).take i)); for_list (xs := xsl) Iv
      ⟨_,_,_,_,_,rfl,s2',(by rw [upd_ne nDf]; exact hd2),upd_same,.nil⟩ (fun i σ H' _ zz1 => by obtain ⟨_,_,_,_,_,_,s',_⟩ := zz1; exact SqL.of (s' _ _ hsl)) ?_ ?_)⟩
    · rintro i x σ H' hx ⟨ov,pv,bv',ev,ys,rfl,s3,hd3,hf3,hp3⟩
      obtain ⟨d,hd,ad,rfl,had⟩ := pr_get hpsl hx
      have hil : i < sl.length := (List.getElem?_eq_some_iff.mp hd).1
      have hdb := wk.bounds d (List.mem_of_getElem? hd)
      have had3 := s3 _ _ had
      obtain ⟨c,hc,hdc,hm⟩ := melt_at hd
      obtain ⟨f1,f2,f3,f4,f5⟩ := chain_facts wk.ch wk.pos c hc
      obtain ⟨m1,m2⟩ := mem_chain wk hc
      have f6 := f5 d hdc
      obtain ⟨lo,hlo⟩ := Int.eq_ofNat_of_zero_le hdb.1
      obtain ⟨hi',hhi⟩ : ∃ h : Nat,shi d = (h : Int) := Int.eq_ofNat_of_zero_le (by first | decide | (first | ((try clear f6); (try clear m2); (try clear m1); (try clear f4); (try clear f2); (try clear f1); (try clear hil); (try clear hbl); (try clear hxl); (try clear hlen); (try clear hmany); omega) | omega))
      obtain ⟨clo,hclo⟩ := Int.eq_ofNat_of_zero_le m1
      obtain ⟨chi,hchi⟩ : ∃ h : Nat,lsHi c = (h : Int) := Int.eq_ofNat_of_zero_le (by first | decide | (first | ((try clear hhi); (try clear hlo); (try clear f6); (try clear m2); (try clear f2); (try clear f1); (try clear hdb); (try clear hil); (try clear hbl); (try clear hxl); (try clear hlen); (try clear hmany); omega) | omega))
      have e1 : d.2.1 = (lo : Int) := hlo
      have e2 : d.2.2 = (hi' : Int) := hhi
      rw [e1,e2] at had3
      rw [hclo] at f1 f3 f4 f6 m1 hm
      rw [hchi] at f2 f3 f4 f6 m2 hm
      rw [hlo] at f6
      rw [hhi] at f6
      rw [hlo,hhi] at hdb
      refine ⟨_,rfl,ad,_,_,_,rfl,rfl,SqT.of had3,rfl,?_⟩
      refine ⟨fun m τ H4 => ∃ b : Nat,τ = [some (.ref asl),some (.int (many : Int)),some (.ref D),some (.ref ad),pv,some (.ref fo),some (.int (b : Int)),ev] ∧ m = b ∧ H' = H4 ∧ clo ≤ b ∧ b ≤ lo,⟨lo,lo,rfl,rfl,rfl,by (first | ((try clear e2); (try clear hchi); (try clear hhi); (try clear hlo); (try clear m2); (try clear m1); (try clear f4); (try clear f2); (try clear f1); (try clear hdb); (try clear hil); (try clear hbl); (try clear hxl); (try clear hlen); (try clear hmany); omega) | omega),by (first | ((try clear e2); (try clear e1); (try clear hchi); (try clear hclo); (try clear hhi); (try clear hlo); (try clear f6); (try clear m2); (try clear m1); (try clear f4); (try clear f2); (try clear f1); (try clear hdb); (try clear hil); (try clear hbl); (try clear hxl); (try clear hlen); (try clear hmany); omega) | omega)⟩,?_⟩
      rintro m τ H4 ⟨b,rfl,rfl,rfl,hb1,hb2⟩
      have hbb : bs[m]? = some bs[m] := List.getElem?_eq_getElem (by first | decide | (first | ((try clear hb1); (try clear hchi); (try clear hclo); (try clear hlo); (try clear f6); (try clear m2); (try clear m1); (try clear f4); (try clear f2); (try clear f1); (try clear hil); (try clear hxl); (try clear hlen); (try clear hmany); omega) | omega))
      refine ⟨_,rfl,_,rfl,D,_,_,_,rfl,rfl,SqL.of hd3,atI_bv hbb,_,rfl,?_⟩
      have hbi := hb m (by first | decide | (first | ((try clear hb1); (try clear hchi); (try clear hclo); (try clear hlo); (try clear f6); (try clear m2); (try clear m1); (try clear f4); (try clear f2); (try clear f1); (try clear hil); (try clear hxl); (try clear hlen); (try clear hmany); omega) | omega))
      rw [hbb] at hbi
      refine ite2 (fun h0 => ⟨_,fun _ _ h => h,?_⟩) (fun h0 => ?_)
      · have hin := hbi.mp (by rw [h0])
        have hne : m ≠ clo := fun q => by rw [q] at hin; exact f1 hin
        exact ⟨_,rfl,_,_,rfl,rfl,m - 1,by (first | ((try clear hbi); (try clear hb2); (try clear e2); (try clear e1); (try clear hchi); (try clear hhi); (try clear hlo); (try clear f6); (try clear m2); (try clear f4); (try clear f2); (try clear f1); (try clear hdb); (try clear hil); (try clear hbl); (try clear hxl); (try clear hlen); (try clear hmany); omega) | omega),m - 1,by rw [show ((m - 1 : Nat) : Int) = (m : Int) - 1 by (first | ((try clear hbi); (try clear hb2); (try clear e2); (try clear e1); (try clear hchi); (try clear hhi); (try clear hlo); (try clear f6); (try clear m2); (try clear f4); (try clear f2); (try clear f1); (try clear hdb); (try clear hil); (try clear hbl); (try clear hxl); (try clear hlen); (try clear hmany); omega) | omega)]; rfl,rfl,rfl,by (first | ((try clear hbi); (try clear hb2); (try clear e2); (try clear e1); (try clear hchi); (try clear hhi); (try clear hlo); (try clear f6); (try clear m2); (try clear m1); (try clear f4); (try clear f2); (try clear f1); (try clear hdb); (try clear hil); (try clear hbl); (try clear hxl); (try clear hlen); (try clear hmany); omega) | omega),by (first | ((try clear hne); (try clear hbi); (try clear hb1); (try clear e2); (try clear hchi); (try clear hclo); (try clear hhi); (try clear hlo); (try clear f6); (try clear m2); (try clear m1); (try clear f4); (try clear f2); (try clear f1); (try clear hdb); (try clear hil); (try clear hbl); (try clear hxl); (try clear hlen); (try clear hmany); omega) | omega)⟩
      have hmc : m = clo := by
        have hn : ¬ inside sl (m : Int) := fun q => h0 (Option.some.inj (hbi.mpr q))
        by_cases q : clo < m
        · exact absurd (f3 (m : Int) (by first | decide | (first | ((try clear hn); (try clear h0); (try clear hbi); (try clear hb2); (try clear hb1); (try clear e2); (try clear e1); (try clear hchi); (try clear hhi); (try clear hlo); (try clear f6); (try clear m2); (try clear m1); (try clear f4); (try clear f2); (try clear f1); (try clear hdb); (try clear hil); (try clear hbl); (try clear hxl); (try clear hlen); (try clear hmany); omega) | omega)) (by first | decide | (first | ((try clear q); (try clear hn); (try clear h0); (try clear hbi); (try clear hb1); (try clear hclo); (try clear hlo); (try clear m2); (try clear m1); (try clear f4); (try clear f2); (try clear f1); (try clear hil); (try clear hbl); (try clear hxl); (try clear hlen); (try clear hmany); omega) | omega))) hn
        · (first | ((try clear hn); (try clear h0); (try clear hbi); (try clear hb2); (try clear e2); (try clear e1); (try clear hchi); (try clear hhi); (try clear hlo); (try clear f6); (try clear m2); (try clear m1); (try clear f4); (try clear f2); (try clear f1); (try clear hdb); (try clear hil); (try clear hbl); (try clear hxl); (try clear hlen); (try clear hmany); omega) | omega)
      subst hmc
      refine ⟨_,rfl,ad,_,_,_,rfl,rfl,SqT.of had3,rfl,?_⟩
      refine ⟨fun k τ H4 => ∃ e : Nat,τ = [some (.ref asl),some (.int (many : Int)),some (.ref D),some (.ref ad),pv,some (.ref fo),some (.int (m : Int)),some (.int (e : Int))] ∧ k = chi - e ∧ H' = H4 ∧ hi' ≤ e ∧ e ≤ chi,⟨_,hi',rfl,rfl,rfl,by (first | ((try clear h0); (try clear hbi); (try clear hb1); (try clear f4); (try clear f6); (try clear hclo); (try clear f1); (try clear m1); (try clear hmc); (try clear hb2); (try clear e2); (try clear e1); (try clear hchi); (try clear hhi); (try clear hlo); (try clear m2); (try clear f2); (try clear hdb); (try clear hil); (try clear hbl); (try clear hxl); (try clear hlen); (try clear hmany); omega) | omega),by (first | ((try clear h0); (try clear hbi); (try clear hb1); (try clear f4); (try clear hclo); (try clear f1); (try clear m1); (try clear hmc); (try clear hb2); (try clear e1); (try clear hlo); (try clear m2); (try clear f2); (try clear hdb); (try clear hil); (try clear hbl); (try clear hxl); (try clear hlen); (try clear hmany); omega) | omega)⟩,?_⟩
      rintro k τ H4 ⟨e,rfl,rfl,rfl,he1,he2⟩
      have hee : bs[e]? = some bs[e] := List.getElem?_eq_getElem (by first | decide | (first | ((try clear he1); (try clear h0); (try clear hbi); (try clear hb1); (try clear f4); (try clear f6); (try clear hclo); (try clear f1); (try clear m1); (try clear hmc); (try clear hb2); (try clear e2); (try clear e1); (try clear hhi); (try clear hlo); (try clear f2); (try clear hdb); (try clear hil); (try clear hxl); (try clear hlen); (try clear hmany); omega) | omega))
      refine ⟨_,rfl,_,rfl,D,_,_,_,rfl,rfl,SqL.of hd3,atI_bv hee,_,rfl,?_⟩
      have hei := hb e (by first | decide | (first | ((try clear he1); (try clear h0); (try clear hbi); (try clear hb1); (try clear f4); (try clear f6); (try clear hclo); (try clear f1); (try clear m1); (try clear hmc); (try clear hb2); (try clear e2); (try clear e1); (try clear hhi); (try clear hlo); (try clear f2); (try clear hdb); (try clear hil); (try clear hxl); (try clear hlen); (try clear hmany); omega) | omega))
      rw [hee] at hei
      refine ite2 (fun h0 => ⟨_,fun _ _ h => h,?_⟩) (fun h0 => ?_)
      · have hin := hei.mp (by rw [h0])
        have hne : e ≠ chi := fun q => by rw [q] at hin; exact f2 hin
        exact ⟨_,rfl,_,_,rfl,rfl,chi - (e + 1),by (first | ((try clear hei); (try clear he1); (try clear h0); (try clear hbi); (try clear hb1); (try clear f4); (try clear f6); (try clear hclo); (try clear f1); (try clear m1); (try clear hmc); (try clear hb2); (try clear e2); (try clear e1); (try clear hhi); (try clear hlo); (try clear m2); (try clear f2); (try clear hdb); (try clear hil); (try clear hbl); (try clear hxl); (try clear hlen); (try clear hmany); omega) | omega),e + 1,by rw [show ((e + 1 : Nat) : Int) = (e : Int) + 1 by (first | ((try clear hne); (try clear hei); (try clear he2); (try clear he1); (try clear h0); (try clear hbi); (try clear hb1); (try clear f4); (try clear f6); (try clear hclo); (try clear f1); (try clear m1); (try clear hmc); (try clear hb2); (try clear e2); (try clear e1); (try clear hchi); (try clear hhi); (try clear hlo); (try clear m2); (try clear f2); (try clear hdb); (try clear hil); (try clear hbl); (try clear hxl); (try clear hlen); (try clear hmany); omega) | omega)]; rfl,rfl,rfl,by (first | ((try clear hne); (try clear hei); (try clear he2); (try clear h0); (try clear hbi); (try clear hb1); (try clear f4); (try clear f6); (try clear hclo); (try clear f1); (try clear m1); (try clear hmc); (try clear hb2); (try clear e1); (try clear hchi); (try clear hlo); (try clear m2); (try clear f2); (try clear hdb); (try clear hil); (try clear hbl); (try clear hxl); (try clear hlen); (try clear hmany); omega) | omega),by (first | ((try clear hei); (try clear he1); (try clear h0); (try clear hbi); (try clear hb1); (try clear f4); (try clear f6); (try clear hclo); (try clear f1); (try clear m1); (try clear hmc); (try clear hb2); (try clear e2); (try clear e1); (try clear hhi); (try clear hlo); (try clear m2); (try clear f2); (try clear hdb); (try clear hil); (try clear hbl); (try clear hxl); (try clear hlen); (try clear hmany); omega) | omega)⟩
      have hec : e = chi := by
        have hn : ¬ inside sl (e : Int) := fun q => h0 (Option.some.inj (hei.mpr q))
        by_cases q : e < chi
        · exact absurd (f3 (e : Int) (by first | decide | (first | ((try clear q); (try clear hn); (try clear h0); (try clear hei); (try clear he2); (try clear hbi); (try clear hb1); (try clear f4); (try clear f6); (try clear f1); (try clear m1); (try clear hmc); (try clear hchi); (try clear hlo); (try clear m2); (try clear f2); (try clear hil); (try clear hbl); (try clear hxl); (try clear hlen); (try clear hmany); omega) | omega)) (by first | decide | (first | ((try clear hn); (try clear h0); (try clear hei); (try clear he2); (try clear he1); (try clear hbi); (try clear hb1); (try clear f4); (try clear f6); (try clear hclo); (try clear f1); (try clear m1); (try clear hmc); (try clear hb2); (try clear e2); (try clear e1); (try clear hhi); (try clear hlo); (try clear m2); (try clear f2); (try clear hdb); (try clear hil); (try clear hbl); (try clear hxl); (try clear hlen); (try clear hmany); omega) | omega))) hn
        · (first | ((try clear hn); (try clear h0); (try clear hei); (try clear he1); (try clear hbi); (try clear hb1); (try clear f4); (try clear f6); (try clear hclo); (try clear f1); (try clear m1); (try clear hmc); (try clear hb2); (try clear e2); (try clear e1); (try clear hhi); (try clear hlo); (try clear m2); (try clear f2); (try clear hdb); (try clear hil); (try clear hbl); (try clear hxl); (try clear hlen); (try clear hmany); omega) | omega)
      subst hec
      refine ⟨_,rfl,.inl ⟨rfl,_,SqL.of hf3⟩,_,rfl,ad,_,_,_,rfl,rfl,SqT.of had3,rfl,_,rfl,_,rfl,(by show 3 ≤ sizeLine; decide),fun t ht => ?_⟩
      have nft : fo ≠ t := ne_of_none hf3 ht
      have hyl : ys.length ≤ i := by rw [pr_len hp3,List.length_take]; (first | ((try clear h0); (try clear hei); (try clear he2); (try clear hbi); (try clear f4); (try clear f6); (try clear hchi); (try clear f2); (try clear m2); (try clear hec); (try clear he1); (try clear hb1); (try clear hclo); (try clear f1); (try clear m1); (try clear hmc); (try clear hb2); (try clear e2); (try clear e1); (try clear hhi); (try clear hlo); (try clear hdb); (try clear hil); (try clear hbl); (try clear hxl); (try clear hlen); (try clear hmany); omega) | omega)
      refine ⟨fo,ys,_,rfl,rfl,(by rw [upd_ne nft]; exact hf3),small (by first | decide | (first | ((try clear h0); (try clear hei); (try clear he2); (try clear hbi); (try clear f4); (try clear f6); (try clear hchi); (try clear f2); (try clear m2); (try clear hec); (try clear he1); (try clear hb1); (try clear hclo); (try clear f1); (try clear m1); (try clear hmc); (try clear hb2); (try clear e2); (try clear e1); (try clear hhi); (try clear hlo); (try clear hdb); (try clear hbl); (try clear hmany); omega) | omega)),?_⟩
      refine ⟨_,_,_,_,_,rfl,same_off (s3.trans (same_new ht)) hfo0,(by rw [upd_ne nDf,upd_ne (ne_of_none hd3 ht)]; exact hd3),upd_same,?_⟩
      rw [take_snoc hm]
      have hf3' : (upd H' t (.tup [.int d.1,.int (m : Int),.int (e : Int)])) fo = some (.lst ys) := by rw [upd_ne nft]; exact hf3
      refine pr_app (pr_tps tS hp3 ((Tps.new ht).trans (Tps.lst hf3'))) (.cons ⟨t,rfl,?_⟩ .nil)
      rw [upd_ne nft.symm,upd_same]
    · rintro σ H' ⟨ov,pv,bv',ev,ys,rfl,s3,hd3,hf3,hp3⟩
      rw [List.take_of_length_le (by rw [melt_len]; (first | ((try clear hbl); (try clear hlen); (try clear hmany); omega) | omega))] at hp3
      exact ⟨_,rfl,kq fo ys H' s3 hfo0 hf3 hp3⟩
theorem ok_law_fits {f : Addr} {fd : FuncData} (D : Dn K mg "_law_fits" s_law_fits ["rule","shapes","at"] f fd) (T : Txt mg) :
    FnOk P w K mg base CX0 1 f fd ["rule","shapes","at"] spLawFits := by
  refine D.F.ok (k := 0) sc_law_fits (fun vs H Q E h => ?_) (fun cdv A outer s H vs Q E hr h => ?_)
  · obtain ⟨vr,vsh,k,r,sh,rfl,⟨ar,vb,vt,va,vg,rfl,hr4,⟨ab,rfl,hb⟩,⟨at',rfl,ht⟩,⟨aa,rfl,ha⟩,hg⟩,⟨ash,rfl,hsh⟩,hlen,hk,hw,kq⟩ := h
    rfl
  · obtain ⟨vr,vsh,k,r,sh,rfl,⟨ar,vb,vt,va,vg,rfl,hr4,⟨ab,rfl,hb⟩,⟨at',rfl,ht⟩,⟨aa,rfl,ha⟩,hg⟩,⟨ash,rfl,hsh⟩,hlen,hk,hw,kq⟩ := h
    refine ⟨_,(pss_cons (ps_set (i := 3) sc_law_fits.nd rfl (by first | exact Or.inl rfl | exact Or.inr rfl) (pe_op op_cat (pe_op op_cat (pe_callTy call_list_of0 (by rfl) T.n_list boot_list (pa_cons (pe_ix ix_tup0 (pv 0) pe_int (fun _ _ => rfl)) pa_nil)) (pe_callTy call_list_of0 (by rfl) T.n_list boot_list (pa_cons (pe_ix ix_tup0 (pv 0) pe_int (fun _ _ => rfl)) pa_nil))) (pe_callTy call_list_of0 (by rfl) T.n_list boot_list (pa_cons (pe_ix ix_tup0 (pv 0) pe_int (fun _ _ => rfl)) pa_nil))))
       (pss_cons (ps_set (i := 4) sc_law_fits.nd rfl (by first | exact Or.inl rfl | exact Or.inr rfl) (pe_op op_sub (pv 2) (pe_callB call_len_seq0 (by rfl) T.n_len PySem.boot_len (pa_cons (pe_ix ix_tup0 (pv 0) pe_int (fun _ _ => rfl)) pa_nil))))
       (pss_cons (ps_if (pw_or (pt_cmpR op_lt (pv 4) pe_int (nomark _)) (pw_or1 (pt_cmpR op_gt (pe_op op_add (pv 4) (pe_callB call_len_seq0 (by rfl) T.n_len PySem.boot_len (pa_cons (pv 3) pa_nil))) (pe_callB call_len_seq0 (by rfl) T.n_len PySem.boot_len (pa_cons (pv 1) pa_nil)) (nomark _)))).pt
       (pss_one (ps_ret pe_bl))
       pss_nil)
       (pss_cons (ps_for PassesOwn.never rfl (pi_range1 (by rfl) T.n_range (pa_cons (pe_callB call_len_seq0 (by rfl) T.n_len PySem.boot_len (pa_cons (pv 3) pa_nil)) pa_nil)) (pg_name (i := 5) sc_law_fits.nd rfl (by first | exact Or.inl rfl | exact Or.inr rfl))
       (pss_one (ps_if (pt_cmpR op_ne (pe_ix ix_list0 (pv 1) (pe_op op_add (pv 4) (pv 5)) (fun _ _ => rfl)) (pe_ix ix_list0 (pv 3) (pv 5) (fun _ _ => rfl)) (nomark _))
       (pss_one (ps_ret pe_bl))
       pss_nil)))
       (pss_one (ps_ret pe_bl)))))),?_⟩
    have hwl : (winR r).length = r.b.length + r.t.length + r.a.length := by unfold winR; rw [List.length_append,List.length_append]
    refine ⟨_,rfl,ar,_,_,_,rfl,rfl,SqT.of hr4,rfl,ab,_,rfl,.inr (SqT.of hb),fun l1 hl1 => ?_⟩
    have s1 : Same H _ := same_new (o := .lst (iv r.b)) hl1
    refine ⟨_,rfl,ar,_,_,_,rfl,rfl,SqT.of (s1 _ _ hr4),rfl,at',_,rfl,.inr (SqT.of (s1 _ _ ht)),fun l2 hl2 => ?_⟩
    have s2 : Same H _ := s1.trans (same_new (o := .lst (iv r.t)) hl2)
    refine ⟨l1,l2,iv r.b,iv r.t,rfl,rfl,(by rw [upd_ne (ne_of_none upd_same hl2),upd_same]),upd_same,small' (by rw [iv_len,iv_len]; (first | ((try clear hk); (try clear hlen); omega) | omega)),fun l3 hl3 => ?_⟩
    have s3 : Same H _ := s2.trans (same_new (o := .lst (iv r.b ++ iv r.t)) hl3)
    refine ⟨_,rfl,ar,_,_,_,rfl,rfl,SqT.of (s3 _ _ hr4),rfl,aa,_,rfl,.inr (SqT.of (s3 _ _ ha)),fun l4 hl4 => ?_⟩
    have s4 : Same H _ := s3.trans (same_new (o := .lst (iv r.a)) hl4)
    refine ⟨l3,l4,iv r.b ++ iv r.t,iv r.a,rfl,rfl,(by rw [upd_ne (ne_of_none upd_same hl4),upd_same]),upd_same,small' (by rw [List.length_append,iv_len,iv_len,iv_len]; (first | ((try clear hk); (try clear hlen); omega) | omega)),fun lw hlw => ?_⟩
    have s5 : Same H _ := s4.trans (same_new (o := .lst (iv r.b ++ iv r.t ++ iv r.a)) hlw)
    have ew : iv r.b ++ iv r.t ++ iv r.a = iv (winR r) := by unfold winR; rw [iv_app,iv_app]
    have hw5 : (upd (upd (upd (upd (upd H l1 (.lst (iv r.b))) l2 (.lst (iv r.t))) l3 (.lst (iv r.b ++ iv r.t))) l4 (.lst (iv r.a))) lw (.lst (iv r.b ++ iv r.t ++ iv r.a))) lw = some (.lst (iv (winR r))) := by rw [upd_same,ew]
    generalize (upd (upd (upd (upd (upd H l1 (.lst (iv r.b))) l2 (.lst (iv r.t))) l3 (.lst (iv r.b ++ iv r.t))) l4 (.lst (iv r.a))) lw (.lst (iv r.b ++ iv r.t ++ iv r.a))) = H5 at s5 hw5 ⊢
    have hsh5 := s5 _ _ hsh
    refine ⟨_,rfl,_,rfl,ar,_,_,_,rfl,rfl,SqT.of (s5 _ _ hr4),rfl,ab,_,rfl,.inr (SqT.of (s5 _ _ hb)),_,_,rfl,rfl,?_⟩
    refine ⟨_,rfl,_,_,rfl,rfl,_,rfl,?_⟩
    refine ite2 (fun h0 => ?_) (fun h0 => ?_)
    · have h0' : k < r.b.length := by
        have : (k : Int) - ((iv r.b).length : Int) < 0 := by simpa using h0
        rw [iv_len] at this; (first | ((try clear hw); (try clear hk); (try clear hlen); omega) | omega)
      refine iteT ?_
      have := kq H5 s5
      rw [fitL_no hk (.inl h0')] at this
      exact this
    have hbk : r.b.length ≤ k := by
      have : ¬ (k : Int) - ((iv r.b).length : Int) < 0 := by simpa using h0
      rw [iv_len] at this; (first | ((try clear h0); (try clear hw); (try clear hk); (try clear hlen); omega) | omega)
    obtain ⟨g,hg'⟩ : ∃ g : Nat,g = k - r.b.length := ⟨_,rfl⟩
    have eg : (k : Int) - ((iv r.b).length : Int) = (g : Int) := by rw [iv_len]; (first | ((try clear h0); (try clear hw); (try clear hk); (try clear hlen); omega) | omega)
    refine ⟨_,rfl,_,rfl,lw,_,rfl,.inl (SqL.of hw5),_,_,rfl,rfl,_,rfl,ash,_,rfl,.inl (SqL.of hsh5),_,_,rfl,rfl,_,rfl,?_⟩
    refine ite2 (fun h1 => ?_) (fun h1 => ?_)
    · have h1' : ((iv sh).length : Int) < (k : Int) - ((iv r.b).length : Int) + ((iv (winR r)).length : Int) := by simpa using h1
      have := kq H5 s5
      rw [iv_len,iv_len,iv_len] at h1'
      rw [fitL_no hk (.inr (by first | decide | (first | ((try clear hbk); (try clear h0); (try clear hw); (try clear hk); (try clear hlen); omega) | omega)))] at this
      exact this
    have hbl : g + (winR r).length ≤ sh.length := by
      have : ¬ ((iv sh).length : Int) < (k : Int) - ((iv r.b).length : Int) + ((iv (winR r)).length : Int) := by simpa using h1
      rw [iv_len,iv_len,iv_len] at this; (first | ((try clear h1); (try clear h0); (try clear hw); (try clear hk); (try clear hlen); omega) | omega)
    have fit := fitL_iff (r := r) (sh := sh) (k := k) hbk (by first | decide | (first | ((try clear h1); (try clear eg); (try clear hbk); (try clear h0); (try clear hwl); (try clear hw); (try clear hk); (try clear hlen); omega) | omega))
    rw [← hg'] at fit
    refine ⟨_,rfl,lw,_,rfl,.inl (SqL.of hw5),_,rfl,by (first | ((try clear fit); (try clear hbl); (try clear h1); (try clear eg); (try clear hg'); (try clear hbk); (try clear h0); (try clear hwl); (try clear hw); (try clear hk); (try clear hlen); omega) | omega),by rw [iv_len]; (first | ((try clear fit); (try clear hbl); (try clear h1); (try clear eg); (try clear hg'); (try clear hbk); (try clear h0); (try clear hk); (try clear hlen); omega) | omega),(let Sg : (Option V) → L2.St := fun kv => [some (.ref ar),some (.ref ash),some (.int (k : Int)),some (.ref lw),some (.int ((k : Int) - ((iv r.b).length : Int))),kv]; let Iv : Nat → L2.St → Hp → Prop := fun i σ H' => ∃ kv,And3 (σ = Sg kv) (Same H5 H') (∀ j,j < i → sh[g + j]? = (winR r)[j]?); for_range (n := (iv (winR r)).length) Iv
      ⟨none,rfl,Same.refl _,fun j h => absurd h (Nat.not_lt_zero _)⟩ ?_ ?_)⟩
    · rintro i σ H' hi ⟨kv,rfl,s6,hall⟩
      rw [iv_len] at hi
      have h1 : sh[g + i]? = some sh[g + i] := List.getElem?_eq_getElem (by first | decide | (first | ((try clear fit); (try clear h1); (try clear eg); (try clear hbk); (try clear h0); (try clear hwl); (try clear hw); (try clear hk); (try clear hlen); omega) | omega))
      have h2 : (winR r)[i]? = some (winR r)[i] := List.getElem?_eq_getElem hi
      refine ⟨_,rfl,_,rfl,_,rfl,_,_,rfl,rfl,ash,_,((g + i : Nat) : Int),_,rfl,congrArg V.int (by rw [eg]; (first | ((try clear hi); (try clear fit); (try clear hbl); (try clear h1); (try clear eg); (try clear hg'); (try clear hbk); (try clear h0); (try clear hwl); (try clear hw); (try clear hk); (try clear hlen); omega) | omega)),SqL.of (s6 _ _ hsh5),atI_iv h1,_,rfl,_,rfl,lw,_,(i : Int),_,rfl,congrArg V.int (by first | exact Int.zero_add _ | omega),SqL.of (s6 _ _ hw5),atI_iv h2,rfl,_,rfl,?_⟩
      by_cases e : sh[g + i] = (winR r)[i]
      · refine iteNS (congrArg V.int e) ?_
        refine ⟨_,rfl,s6,fun j hj => ?_⟩
        by_cases hji : j = i
        · subst hji; rw [h1,h2,e]
        · exact hall j (by first | decide | (first | ((try clear e); (try clear fit); (try clear h1); (try clear eg); (try clear hbk); (try clear h0); (try clear hwl); (try clear hw); (try clear hk); (try clear hlen); omega) | omega))
      · rw [show decide (V.int sh[g + i] = V.int (winR r)[i]) = false from decide_eq_false fun q => e (V.int.inj q)]
        refine iteT ?_
        have := kq H' (s5.trans s6)
        rw [show fitL r sh k = false from by
          cases q : fitL r sh k with
          | false => rfl
          | true =>
            have := fit.mp q i hi
            rw [h1,h2] at this
            exact absurd (Option.some.inj this) e] at this
        exact this
    · rintro σ H' ⟨kv,rfl,s6,hall⟩
      rw [iv_len] at hall
      have := kq H' (s5.trans s6)
      rw [fit.mpr hall] at this
      exact this
theorem ok_law_doings {f : Addr} {fd : FuncData} {f_law_fits : Addr} {fd_law_fits : FuncData} (D : Dn K mg "_law_doings" s_law_doings ["rules","shapes"] f fd) (T : Txt mg)
    (D_law_fits : Dn K mg "_law_fits" s_law_fits ["rule","shapes","at"] f_law_fits fd_law_fits) (G_law_fits : FnOk P w K mg base CX0 1 f_law_fits fd_law_fits ["rule","shapes","at"] spLawFits) :
    FnOk P w K mg base CX0 2 f fd ["rules","shapes"] spLawDoings := by
  refine D.F.ok (k := 1) sc_law_doings (fun vs H Q E h => ?_) (fun cdv A outer s H vs Q E hr h => ?_)
  · obtain ⟨vr,vsh,rs,sh,rfl,⟨ar,xs,rfl,hrs,hpr⟩,⟨ash,rfl,hsh⟩,ok,hrl,hlen,kq⟩ := h
    rfl
  · obtain ⟨vr,vsh,rs,sh,rfl,⟨ar,xs,rfl,hrs,hpr⟩,⟨ash,rfl,hsh⟩,ok,hrl,hlen,kq⟩ := h
    refine ⟨_,(pss_cons (ps_set (i := 2) sc_law_doings.nd rfl (by first | exact Or.inl rfl | exact Or.inr rfl) (pe_lst pa_nil))
       (pss_cons (ps_set (i := 3) sc_law_doings.nd rfl (by first | exact Or.inl rfl | exact Or.inr rfl) pe_int)
       (pss_cons (ps_while PassesOwn.never (pt_cmpR op_lt (pv 3) (pe_callB call_len_seq0 (by rfl) T.n_len PySem.boot_len (pa_cons (pv 1) pa_nil)) (nomark _))
       (pss_cons (ps_setLc (i := 4) ["number"] [1,3,0] sc_law_doings.nd rfl (by first | exact Or.inl rfl | exact Or.inr rfl) rfl (pi_range1 (by rfl) T.n_range (pa_cons (pe_callB call_len_seq0 (by rfl) T.n_len PySem.boot_len (pa_cons (pv 0) pa_nil)) pa_nil)) (fun _ _ _ _ => ⟨(pg_name (i := 0) (by exact (show (["number","shapes","at","rules"] : List Str).Nodup by decide +kernel)) rfl (by first | exact Or.inl rfl | exact Or.inr rfl)),(pts_one (pt_val (pe_call G_law_fits (hr.mono (by decide)) (by rfl) D_law_fits.m D_law_fits.F.kp D_law_fits.b .nil pass0 (pa_cons (pe_ix ix_list0 (pv 3) (pv 0) (fun _ _ => rfl)) (pa_cons (pv 1) (pa_cons (pv 2) pa_nil)))))),(pv 0)⟩))
       (pss_one (ps_if (pt_cmpR (op_eqS0 (units30 hr)) (pv 4) (pe_lst pa_nil) (nomark _))
       (pss_one (ps_set (i := 3) sc_law_doings.nd rfl (by first | exact Or.inl rfl | exact Or.inr rfl) (pe_op op_add (pv 3) pe_int)))
       (pss_cons (ps_expr (pe_bmZ PySem.F.plainAttrs_list PySem.F.slot_list_append PySem.F.type_list_append mt_append (pv 2) (pa_cons (pe_tup (pa_cons (pv 3) (pa_cons (pe_ix ix_list0 (pv 4) pe_int (fun _ _ => rfl)) pa_nil))) pa_nil)))
       (pss_one (ps_set (i := 3) sc_law_doings.nd rfl (by first | exact Or.inl rfl | exact Or.inr rfl) (pe_op op_add (pv 3) (pe_callB call_len_seq0 (by rfl) T.n_len PySem.boot_len (pa_cons (pe_ix ix_tup0 (pe_ix ix_list0 (pv 0) (pe_ix ix_list0 (pv 4) pe_int (fun _ _ => rfl)) (fun _ _ => rfl)) pe_int (fun _ _ => rfl)) pa_nil))))))))))
       (pss_one (ps_ret (pv 2)))))),?_⟩
    refine ⟨Nat.zero_le _,fun d hd => ?_⟩
    let Wv : Nat → L2.St → Hp → Prop := fun m τ H' => Ex4 fun (k : Nat) (nv : Option V) (ys : List V) (acc : List (Nat × Nat)) => And7 (τ = [some (.ref ar),some (.ref ash),some (.ref d),some (.int (k : Int)),nv]) (m = sh.length - k) (Same H H') (H' d = some (.lst ys)) (Paired (IsP H') ys acc) (acc ++ doer rs sh k = doer rs sh 0) (acc.length ≤ k)
    refine ⟨Wv,⟨_,0,none,[],[],rfl,rfl,same_new hd,upd_same,.nil,rfl,Nat.le_refl _⟩,?_⟩
    rintro m τ H' ⟨k,nv,ys,acc,rfl,rfl,s1,hd1,hp1,e1,hl1⟩
    have hsh1 := s1 _ _ hsh
    have hxl : xs.length = rs.length := pr_len hpr
    refine ⟨_,rfl,_,rfl,ash,_,rfl,.inl (SqL.of hsh1),_,_,rfl,rfl,_,rfl,?_⟩
    refine ite2 (fun h0 => ⟨_,fun _ _ h => h,?_⟩) (fun h0 => ?_)
    · have hk : k < sh.length := by
        rw [iv_len] at h0
        simpa using h0
      refine ⟨_,rfl,ar,_,rfl,.inl (SqL.of (s1 _ _ hrs)),_,rfl,by (first | ((try clear hk); (try clear hl1); (try clear hlen); omega) | omega),by (first | ((try clear hk); (try clear hl1); (try clear hlen); omega) | omega),fun D hD => (let Iv : Nat → List V → L2.St → Hp → Prop := fun i zs τ H2 => ∃ nv,And4 (τ = [nv,some (.ref ash),some (.int (k : Int)),some (.ref ar)]) (Same H' H2) (H2 D = some (.lst zs)) (zs = iv (nv' (goodL rs sh k i))); lc_range (n := xs.length) Iv
        ⟨none,rfl,same_new hD,upd_same,rfl⟩ (fun i ys τ H' _ zz1 => by obtain ⟨_,_,_,h',_⟩ := zz1; exact h') ?_ ?_)⟩
      · rintro i zs τ H2 hi ⟨nv,rfl,s2,hd2,rfl⟩
        have s12 := s1.trans s2
        have hxi : xs[i]? = some xs[i] := List.getElem?_eq_getElem hi
        obtain ⟨r,hr',hrule⟩ := pr_get hpr hxi
        have rok := ok r (List.mem_of_getElem? hr')
        have hgl := goodL_len rs sh k i
        refine ⟨_,rfl,_,rfl,ar,_,(i : Int),_,rfl,congrArg V.int (by first | exact Int.zero_add _ | omega),SqL.of (s12 _ _ hrs),atI_nat hxi,_,rfl,_,rfl,_,_,k,r,sh,rfl,hrule.tps (tps_of s12),⟨ash,rfl,s12 _ _ hsh⟩,hlen,by (first | ((try clear hgl); (try clear rok); (try clear hi); (try clear hxl); (try clear hl1); (try clear hlen); (try clear hrl); omega) | omega),by (first | ((try clear hgl); (try clear hi); (try clear hk); (try clear hxl); (try clear hl1); (try clear hlen); (try clear hrl); omega) | omega),fun H3 s3 => ⟨_,rfl,?_⟩⟩
        rw [← fit_eq r sh k (fun q => by rw [q] at rok; simp at rok),← goodP_of (sh := sh) (k := k) hr']
        have hd3 := s3 _ _ hd2
        by_cases hg : goodP rs sh k i = true
        · rw [hg]
          refine iteT ?_
          refine ⟨_,rfl,hd3,small (by rw [iv_len,List.length_map]; (first | ((try clear rok); (try clear hk); (try clear hl1); (try clear hlen); omega) | omega)),_,rfl,same_off (s2.trans s3) hD,upd_same,?_⟩
          rw [goodL_succ,if_pos hg]
          show _ = iv (List.map _ _)
          rw [List.map_append,iv_app]
          show _ = _ ++ [V.int (i : Int)]
          rw [show (0 : Int) + (i : Int) = (i : Int) by (first | ((try clear hgl); (try clear rok); (try clear hi); (try clear hk); (try clear hxl); (try clear hl1); (try clear hlen); (try clear hrl); omega) | omega)]
        · rw [show goodP rs sh k i = false by simpa using hg]
          refine iteF ?_
          refine ⟨_,rfl,s2.trans s3,hd3,?_⟩
          rw [goodL_succ,if_neg hg,List.append_nil]
      rintro zs τ H2 ⟨nv,rfl,s2,hd2,rfl⟩
      rw [hxl] at hd2
      have s12 := s1.trans s2
      have hgf := goodL_first rs sh k
      refine ⟨_,rfl,Nat.zero_le _,fun e he => ?_⟩
      have nDe : D ≠ e := ne_of_none hd2 he
      have se : Same H2 (upd H2 e (.lst [])) := same_new he
      refine ⟨1,D,e,_,rfl,rfl,nDe,by decide,eqL (ms := []) nDe (se _ _ hd2) upd_same,_,rfl,?_⟩
      have s13 := s12.trans se
      have hd3 := se _ _ (s2 _ _ hd1)
      cases e0 : firstFit rs sh k with
      | none =>
        rw [e0] at hgf
        have hnil : goodL rs sh k rs.length = [] := List.head?_eq_none_iff.mp hgf
        rw [hnil]
        refine iteT ?_
        refine ⟨_,rfl,_,_,rfl,rfl,sh.length - (k + 1),by (first | ((try clear hxl); (try clear hl1); (try clear hlen); (try clear hrl); omega) | omega),k + 1,_,ys,acc,rfl,rfl,s13,hd3,pr_tps tP hp1 (tps_of (s2.trans se)),?_,by (first | ((try clear hk); (try clear hxl); (try clear hlen); (try clear hrl); omega) | omega)⟩
        rw [← doer_none hk e0]; exact e1
      | some j =>
        rw [e0] at hgf
        obtain ⟨t1,t2,t3⟩ := first_fits e0
        obtain ⟨r,hr',_⟩ := first_some e0
        obtain ⟨x,hx,hrule⟩ := pr_got hpr hr'
        obtain ⟨ax,vb,vt,va,vg,rfl,hx4,_,ht,_,_⟩ := hrule
        obtain ⟨at',rfl,ht'⟩ := ht
        have h0j : (nv' (goodL rs sh k rs.length))[0]? = some (j : Int) := by
          rw [List.getElem?_map,← List.head?_eq_getElem?,hgf]; rfl
        have hne : ¬ nv' (goodL rs sh k rs.length) = [] := fun q => by rw [q] at h0j; cases h0j
        rw [decide_eq_false hne]
        refine iteF ?_
        have hD3 := se _ _ hd2
        refine ⟨_,rfl,.inl ⟨rfl,_,SqL.of hd3⟩,_,rfl,_,rfl,D,_,((0 : Nat) : Int),_,rfl,rfl,SqL.of hD3,atI_iv h0j,(by show 2 ≤ sizeLine; decide),fun t ht2 => ?_⟩
        have hdt : d ≠ t := ne_of_none hd3 ht2
        have hyl : ys.length = acc.length := pr_len hp1
        refine ⟨d,ys,_,rfl,rfl,(by rw [upd_ne hdt]; exact hd3),small (by first | decide | (first | ((try clear hne); (try clear t3); (try clear hk); (try clear hxl); (try clear hrl); omega) | omega)),?_⟩
        have s3 : Same H (upd (upd (upd H2 e (.lst [])) t (.tup [.int (k : Int),.int (j : Int)])) d (.lst (ys ++ [.ref t]))) := same_off (s13.trans (same_new ht2)) hd
        have hDd : D ≠ d := fun q => by rw [q,hd1] at hD; cases hD
        have hD4 : (upd (upd (upd H2 e (.lst [])) t (.tup [.int (k : Int),.int (j : Int)])) d (.lst (ys ++ [.ref t]))) D = some (.lst (iv (nv' (goodL rs sh k rs.length)))) := by
          rw [upd_ne hDd,upd_ne (ne_of_none hD3 ht2)]; exact hD3
        refine ⟨_,rfl,_,rfl,_,rfl,D,_,((0 : Nat) : Int),_,rfl,rfl,SqL.of hD4,atI_iv h0j,ar,_,_,_,rfl,rfl,SqL.of (s3 _ _ hrs),atI_nat hx,ax,_,_,_,rfl,rfl,SqT.of (s3 _ _ hx4),rfl,at',_,rfl,.inr (SqT.of (s3 _ _ ht')),_,_,rfl,rfl,?_⟩
        have htl : tl rs j = r.t.length := tl_of hr'
        refine ⟨sh.length - (k + tl rs j),by (first | ((try clear hyl); (try clear hne); (try clear t3); (try clear hxl); (try clear hl1); (try clear hlen); (try clear hrl); omega) | omega),k + tl rs j,some (.ref D),ys ++ [.ref t],acc ++ [(k,j)],?_,rfl,s3,upd_same,?_,?_,?_⟩
        · rw [iv_len,htl]; rfl
        · have tp : Tps (upd H2 e (.lst [])) (upd (upd (upd H2 e (.lst [])) t (.tup [.int (k : Int),.int (j : Int)])) d (.lst (ys ++ [.ref t]))) := (Tps.new ht2).trans (Tps.lst (by rw [upd_ne hdt]; exact hd3))
          refine pr_app (pr_tps tP hp1 ((tps_of (s2.trans se)).trans tp)) (.cons ⟨t,rfl,?_⟩ .nil)
          rw [upd_ne hdt.symm,upd_same]
        · rw [List.append_assoc]
          show acc ++ ((k,j) :: doer rs sh (k + tl rs j)) = _
          rw [← doer_some hk e0 t1]; exact e1
        · rw [List.length_append,List.length_singleton]; (first | ((try clear hne); (try clear t3); (try clear t2); (try clear hk); (try clear hxl); (try clear hlen); (try clear hrl); omega) | omega)
    · have hk : sh.length ≤ k := by
        rw [iv_len] at h0
        have : ¬ (k : Int) < (sh.length : Int) := by simpa using h0
        (first | ((try clear h0); (try clear hxl); (try clear hl1); (try clear hlen); (try clear hrl); omega) | omega)
      rw [doer_end hk,List.append_nil] at e1
      rw [e1] at hp1
      exact ⟨_,rfl,kq d ys H' s1 hd hd1 hp1⟩
theorem ok_law_next_row {f : Addr} {fd : FuncData} {f_law_bundled : Addr} {fd_law_bundled : FuncData} {f_law_doings : Addr} {fd_law_doings : FuncData} (D : Dn K mg "_law_next_row" s_law_next_row ["rules","row","many"] f fd) (T : Txt mg)
    (D_law_bundled : Dn K mg "_law_bundled" s_law_bundled ["row","many"] f_law_bundled fd_law_bundled) (G_law_bundled : FnOk P w K mg base CX0 1 f_law_bundled fd_law_bundled ["row","many"] spBundled)
    (D_law_doings : Dn K mg "_law_doings" s_law_doings ["rules","shapes"] f_law_doings fd_law_doings) (G_law_doings : FnOk P w K mg base CX0 2 f_law_doings fd_law_doings ["rules","shapes"] spLawDoings) :
    FnOk P w K mg base CX0 3 f fd ["rules","row","many"] spNextRow := by
  refine D.F.ok (k := 2) sc_law_next_row (fun vs H Q E h => ?_) (fun cdv A outer s H vs Q E hr h => ?_)
  · obtain ⟨vr,vrow,rs,sl,many,rfl,⟨ar,xr,rfl,hrs,hprs⟩,⟨asl,xsl,rfl,hsl,hpsl⟩,ok,hrl,sg,hmany,hlen,kq⟩ := h
    rfl
  · obtain ⟨vr,vrow,rs,sl,many,rfl,⟨ar,xr,rfl,hrs,hprs⟩,⟨asl,xsl,rfl,hsl,hpsl⟩,ok,hrl,sg,hmany,hlen,kq⟩ := h
    refine ⟨_,(pss_cons (ps_set (i := 3) sc_law_next_row.nd rfl (by first | exact Or.inl rfl | exact Or.inr rfl) (pe_lst pa_nil))
       (pss_cons (ps_set (i := 4) sc_law_next_row.nd rfl (by first | exact Or.inl rfl | exact Or.inr rfl) pe_int)
       (pss_cons (ps_for PassesOwn.never rfl (pi_list0 (pe_op op_cat (pe_call G_law_doings (hr.mono (by decide)) (by rfl) D_law_doings.m D_law_doings.F.kp D_law_doings.b .nil pass0 (pa_cons (pv 0) (pa_cons (pe_lc ["shape"] [] rfl (pi_list0 (pv 1)) (fun _ _ _ _ => ⟨(pg_name (i := 0) (by exact (show (["shape"] : List Str).Nodup by decide +kernel)) rfl (by first | exact Or.inl rfl | exact Or.inr rfl)),pts_nil,(pe_ix ix_tup0 (pv 0) pe_int (fun _ _ => rfl))⟩)) pa_nil))) (pe_lst (pa_cons (pe_tup (pa_cons (pe_callB call_len_seq0 (by rfl) T.n_len PySem.boot_len (pa_cons (pv 1) pa_nil)) (pa_cons pe_int pa_nil))) pa_nil)))) (pg_name (i := 5) sc_law_next_row.nd rfl (by first | exact Or.inl rfl | exact Or.inr rfl))
       (pss_cons (ps_while PassesOwn.never (pt_cmpR op_lt (pv 4) (pe_ix ix_tup0 (pv 5) pe_int (fun _ _ => rfl)) (nomark _))
       (pss_cons (ps_expr (pe_bmZ PySem.F.plainAttrs_list PySem.F.slot_list_append PySem.F.type_list_append mt_append (pv 3) (pa_cons (pe_ix ix_list0 (pv 1) (pv 4) (fun _ _ => rfl)) pa_nil)))
       (pss_one (ps_set (i := 4) sc_law_next_row.nd rfl (by first | exact Or.inl rfl | exact Or.inr rfl) (pe_op op_add (pv 4) pe_int)))))
       (pss_one (ps_if (pt_cmpR op_lt (pv 4) (pe_callB call_len_seq0 (by rfl) T.n_len PySem.boot_len (pa_cons (pv 1) pa_nil)) (nomark _))
       (pss_cons (ps_set (i := 6) sc_law_next_row.nd rfl (by first | exact Or.inl rfl | exact Or.inr rfl) (pe_ix ix_list0 (pv 0) (pe_ix ix_tup0 (pv 5) pe_int (fun _ _ => rfl)) (fun _ _ => rfl)))
       (pss_cons (ps_set (i := 7) sc_law_next_row.nd rfl (by first | exact Or.inl rfl | exact Or.inr rfl) (pe_ix ix_list0 (pv 1) (pe_op op_sub (pe_op op_add (pv 4) (pe_callB call_len_seq0 (by rfl) T.n_len PySem.boot_len (pa_cons (pe_ix ix_tup0 (pv 6) pe_int (fun _ _ => rfl)) pa_nil))) pe_int) (fun _ _ => rfl)))
       (pss_cons (ps_for PassesOwn.never rfl (pi_tup0 (pe_ix ix_tup0 (pv 6) pe_int (fun _ _ => rfl))) (pg_name (i := 8) sc_law_next_row.nd rfl (by first | exact Or.inl rfl | exact Or.inr rfl))
       (pss_one (ps_expr (pe_bmZ PySem.F.plainAttrs_list PySem.F.slot_list_append PySem.F.type_list_append mt_append (pv 3) (pa_cons (pe_tup (pa_cons (pv 8) (pa_cons (pe_ix ix_tup0 (pe_ix ix_list0 (pv 1) (pv 4) (fun _ _ => rfl)) pe_int (fun _ _ => rfl)) (pa_cons (pe_ix ix_tup0 (pv 7) pe_int (fun _ _ => rfl)) pa_nil)))) pa_nil)))))
       (pss_one (ps_set (i := 4) sc_law_next_row.nd rfl (by first | exact Or.inl rfl | exact Or.inr rfl) (pe_op op_add (pv 4) (pe_callB call_len_seq0 (by rfl) T.n_len PySem.boot_len (pa_cons (pe_ix ix_tup0 (pv 6) pe_int (fun _ _ => rfl)) pa_nil))))))))
       pss_nil))))
       (pss_one (ps_ret (pe_call G_law_bundled (hr.mono (by decide)) (by rfl) D_law_bundled.m D_law_bundled.F.kp D_law_bundled.b .nil pass0 (pa_cons (pv 3) (pa_cons (pv 2) pa_nil)))))))),?_⟩
    have hxl : xsl.length = sl.length := pr_len hpsl
    refine ⟨Nat.zero_le _,fun fo hfo => ?_⟩
    have s0 : Same H (upd H fo (.lst [])) := same_new hfo
    refine ⟨_,rfl,_,rfl,asl,rfl,⟨_,SqL.of (s0 _ _ hsl)⟩,fun D hD => (let Iv : Nat → List V → L2.St → Hp → Prop := fun i ys τ H' => ∃ a,And4 (τ = [a]) (Same (upd H fo (.lst [])) H') (H' D = some (.lst ys)) (ys = iv ((shp sl).take i)); lc_list (xs := xsl) Iv
      ⟨none,rfl,same_new hD,upd_same,rfl⟩ (fun i ys τ H' _ zz1 => by obtain ⟨_,_,s',h',_⟩ := zz1; exact ⟨h',SqL.of (s' _ _ (s0 _ _ hsl))⟩) ?_ ?_)⟩
    · rintro i x ys τ H' hx ⟨a,rfl,s1,hd1,rfl⟩
      obtain ⟨d,hd,ad,rfl,had⟩ := pr_get hpsl hx
      refine lcN ?_
      have hil : i < sl.length := (List.getElem?_eq_some_iff.mp hd).1
      refine ⟨_,rfl,ad,_,_,_,rfl,rfl,SqT.of (s1 _ _ (s0 _ _ had)),rfl,hd1,small (by rw [iv_len,List.length_take,shp_len]; (first | ((try clear hmany); (try clear hrl); omega) | omega)),?_⟩
      exact ⟨_,rfl,same_off s1 hD,upd_same,(shp_take hd).symm⟩
    rintro ys τ H1 ⟨a,rfl,s1,hd1,rfl⟩
    rw [List.take_of_length_le (by rw [shp_len]; (first | ((try clear hlen); (try clear hmany); (try clear hrl); omega) | omega))] at hd1
    have s01 : Same H H1 := s0.trans s1
    have hf1 : H1 fo = some (.lst []) := s1 _ _ upd_same
    refine ⟨_,_,rs,shp sl,rfl,⟨ar,xr,rfl,s01 _ _ hrs,pr_tps tR hprs (tps_of s01)⟩,⟨D,rfl,hd1⟩,ok,hrl,(by rw [shp_len]; (first | ((try clear hmany); (try clear hrl); omega) | omega)),fun dp dx H2 s2 hdp hdp2 hpd => ?_⟩
    have s02 := s01.trans s2
    refine ⟨_,rfl,asl,_,rfl,.inl (SqL.of (s02 _ _ hsl)),(by show 2 ≤ sizeLine; decide),fun tq htq => ⟨(by show 1 ≤ sizeLine; decide),fun lq hlq => ?_⟩⟩
    have s3 : Same H2 (upd (upd H2 tq (.tup [.int (xsl.length : Int),.int 0])) lq (.lst [.ref tq])) := (same_new htq).trans (same_new hlq)
    have hdl : dx.length = (doer rs (shp sl) 0).length := pr_len hpd
    have al0 := doer_along (rules := rs) (sh := shp sl) _ 0 (Nat.le_refl _)
    have hdn := al0.length
    rw [shp_len] at al0 hdn
    refine ⟨dp,lq,dx,[.ref tq],rfl,rfl,s3 _ _ hdp2,upd_same,small' (by show dx.length + 1 ≤ 100000; (first | ((try clear hmany); (try clear hrl); omega) | omega)),fun up hup => ?_⟩
    have s4 := s3.trans (same_new (o := .lst (dx ++ [.ref tq])) hup)
    have htq4 : (upd (upd (upd H2 tq (.tup [.int (xsl.length : Int),.int 0])) lq (.lst [.ref tq])) up (.lst (dx ++ [.ref tq]))) tq = some (.tup [.int (xsl.length : Int),.int 0]) := by
      have h1 : (upd H2 tq (.tup [.int (xsl.length : Int),.int 0])) tq = some (.tup [.int (xsl.length : Int),.int 0]) := upd_same
      exact ((same_new hlq).trans (same_new hup)) _ _ h1
    have hup4 : (upd (upd (upd H2 tq (.tup [.int (xsl.length : Int),.int 0])) lq (.lst [.ref tq])) up (.lst (dx ++ [.ref tq]))) up = some (.lst (dx ++ [.ref tq])) := upd_same
    have hf4 := s4 _ _ (s2 _ _ hf1)
    have nuf : up ≠ fo := fun q => by rw [q] at hup; rw [s3 _ _ (s2 _ _ hf1)] at hup; cases hup
    generalize (upd (upd (upd H2 tq (.tup [.int (xsl.length : Int),.int 0])) lq (.lst [.ref tq])) up (.lst (dx ++ [.ref tq]))) = C at s4 htq4 hup4 hf4 ⊢
    have prU : Paired (IsP C) (dx ++ [.ref tq]) (doer rs (shp sl) 0 ++ [(sl.length,0)]) := pr_app (pr_tps tP hpd (tps_of s4)) (.cons ⟨tq,rfl,by rw [htq4,hxl]; rfl⟩ .nil)
    have plen := passed_len (rules := rs) (slots := sl) ok
    have hul : (dx ++ [V.ref tq]).length = (doer rs (shp sl) 0).length + 1 := by rw [List.length_append,hdl]; rfl
    have s0C := s02.trans s4
    refine ⟨up,rfl,⟨_,SqL.of hup4⟩,(let Sg : (Option V) → (Option V) → (Option V) → (Option V) → (Nat) → L2.St := fun ov rv lv sv r => [some (.ref ar),some (.ref asl),some (.int (many : Int)),some (.ref fo),some (.int (r : Int)),ov,rv,lv,sv]; let Iv : Nat → L2.St → Hp → Prop := fun i σ H' => Ex7 fun (ov rv lv sv : Option V) (r : Nat) (ys : List V) (acc : List Slot) => And7 (σ = Sg ov rv lv sv r) (Same H H') (Tps C H') (H' up = some (.lst (dx ++ [.ref tq]))) (H' fo = some (.lst ys)) (Paired (IsS H') ys acc) (((i ≤ (doer rs (shp sl) 0).length ∧ acc ++ psl rs sl ((doer rs (shp sl) 0).drop i) r = passedSlots rs sl ∧ Along rs sl.length r ((doer rs (shp sl) 0).drop i) ∧ r ≤ sl.length) ∨ (i = (doer rs (shp sl) 0).length + 1 ∧ acc = passedSlots rs sl))); for_list (xs := dx ++ [.ref tq]) Iv
      ⟨none,none,none,none,0,[],[],rfl,s0C,Tps.refl _,hup4,hf4,.nil,.inl ⟨Nat.zero_le _,rfl,al0,Nat.zero_le _⟩⟩ (fun i σ H' _ zz1 => by obtain ⟨_,_,_,_,_,_,_,_,_,_,h',_⟩ := zz1; exact SqL.of h') ?_ ?_)⟩
    · rintro i x σ H' hx ⟨ov,rv,lv,sv,r,ys,acc,rfl,u1,tp1,hup1,hf1,py1,hor⟩
      obtain ⟨⟨k,j⟩,hd,ad,rfl,had0⟩ := pr_get prU hx
      have had := tp1 _ _ had0
      have hilt := (List.getElem?_eq_some_iff.mp hx).1
      rw [hul] at hilt
      rcases hor with ⟨hi,e1,al1,hr1⟩ | ⟨hi,_⟩
      case inr => (first | ((try clear hor); (try clear plen); (try clear hdn); (try clear hdl); (try clear hxl); (try clear hlen); (try clear hmany); (try clear hrl); omega) | omega)
      have hkl : r ≤ k ∧ k ≤ sl.length ∧ (i < (doer rs (shp sl) 0).length → (doer rs (shp sl) 0).drop i = (k,j) :: (doer rs (shp sl) 0).drop (i + 1)) ∧ (¬ i < (doer rs (shp sl) 0).length → k = sl.length ∧ i = (doer rs (shp sl) 0).length) := by
        by_cases hid : i < (doer rs (shp sl) 0).length
        · have hd' : (doer rs (shp sl) 0)[i]? = some (k,j) := by
            rw [List.getElem?_append_left hid] at hd; exact hd
          have e := List.drop_eq_getElem_cons hid
          rw [(List.getElem?_eq_some_iff.mp hd').2] at e
          rw [e] at al1
          cases al1 with
          | cons g1 g2 g3 g4 g5 => exact ⟨g1,by (first | ((try clear g4); (try clear g1); (try clear hid); (try clear hr1); (try clear hi); (try clear hilt); (try clear hor); (try clear hul); (try clear plen); (try clear hdn); (try clear hdl); (try clear hlen); (try clear hmany); (try clear hrl); omega) | omega),fun _ => e,fun q => absurd hid q⟩
        · have hin : i = (doer rs (shp sl) 0).length := by (first | ((try clear hr1); (try clear hi); (try clear hor); (try clear plen); (try clear hdn); (try clear hdl); (try clear hxl); (try clear hlen); (try clear hmany); (try clear hrl); omega) | omega)
          rw [hin,List.getElem?_append_right (Nat.le_refl _),Nat.sub_self] at hd
          have hkj : (sl.length,0) = (k,j) := Option.some.inj hd
          injection hkj with hk' _
          exact ⟨by (first | ((try clear hin); (try clear hid); (try clear hi); (try clear hilt); (try clear hor); (try clear hul); (try clear plen); (try clear hdn); (try clear hdl); (try clear hlen); (try clear hmany); (try clear hrl); omega) | omega),by (first | ((try clear hin); (try clear hid); (try clear hr1); (try clear hi); (try clear hilt); (try clear hor); (try clear hul); (try clear plen); (try clear hdn); (try clear hdl); (try clear hlen); (try clear hmany); (try clear hrl); omega) | omega),fun q => absurd q hid,fun _ => ⟨hk'.symm,hin⟩⟩
      obtain ⟨hrk,hkn,hgo,hend⟩ := hkl
      have elen := congrArg List.length e1
      rw [List.length_append] at elen
      have hyl0 : ys.length = acc.length := pr_len py1
      let Wv : Nat → L2.St → Hp → Prop := fun m τ H2 => Ex2 fun (t : Nat) (zs : List V) => And8 (τ = [some (.ref ar),some (.ref asl),some (.int (many : Int)),some (.ref fo),some (.int ((r + t : Nat) : Int)),some (.ref ad),rv,lv,sv]) (m = k - (r + t)) (r + t ≤ k) (Same H H2) (Tps C H2) (H2 up = some (.lst (dx ++ [.ref tq]))) (H2 fo = some (.lst zs)) (Paired (IsS H2) zs (acc ++ (sl.drop r).take t))
      refine ⟨Wv,⟨_,0,ys,rfl,rfl,by (first | ((try clear hyl0); (try clear elen); (try clear hkn); (try clear hrk); (try clear hkl); (try clear hr1); (try clear hi); (try clear hilt); (try clear hor); (try clear hul); (try clear plen); (try clear hdn); (try clear hdl); (try clear hxl); (try clear hlen); (try clear hmany); (try clear hrl); omega) | omega),u1,tp1,hup1,hf1,by rw [List.take_zero,List.append_nil]; exact py1⟩,?_⟩
      rintro m τ H2 ⟨t,zs,rfl,rfl,hrt,u2,tp2,hup2,hf2,py2⟩
      have had2 := tp2 _ _ had0
      have hzl : zs.length = acc.length + ((sl.drop r).take t).length := by rw [pr_len py2,List.length_append]
      have hacc : acc.length ≤ (passedSlots rs sl).length := by (first | ((try clear hzl); (try clear hrt); (try clear hyl0); (try clear hkn); (try clear hrk); (try clear hkl); (try clear hr1); (try clear hi); (try clear hilt); (try clear hor); (try clear hul); (try clear plen); (try clear hdn); (try clear hdl); (try clear hxl); (try clear hlen); (try clear hmany); (try clear hrl); omega) | omega)
      refine ⟨_,rfl,_,rfl,ad,_,_,_,rfl,rfl,SqT.of had2,rfl,_,_,rfl,rfl,_,rfl,?_⟩
      refine ite2 (fun h0 => ⟨_,fun _ _ h => h,?_⟩) (fun h0 => ?_)
      · have h0' : r + t < k := by
          have : ((r + t : Nat) : Int) < (k : Int) := by simpa using h0
          (first | ((try clear hacc); (try clear hzl); (try clear hrt); (try clear hyl0); (try clear elen); (try clear hkn); (try clear hrk); (try clear hkl); (try clear hr1); (try clear hi); (try clear hilt); (try clear hor); (try clear hul); (try clear plen); (try clear hdn); (try clear hdl); (try clear hxl); (try clear hlen); (try clear hmany); (try clear hrl); omega) | omega)
        have hs : sl[r + t]? = some sl[r + t] := List.getElem?_eq_getElem (by first | decide | (first | ((try clear hacc); (try clear hzl); (try clear hrt); (try clear hyl0); (try clear elen); (try clear hrk); (try clear hkl); (try clear hr1); (try clear hi); (try clear hilt); (try clear hor); (try clear hul); (try clear plen); (try clear hdn); (try clear hdl); (try clear hlen); (try clear hmany); (try clear hrl); omega) | omega))
        obtain ⟨xs',hxs',aS,rfl,haS⟩ := pr_got hpsl hs
        refine ⟨_,rfl,.inl ⟨rfl,_,SqL.of hf2⟩,_,rfl,_,rfl,asl,_,_,_,rfl,rfl,SqL.of (u2 _ _ hsl),atI_nat hxs',fo,zs,_,rfl,rfl,hf2,small (by rw [hzl,List.length_take,List.length_drop]; (first | ((try clear hacc); (try clear hrt); (try clear hrk); (try clear hkl); (try clear hi); (try clear hilt); (try clear hor); (try clear hul); (try clear hdn); (try clear hdl); (try clear hmany); (try clear hrl); omega) | omega)),?_⟩
        refine ⟨_,rfl,_,_,rfl,rfl,k - (r + (t + 1)),by (first | ((try clear hacc); (try clear hzl); (try clear hrt); (try clear hyl0); (try clear elen); (try clear hkn); (try clear hrk); (try clear hkl); (try clear hr1); (try clear hi); (try clear hilt); (try clear hor); (try clear hul); (try clear plen); (try clear hdn); (try clear hdl); (try clear hxl); (try clear hlen); (try clear hmany); (try clear hrl); omega) | omega),t + 1,zs ++ [.ref aS],?_,rfl,by (first | ((try clear hacc); (try clear hzl); (try clear hrt); (try clear hyl0); (try clear elen); (try clear hkn); (try clear hrk); (try clear hkl); (try clear hr1); (try clear hi); (try clear hilt); (try clear hor); (try clear hul); (try clear plen); (try clear hdn); (try clear hdl); (try clear hxl); (try clear hlen); (try clear hmany); (try clear hrl); omega) | omega),same_off u2 hfo,tp2.trans (Tps.lst hf2),(by rw [upd_ne nuf]; exact hup2),upd_same,?_⟩
        · rw [show ((r + (t + 1) : Nat) : Int) = ((r + t : Nat) : Int) + 1 by (first | ((try clear h0'); (try clear hacc); (try clear hzl); (try clear hrt); (try clear hyl0); (try clear elen); (try clear hkn); (try clear hrk); (try clear hkl); (try clear hr1); (try clear hi); (try clear hilt); (try clear hor); (try clear hul); (try clear plen); (try clear hdn); (try clear hdl); (try clear hxl); (try clear hlen); (try clear hmany); (try clear hrl); omega) | omega)]; rfl
        · rw [take_snoc (x := sl[r + t]) (by rw [List.getElem?_drop]; exact hs),← List.append_assoc]
          exact pr_app (pr_tps tS py2 (Tps.lst hf2)) (.cons ⟨aS,rfl,Tps.lst hf2 _ _ (u2 _ _ haS)⟩ .nil)
      have hrt' : r + t = k := by
        have : ¬ ((r + t : Nat) : Int) < (k : Int) := by simpa using h0
        (first | ((try clear h0); (try clear hacc); (try clear hzl); (try clear hyl0); (try clear elen); (try clear hkn); (try clear hrk); (try clear hkl); (try clear hr1); (try clear hi); (try clear hilt); (try clear hor); (try clear hul); (try clear plen); (try clear hdn); (try clear hdl); (try clear hxl); (try clear hlen); (try clear hmany); (try clear hrl); omega) | omega)
      rw [hrt']
      have htk : t = k - r := by (first | ((try clear h0); (try clear hacc); (try clear hzl); (try clear hrt); (try clear hyl0); (try clear elen); (try clear hkn); (try clear hrk); (try clear hkl); (try clear hr1); (try clear hi); (try clear hilt); (try clear hor); (try clear hul); (try clear plen); (try clear hdn); (try clear hdl); (try clear hxl); (try clear hlen); (try clear hmany); (try clear hrl); omega) | omega)
      subst htk
      refine ⟨_,rfl,_,rfl,asl,_,rfl,.inl (SqL.of (u2 _ _ hsl)),_,_,rfl,rfl,_,rfl,?_⟩
      by_cases hid : i < (doer rs (shp sl) 0).length
      · rw [hgo hid] at e1 al1
        cases al1 with
        | cons g1 g2 g3 g4 g5 =>
        rw [show decide ((k : Int) < (xsl.length : Int)) = true from decide_eq_true (by first | decide | (first | ((try clear g4); (try clear g1); (try clear hid); (try clear hrt'); (try clear h0); (try clear hzl); (try clear hrt); (try clear htk); (try clear hacc); (try clear hyl0); (try clear elen); (try clear hrk); (try clear hkl); (try clear hr1); (try clear hi); (try clear hilt); (try clear hor); (try clear hul); (try clear plen); (try clear hdn); (try clear hdl); (try clear hlen); (try clear hmany); (try clear hrl); omega) | omega))]
        refine iteT ?_
        obtain ⟨ru,hru⟩ : ∃ ru,rs[j]? = some ru := ⟨rs[j],List.getElem?_eq_getElem g4⟩
        obtain ⟨xr',hxr,ax,vb,vt,va,vg,rfl,hx4,_,⟨at',rfl,hat⟩,_,⟨ag,rfl,hag⟩⟩ := pr_got hprs hru
        have htl : tl rs j = ru.t.length := tl_of hru
        have hgv : gv rs j = ru.g := gv_of hru
        have hg3 := (ok ru (List.mem_of_getElem? hru)).2.2.2.2.2
        have hsa : sl[k]? = some sl[k] := List.getElem?_eq_getElem (by first | decide | (first | ((try clear hg3); (try clear g4); (try clear g1); (try clear hid); (try clear hrt'); (try clear h0); (try clear hzl); (try clear hrt); (try clear htk); (try clear hacc); (try clear hyl0); (try clear elen); (try clear hrk); (try clear hkl); (try clear hr1); (try clear hi); (try clear hilt); (try clear hor); (try clear hul); (try clear plen); (try clear hdn); (try clear hdl); (try clear hlen); (try clear hmany); (try clear hrl); omega) | omega))
        have hsz : sl[k + tl rs j - 1]? = some sl[k + tl rs j - 1] := List.getElem?_eq_getElem (by first | decide | (first | ((try clear hg3); (try clear g4); (try clear g1); (try clear hid); (try clear hrt'); (try clear h0); (try clear hzl); (try clear hrt); (try clear htk); (try clear hacc); (try clear hyl0); (try clear elen); (try clear hkn); (try clear hrk); (try clear hkl); (try clear hr1); (try clear hi); (try clear hilt); (try clear hor); (try clear hul); (try clear plen); (try clear hdn); (try clear hdl); (try clear hlen); (try clear hmany); (try clear hrl); omega) | omega))
        obtain ⟨xa,hxa,aA,rfl,haA⟩ := pr_got hpsl hsa
        obtain ⟨xz,hxz,aZ,rfl,haZ⟩ := pr_got hpsl hsz
        have hao := allOf_at (g := ru.g) g2 hsa hsz
        rw [psl_cons,hgv,hao] at e1
        refine ⟨_,rfl,_,rfl,ad,_,_,_,rfl,rfl,SqT.of had2,rfl,ar,_,_,_,rfl,rfl,SqL.of (u2 _ _ hrs),atI_nat hxr,?_⟩
        refine ⟨_,rfl,_,rfl,_,rfl,ax,_,_,_,rfl,rfl,SqT.of (u2 _ _ hx4),rfl,at',_,rfl,.inr (SqT.of (u2 _ _ hat)),_,_,rfl,rfl,_,_,rfl,rfl,asl,_,((k + tl rs j - 1 : Nat) : Int),_,rfl,congrArg V.int (by rw [iv_len,htl]; (first | ((try clear hg3); (try clear g3); (try clear g4); (try clear g1); (try clear hid); (try clear hrt'); (try clear h0); (try clear hzl); (try clear hrt); (try clear htk); (try clear hacc); (try clear hyl0); (try clear elen); (try clear hrk); (try clear hkl); (try clear hr1); (try clear hi); (try clear hilt); (try clear hor); (try clear hul); (try clear plen); (try clear hdn); (try clear hdl); (try clear hmany); (try clear hrl); omega) | omega)),SqL.of (u2 _ _ hsl),atI_nat hxz,?_⟩
        refine ⟨_,rfl,ax,_,_,_,rfl,rfl,SqT.of (u2 _ _ hx4),rfl,ag,rfl,⟨_,SqT.of (u2 _ _ hag)⟩,(let Sg : (Option V) → L2.St := fun sv => [some (.ref ar),some (.ref asl),some (.int (many : Int)),some (.ref fo),some (.int (k : Int)),some (.ref ad),some (.ref ax),some (.ref aZ),sv]; let Iv : Nat → L2.St → Hp → Prop := fun b σ H3 => Ex2 fun (sv : Option V) (zs : List V) => And6 (σ = Sg sv) (Same H H3) (Tps C H3) (H3 up = some (.lst (dx ++ [.ref tq]))) (H3 fo = some (.lst zs)) (Paired (IsS H3) zs (acc ++ (sl.drop r).take (k - r) ++ (ru.g.map fun s => (s,slo sl[k],shi sl[k + tl rs j - 1])).take b)); for_tup (xs := iv ru.g) Iv
          ⟨sv,zs,rfl,u2,tp2,hup2,hf2,by rw [List.take_zero,List.append_nil]; exact py2⟩ (fun i σ H' _ zz1 => by obtain ⟨_,_,_,s',_⟩ := zz1; exact SqT.of (s' _ _ hag)) ?_ ?_)⟩
        · rintro b y σ H3 hy ⟨sv,zs,rfl,u3,tp3,hup3,hf3,py3⟩
          obtain ⟨n,hn,rfl⟩ := at_iv hy
          have hbl : b < ru.g.length := (List.getElem?_eq_some_iff.mp hn).1
          refine ⟨_,rfl,.inl ⟨rfl,_,SqL.of hf3⟩,_,rfl,_,rfl,_,rfl,asl,_,_,_,rfl,rfl,SqL.of (u3 _ _ hsl),atI_nat hxa,aA,_,_,_,rfl,rfl,SqT.of (u3 _ _ haA),rfl,_,rfl,aZ,_,_,_,rfl,rfl,SqT.of (u3 _ _ haZ),rfl,(by show 3 ≤ sizeLine; decide),fun t ht => ?_⟩
          have nft : fo ≠ t := ne_of_none hf3 ht
          have hzl3 : zs.length ≤ acc.length + (k - r) + 3 := by
            rw [pr_len py3,List.length_append,List.length_append,List.length_take,List.length_take,List.length_map]; (first | ((try clear htl); (try clear g3); (try clear g4); (try clear g2); (try clear g1); (try clear hid); (try clear hrt'); (try clear h0); (try clear hzl); (try clear hrt); (try clear htk); (try clear hacc); (try clear hyl0); (try clear elen); (try clear hkn); (try clear hrk); (try clear hkl); (try clear hr1); (try clear hi); (try clear hilt); (try clear hor); (try clear hul); (try clear plen); (try clear hdn); (try clear hdl); (try clear hxl); (try clear hlen); (try clear hmany); (try clear hrl); omega) | omega)
          refine ⟨fo,zs,_,rfl,rfl,(by rw [upd_ne nft]; exact hf3),small (by first | decide | (first | ((try clear hbl); (try clear hg3); (try clear htl); (try clear g3); (try clear g4); (try clear g2); (try clear g1); (try clear hid); (try clear h0); (try clear hrt); (try clear htk); (try clear hacc); (try clear hrk); (try clear hkl); (try clear hr1); (try clear hi); (try clear hilt); (try clear hor); (try clear hul); (try clear hdn); (try clear hdl); (try clear hmany); (try clear hrl); omega) | omega)),?_⟩
          have hf3' : (upd H3 t (.tup [.int n,.int sl[k].2.1,.int sl[k + tl rs j - 1].2.2])) fo = some (.lst zs) := by rw [upd_ne nft]; exact hf3
          refine ⟨_,_,rfl,same_off (u3.trans (same_new ht)) hfo,(tp3.trans (Tps.new ht)).trans (Tps.lst hf3'),(by rw [upd_ne nuf,upd_ne (ne_of_none hup3 ht)]; exact hup3),upd_same,?_⟩
          rw [take_snoc (x := (n,slo sl[k],shi sl[k + tl rs j - 1])) (by rw [List.getElem?_map,hn]; rfl),← List.append_assoc]
          refine pr_app (pr_tps tS py3 ((Tps.new ht).trans (Tps.lst hf3'))) (.cons ⟨t,rfl,?_⟩ .nil)
          rw [upd_ne nft.symm,upd_same]; rfl
        · rintro σ H3 ⟨sv,zs,rfl,u3,tp3,hup3,hf3,py3⟩
          rw [iv_len,List.take_of_length_le (l := ru.g.map fun s => (s,slo sl[k],shi sl[k + tl rs j - 1])) (by rw [List.length_map]; exact Nat.le_refl _)] at py3
          refine ⟨_,rfl,_,rfl,ax,_,_,_,rfl,rfl,SqT.of (u3 _ _ hx4),rfl,at',_,rfl,.inr (SqT.of (u3 _ _ hat)),_,_,rfl,rfl,?_⟩
          refine ⟨some (.ref ad),some (.ref ax),some (.ref aZ),sv,k + tl rs j,zs,_,?_,u3,tp3,hup3,hf3,py3,.inl ⟨hid,?_,g5,g3⟩⟩
          · rw [iv_len,htl]; rfl
          · rw [← e1]; simp only [List.append_assoc]
      · obtain ⟨hk1,hi1⟩ := hend hid
        rw [show decide ((k : Int) < (xsl.length : Int)) = false from decide_eq_false (by first | decide | (first | ((try clear hi1); (try clear hid); (try clear hrt'); (try clear h0); (try clear hzl); (try clear hrt); (try clear htk); (try clear hacc); (try clear hyl0); (try clear elen); (try clear hkn); (try clear hrk); (try clear hkl); (try clear hr1); (try clear hi); (try clear hilt); (try clear hor); (try clear hul); (try clear plen); (try clear hdn); (try clear hdl); (try clear hlen); (try clear hmany); (try clear hrl); omega) | omega))]
        refine iteF ?_
        refine ⟨_,_,_,_,k,zs,_,rfl,u2,tp2,hup2,hf2,py2,.inr ⟨by (first | ((try clear hi1); (try clear hk1); (try clear hrt'); (try clear h0); (try clear hzl); (try clear hrt); (try clear htk); (try clear hacc); (try clear hyl0); (try clear elen); (try clear hkn); (try clear hrk); (try clear hkl); (try clear hr1); (try clear hi); (try clear hor); (try clear plen); (try clear hdn); (try clear hdl); (try clear hxl); (try clear hlen); (try clear hmany); (try clear hrl); omega) | omega),?_⟩⟩
        rw [hi1,List.drop_length] at e1
        rw [← e1,hk1,List.take_of_length_le (by rw [List.length_drop]; exact Nat.le_refl _)]
        rfl
    rintro σ H' ⟨ov,rv,lv,sv,r,ys,acc,rfl,u1,tp1,hup1,hf1,py1,hor⟩
    rw [hul] at hor
    rcases hor with ⟨hi,_⟩ | ⟨_,rfl⟩
    · (first | ((try clear hor); (try clear hul); (try clear plen); (try clear hdn); (try clear hdl); (try clear hxl); (try clear hlen); (try clear hmany); (try clear hrl); omega) | omega)
    have wk := (passed_wk (sg.wk) (ok.gv)).1
    refine ⟨_,rfl,_,rfl,_,passedSlots rs sl,many,rfl,⟨fo,ys,rfl,hf1,py1⟩,wk,hmany,by (first | ((try clear hor); (try clear hul); (try clear hdn); (try clear hdl); (try clear hmany); (try clear hrl); omega) | omega),fun p xs H3 s3 hp hx3 hpr3 => ?_⟩
    exact kq p xs H3 (u1.trans s3) (u1.free hp) hx3 hpr3
theorem ok_law_rows {f : Addr} {fd : FuncData} {f_law_next_row : Addr} {fd_law_next_row : FuncData} (D : Dn K mg "_law_rows" s_law_rows ["passes","letters"] f fd) (T : Txt mg)
    (D_law_next_row : Dn K mg "_law_next_row" s_law_next_row ["rules","row","many"] f_law_next_row fd_law_next_row) (G_law_next_row : FnOk P w K mg base CX0 3 f_law_next_row fd_law_next_row ["rules","row","many"] spNextRow) :
    FnOk P w K mg base CX0 4 f fd ["passes","letters"] spLawRows := by
  refine D.F.ok (k := 3) sc_law_rows (fun vs H Q E h => ?_) (fun cdv A outer s H vs Q E hr h => ?_)
  · obtain ⟨b,xps,vl,ps,row,rfl,hb,hpps,⟨al,rfl,hal⟩,pok,hr100,hp4,hlen,kq⟩ := h
    rfl
  · obtain ⟨b,xps,vl,ps,row,rfl,hb,hpps,⟨al,rfl,hal⟩,pok,hr100,hp4,hlen,kq⟩ := h
    refine ⟨_,(pss_cons (ps_setLc (i := 2) ["k"] [1] sc_law_rows.nd rfl (by first | exact Or.inl rfl | exact Or.inr rfl) rfl (pi_range1 (by rfl) T.n_range (pa_cons (pe_callB call_len_seq0 (by rfl) T.n_len PySem.boot_len (pa_cons (pv 1) pa_nil)) pa_nil)) (fun _ _ _ _ => ⟨(pg_name (i := 0) (by exact (show (["k","letters"] : List Str).Nodup by decide +kernel)) rfl (by first | exact Or.inl rfl | exact Or.inr rfl)),pts_nil,(pe_tup (pa_cons (pe_ix ix_list0 (pv 1) (pv 0) (fun _ _ => rfl)) (pa_cons (pv 0) (pa_cons (pe_op op_add (pv 0) pe_int) pa_nil))))⟩))
       (pss_cons (ps_set (i := 3) sc_law_rows.nd rfl (by first | exact Or.inl rfl | exact Or.inr rfl) (pe_lst (pa_cons (pv 2) pa_nil)))
       (pss_cons (ps_for PassesOwn.never rfl (pi_list0 (pv 0)) (pg_name (i := 4) sc_law_rows.nd rfl (by first | exact Or.inl rfl | exact Or.inr rfl))
       (pss_cons (ps_set (i := 2) sc_law_rows.nd rfl (by first | exact Or.inl rfl | exact Or.inr rfl) (pe_call G_law_next_row (hr.mono (by decide)) (by rfl) D_law_next_row.m D_law_next_row.F.kp D_law_next_row.b .nil pass0 (pa_cons (pv 4) (pa_cons (pv 2) (pa_cons (pe_callB call_len_seq0 (by rfl) T.n_len PySem.boot_len (pa_cons (pv 1) pa_nil)) pa_nil)))))
       (pss_one (ps_expr (pe_bmZ PySem.F.plainAttrs_list PySem.F.slot_list_append PySem.F.type_list_append mt_append (pv 3) (pa_cons (pv 2) pa_nil))))))
       (pss_one (ps_ret (pv 3)))))),?_⟩
    have hrl : row.length ≤ 9000 := Nat.le_trans (by have := pow_le (n := row.length) (Nat.zero_le ps.length); simpa using this) hlen
    refine ⟨_,rfl,al,_,rfl,.inl (SqL.of hal),_,rfl,by (first | ((try clear hrl); (try clear hlen); (try clear hp4); omega) | omega),by rw [iv_len]; (first | ((try clear hlen); (try clear hp4); omega) | omega),fun D hD => (let Iv : Nat → List V → L2.St → Hp → Prop := fun i ys τ H' => ∃ a,And4 (τ = [a,some (.ref al)]) (Same H H') (H' D = some (.lst ys)) (Paired (IsS H') ys ((firstSlots row).take i)); lc_range (n := (iv row).length) Iv
      ⟨none,rfl,same_new hD,upd_same,.nil⟩ (fun i ys τ H' _ zz1 => by obtain ⟨_,_,_,h',_⟩ := zz1; exact h') ?_ ?_)⟩
    · rintro i ys τ H' hi ⟨a,rfl,s1,hd1,hp1⟩
      rw [iv_len] at hi
      have hn : row[i]? = some row[i] := List.getElem?_eq_getElem hi
      have hyl : ys.length ≤ row.length := by rw [pr_len hp1,List.length_take]; (first | ((try clear hrl); (try clear hlen); (try clear hp4); omega) | omega)
      refine lcN ?_
      refine ⟨_,rfl,_,rfl,al,_,(i : Int),_,rfl,congrArg V.int (by first | exact Int.zero_add _ | omega),SqL.of (s1 _ _ hal),atI_iv hn,_,rfl,_,rfl,_,_,rfl,rfl,(by show 3 ≤ sizeLine; decide),fun t ht => ⟨?_,small (by first | decide | (first | ((try clear hi); (try clear hlen); (try clear hp4); omega) | omega)),?_⟩⟩
      · rw [upd_ne (ne_of_none hd1 ht)]; exact hd1
      have hdt : D ≠ t := ne_of_none hd1 ht
      refine ⟨_,rfl,same_off (s1.trans (same_new ht)) hD,upd_same,?_⟩
      rw [take_snoc (first_at hn)]
      refine pr_app (pr_tps tS hp1 ((Tps.new ht).trans (Tps.lst (by rw [upd_ne hdt]; exact hd1)))) (.cons ⟨t,rfl,?_⟩ .nil)
      rw [upd_ne hdt.symm,upd_same,show (0 : Int) + (i : Int) = (i : Int) by (first | ((try clear hyl); (try clear hi); (try clear hrl); (try clear hlen); (try clear hp4); omega) | omega)]
    rintro ys τ H1 ⟨a,rfl,s1,hd1,hp1⟩
    rw [iv_len,List.take_of_length_le (by rw [first_len]; exact Nat.le_refl _)] at hp1
    refine ⟨_,rfl,(by show 1 ≤ sizeLine; decide),fun ro hro => ?_⟩
    have s2 : Same H (upd H1 ro (.lst [.ref D])) := s1.trans (same_new hro)
    have hron : H ro = none := s1.free hro
    refine ⟨_,rfl,b,rfl,⟨_,SqL.of (s2 _ _ hb)⟩,(let Iv : Nat → L2.St → Hp → Prop := fun i σ H' => Ex3 fun q rv ys => And5 (σ = [some (.ref b),some (.ref al),some (.ref q),some (.ref ro),rv]) (Same H H') (H' ro = some (.lst ys)) (ys.getLast? = some (.ref q)) (Paired (fun x sl => x ≠ .ref ro ∧ (∀ q,x = .ref q → H q = none) ∧ IsSlots H' x sl) ys (rowsN ps row (i + 1))); for_list (xs := xps) Iv
      ⟨D,none,_,rfl,s2,upd_same,rfl,.cons ⟨fun q => ?_,fun q e => ?_,?_⟩ .nil⟩ (fun i σ H' _ zz1 => by obtain ⟨_,_,_,_,s',_⟩ := zz1; exact SqL.of (s' _ _ hb)) ?_ ?_)⟩
    · exact ne_of_none hd1 hro (V.ref.inj q)
    · rw [← V.ref.inj e]; exact hD
    · exact LstOf.same tS ⟨D,ys,rfl,hd1,by
        show Paired (IsS H1) ys (setRow (ps.take 0) row)
        exact hp1⟩ (same_new hro)
    · rintro i x σ H' hx ⟨q,rv,ys,rfl,s3,hr1,hlast,hp1⟩
      obtain ⟨rs,hrs,hrul⟩ := pr_get hpps hx
      have hil : i < ps.length := (List.getElem?_eq_some_iff.mp hrs).1
      obtain ⟨xz,hxz,hz1,hz2,hz3⟩ := pr_last hp1 (rowsN_last ps row i)
      rw [hlast] at hxz; cases hxz
      have b1 := setRow_len pok row i (by first | decide | (first | ((try clear hrl); (try clear hlen); (try clear hp4); omega) | omega))
      have b3 := pow_le (n := row.length) (show i + 1 ≤ ps.length by (first | ((try clear b1); (try clear hrl); (try clear hlen); (try clear hp4); omega) | omega))
      rw [Nat.pow_succ,← Nat.mul_assoc] at b3
      have rok := pok rs (List.mem_of_getElem? hrs)
      have sgi := (setRow_sg (passes := ps.take i) (fun rs h => pok rs (List.mem_of_mem_take h)) row).1
      refine ⟨_,rfl,_,rfl,_,rfl,al,_,rfl,.inl (SqL.of (s3 _ _ hal)),_,_,rs,setRow (ps.take i) row,row.length,(by rw [iv_len]; rfl),hrul.same tR s3,hz3,rok,hr100 rs (List.mem_of_getElem? hrs),sgi,by (first | ((try clear b3); (try clear b1); (try clear hil); (try clear hlen); (try clear hp4); omega) | omega),by (first | ((try clear hil); (try clear hrl); (try clear hp4); omega) | omega),fun p3 xs3 H3 s4 hp3 hx3 hpr3 => ?_⟩
      have hr3 := s4 _ _ hr1
      have e1 := setRow_snoc (row := row) hrs
      have hyl : ys.length = i + 1 := by rw [pr_len hp1]; unfold rowsN; simp
      refine ⟨_,rfl,.inl ⟨rfl,_,SqL.of hr3⟩,_,rfl,ro,ys,_,rfl,rfl,hr3,small (by first | decide | (first | ((try clear b3); (try clear b1); (try clear hrl); (try clear hlen); omega) | omega)),?_⟩
      have n3 : p3 ≠ ro := fun q => by rw [q,hr1] at hp3; cases hp3
      refine ⟨p3,_,_,rfl,same_off (s3.trans s4) hron,upd_same,by rw [List.getLast?_append]; rfl,?_⟩
      rw [rowsN_succ,e1]
      refine pr_app (Paired.imp' (fun x sl q => ⟨q.1,q.2.1,lst_off tS q.1 hr3 (q.2.2.same tS s4)⟩) hp1) (.cons ⟨fun q => n3 (V.ref.inj q),fun q e => ?_,?_⟩ .nil)
      · rw [← V.ref.inj e]; exact s3.free hp3
      · exact lst_off tS (fun q => n3 (V.ref.inj q)) hr3 ⟨p3,xs3,rfl,hx3,hpr3⟩
    · rintro σ H' ⟨q,rv,ys,rfl,s3,hr1,hlast,hp1⟩
      have hxl : xps.length = ps.length := pr_len hpps
      rw [hxl] at hp1
      exact ⟨_,rfl,kq ro ys H' s3 hron hr1 (Paired.imp' (fun x sl q => q.2) hp1)⟩
theorem ok_law_copy {f : Addr} {fd : FuncData} (D : Dn K mg "_law_copy" s_law_copy ["case","letters"] f fd) (T : Txt mg) :
    FnOk P w K mg base CX0 1 f fd ["case","letters"] spCopy := by
  refine D.F.ok (k := 0) sc_law_copy (fun vs H Q E h => ?_) (fun cdv A outer s H vs Q E hr h => ?_)
  · obtain ⟨a,pp,wp,np,lp,xs,zss,kw,kn,row,rfl,ha,hpp,hct,hxl,hwp,hnp,hal,hho,hlp,kq⟩ := h
    rfl
  · obtain ⟨a,pp,wp,np,lp,xs,zss,kw,kn,row,rfl,ha,hpp,hct,hxl,hwp,hnp,hal,hho,hlp,kq⟩ := h
    refine ⟨_,(pss_one (ps_ret (pe_tup (pa_cons (pe_lc ["rules"] [] rfl (pi_list0 (pe_ix ix_tup0 (pv 0) pe_int (fun _ _ => rfl))) (fun _ _ _ _ => ⟨(pg_name (i := 0) (by exact (show (["rules"] : List Str).Nodup by decide +kernel)) rfl (by first | exact Or.inl rfl | exact Or.inr rfl)),pts_nil,(pe_callTy call_list_of0 (by rfl) T.n_list boot_list (pa_cons (pv 0) pa_nil))⟩)) (pa_cons (pe_callTy call_dictOf (by rfl) T.n_dict boot_dict (pa_cons (pe_ix ix_tup0 (pv 0) pe_int (fun _ _ => rfl)) pa_nil)) (pa_cons (pe_callTy call_dictOf (by rfl) T.n_dict boot_dict (pa_cons (pe_ix ix_tup0 (pv 0) pe_int (fun _ _ => rfl)) pa_nil)) (pa_cons (pe_callTy call_list_of0 (by rfl) T.n_list boot_list (pa_cons (pv 1) pa_nil)) pa_nil))))))),?_⟩
    refine ⟨_,rfl,a,_,_,_,rfl,rfl,SqT.of ha,rfl,pp,rfl,⟨_,SqL.of hpp⟩,fun D hD => (let Iv : Nat → List V → L2.St → Hp → Prop := fun i ys τ H' => ∃ b,And4 (τ = [b]) (Same H H') (H' D = some (.lst ys)) (Paired (fun (zs : List V) y => ∃ b,y = .ref b ∧ b ≠ D ∧ H b = none ∧ H' b = some (.lst zs) ∧ ∀ z ∈ zs,∃ q,z = .ref q) (zss.take i) ys); lc_list (xs := xs) Iv
      ⟨none,rfl,same_new hD,upd_same,.nil⟩ (fun i ys τ H' _ zz1 => by obtain ⟨_,_,s',h',_⟩ := zz1; exact ⟨h',SqL.of (s' _ _ hpp)⟩) ?_ ?_)⟩
    · rintro i x ys τ H' hx ⟨b,rfl,u1,hd1,hp1⟩
      obtain ⟨zs,hzs,ar,rfl,har,href⟩ := pr_get hct hx
      have har' := u1 _ _ har
      have hil := (List.getElem?_eq_some_iff.mp hx).1
      have hyl : ys.length ≤ i := by rw [← pr_len hp1,List.length_take]; (first | ((try clear hil); (try clear hxl); omega) | omega)
      refine lcN ?_
      refine ⟨_,rfl,ar,_,rfl,.inl (SqL.of har'),fun l hl => ⟨?_,small (by first | decide | omega),?_⟩⟩
      · rw [upd_ne (ne_of_none hd1 hl)]; exact hd1
      have nDl : l ≠ D := (ne_of_none hd1 hl).symm
      refine ⟨_,rfl,same_off (u1.trans (same_new hl)) hD,upd_same,?_⟩
      rw [take_snoc hzs]
      refine pr_app (Paired.imp' (fun x y q => ?_) hp1) (.cons ⟨l,rfl,nDl,u1.free hl,by rw [upd_ne nDl,upd_same],href⟩ .nil)
      obtain ⟨b',e1,e2,e3,e4,e5⟩ := q
      exact ⟨b',e1,e2,e3,by rw [upd_ne e2,upd_ne (ne_of_none e4 hl)]; exact e4,e5⟩
    rintro ys τ H1 ⟨b,rfl,u1,hd1,hp1⟩
    have hzl : xs.length = zss.length := pr_len hct
    rw [List.take_of_length_le (by first | decide | (first | ((try clear hxl); omega) | omega))] at hp1
    refine ⟨_,rfl,a,_,_,_,rfl,rfl,SqT.of (u1 _ _ ha),rfl,wp,rfl,.inl ⟨kw,u1 _ _ hwp,fun w hw => ?_⟩⟩
    have u2 := u1.trans (same_new (o := .dK kw) hw)
    have hw2 : (upd H1 w (.dK kw)) w = some (.dK kw) := upd_same
    have v2 : Same H1 (upd H1 w (.dK kw)) := same_new hw
    generalize (upd H1 w (.dK kw)) = H2 at u2 hw2 v2 ⊢
    refine ⟨_,rfl,a,_,_,_,rfl,rfl,SqT.of (u2 _ _ ha),rfl,np,rfl,.inr ⟨kn,u2 _ _ hnp,hal,hho,fun n hn => ?_⟩⟩
    have u3 := u2.trans (same_new (o := .dT kn) hn)
    have hn3 : (upd H2 n (.dT kn)) n = some (.dT kn) := upd_same
    have v3 : Same H2 (upd H2 n (.dT kn)) := same_new hn
    generalize (upd H2 n (.dT kn)) = H3 at u3 hn3 v3 ⊢
    refine ⟨_,rfl,lp,_,rfl,.inl (SqL.of (u3 _ _ hlp)),fun l hl => ?_⟩
    have u4 := u3.trans (same_new (o := .lst (iv row)) hl)
    have hl4 : (upd H3 l (.lst (iv row))) l = some (.lst (iv row)) := upd_same
    have v4 : Same H3 (upd H3 l (.lst (iv row))) := same_new hl
    generalize (upd H3 l (.lst (iv row))) = H4 at u4 hl4 v4 ⊢
    refine ⟨(by show 4 ≤ sizeLine; decide),fun t ht => ?_⟩
    have v5 : Same H4 (upd H4 t (.tup [.ref D,.ref w,.ref n,.ref l])) := same_new ht
    have v15 := ((v2.trans v3).trans v4).trans v5
    refine kq t _ (u4.trans v5) (u4.free ht) ⟨⟨D,w,n,l,ys,upd_same,v15 _ _ hd1,Paired.imp' (fun zs y q => ?_) hp1,((v3.trans v4).trans v5) _ _ hw2,(v4.trans v5) _ _ hn3,v5 _ _ hl4,hD,u1.free hw,u2.free hn,u3.free hl⟩⟩
    obtain ⟨b',e1,_,e3,e4,e5⟩ := q
    exact ⟨b',e1,e3,v15 _ _ e4,e5⟩
theorem ok_first_slots {f : Addr} {fd : FuncData} (D : Dn K mg "first_slots" s_first_slots ["row"] f fd) (T : Txt mg) :
    FnOk P w K mg base CX0 1 f fd ["row"] spFirstSlots := by
  refine D.F.ok (k := 0) sc_first_slots (fun vs H Q E h => ?_) (fun cdv A outer s H vs Q E hr h => ?_)
  · obtain ⟨vrow,row,rfl,⟨ar,rfl,hrow⟩,hlen,kq⟩ := h
    rfl
  · obtain ⟨vrow,row,rfl,⟨ar,rfl,hrow⟩,hlen,kq⟩ := h
    refine ⟨_,(pss_one (ps_ret (pe_lc ["place","letter"] [] rfl (pi_enum0 (by rfl) T.n_enumerate (pa_cons (pv 0) pa_nil)) (fun _ _ _ _ => ⟨(pg_tup0 (n := 2) rfl (pgs_cons (pg_name (i := 0) (by exact (show (["place","letter"] : List Str).Nodup by decide +kernel)) rfl (by first | exact Or.inl rfl | exact Or.inr rfl)) (pgs_cons (pg_name (i := 1) (by exact (show (["place","letter"] : List Str).Nodup by decide +kernel)) rfl (by first | exact Or.inl rfl | exact Or.inr rfl)) pgs_nil))),pts_nil,(pe_tup (pa_cons (pv 1) (pa_cons (pv 0) (pa_cons (pe_op op_add (pv 0) pe_int) pa_nil))))⟩)))),?_⟩
    refine ⟨_,rfl,ar,rfl,⟨_,SqL.of hrow⟩,fun D hD => (let Iv : Nat → List V → L2.St → Hp → Prop := fun i ys τ H' => Ex2 fun a b => And4 (τ = [a,b]) (Same H H') (H' D = some (.lst ys)) (Paired (IsS H') ys ((firstSlots row).take i)); lc_enum (xs := iv row) Iv
      ⟨none,none,rfl,same_new hD,upd_same,.nil⟩ (fun i ys τ H' _ zz1 => by obtain ⟨_,_,_,s',h',_⟩ := zz1; exact ⟨h',SqL.of (s' _ _ hrow)⟩) ?_ ?_)⟩
    · rintro i x ys τ H' p hx ⟨a,b,rfl,s1,hd1,hp1⟩ hp
      obtain ⟨n,hn,rfl⟩ := at_iv hx
      refine ⟨p,_,rfl,SqT.of upd_same,rfl,_,_,rfl,_,_,rfl,rfl,lcT ?_⟩
      have s2 : Same H' (upd H' p (.tup [.int (i : Int),.int n])) := same_new hp
      have hil : i < row.length := (List.getElem?_eq_some_iff.mp hn).1
      have hyl : ys.length ≤ row.length := by rw [pr_len hp1,List.length_take]; (first | ((try clear hlen); omega) | omega)
      refine ⟨_,rfl,_,rfl,_,rfl,_,_,rfl,rfl,(by show 3 ≤ sizeLine; decide),fun t ht => ⟨?_,small (by first | decide | (first | ((try clear hil); omega) | omega)),?_⟩⟩
      · rw [upd_ne (ne_of_none (s2 _ _ hd1) ht)]; exact s2 _ _ hd1
      · have s3 : Same H' (upd (upd H' p (.tup [.int (i : Int),.int n])) t (.tup [.int n,.int (i : Int),.int ((i : Int) + 1)])) := s2.trans (same_new ht)
        have hdt : D ≠ t := ne_of_none (s2 _ _ hd1) ht
        refine ⟨_,_,rfl,same_off (s1.trans s3) hD,upd_same,?_⟩
        rw [take_snoc (first_at hn)]
        refine pr_app (pr_tps tS hp1 ((tps_of s3).trans (Tps.lst (s3 _ _ hd1)))) (.cons ⟨t,rfl,?_⟩ .nil)
        rw [upd_ne hdt.symm,upd_same]
    · rintro ys τ H' ⟨a,b,rfl,s1,hd1,hp1⟩
      rw [iv_len,List.take_of_length_le (by rw [first_len]; exact Nat.le_refl _)] at hp1
      exact kq D ys H' s1 hD hd1 hp1
theorem ok_chains {f : Addr} {fd : FuncData} (D : Dn K mg "chains" s_chains ["slots"] f fd) (T : Txt mg) :
    FnOk P w K mg base CX0 1 f fd ["slots"] spChains := by
  refine D.F.ok (k := 0) sc_chains (fun vs H Q E h => ?_) (fun cdv A outer s H vs Q E hr h => ?_)
  · obtain ⟨vsl,sl,rfl,⟨asl,xsl,rfl,hsl,hpsl⟩,hlen,kq⟩ := h
    rfl
  · obtain ⟨vsl,sl,rfl,⟨asl,xsl,rfl,hsl,hpsl⟩,hlen,kq⟩ := h
    refine ⟨_,(pss_cons (ps_set (i := 1) sc_chains.nd rfl (by first | exact Or.inl rfl | exact Or.inr rfl) (pe_lst pa_nil))
       (pss_cons (ps_for PassesOwn.never rfl (pi_list0 (pv 0)) (pg_name (i := 2) sc_chains.nd rfl (by first | exact Or.inl rfl | exact Or.inr rfl))
       (pss_one (ps_if (pw_and (pt_cmpR op_gt (pe_callB call_len_seq0 (by rfl) T.n_len PySem.boot_len (pa_cons (pv 1) pa_nil)) pe_int (nomark _)) (pw_and1 (pt_cmpR op_lt (pe_ix ix_tup0 (pv 2) (pe_gint (by rfl) T.c_FROM) (fun _ _ => rfl)) (pe_ix ix_tup0 (pe_ix ix_list0 (pe_ix ix_list0 (pv 1) (pe_un un_neg pe_int) (fun _ _ => rfl)) (pe_un un_neg pe_int) (fun _ _ => rfl)) (pe_gint (by rfl) T.c_TO) (fun _ _ => rfl)) (nomark _)))).pt
       (pss_one (ps_expr (pe_bmZ PySem.F.plainAttrs_list PySem.F.slot_list_append PySem.F.type_list_append mt_append (pe_ix ix_list0 (pv 1) (pe_un un_neg pe_int) (fun _ _ => rfl)) (pa_cons (pv 2) pa_nil))))
       (pss_one (ps_expr (pe_bmZ PySem.F.plainAttrs_list PySem.F.slot_list_append PySem.F.type_list_append mt_append (pv 1) (pa_cons (pe_lst (pa_cons (pv 2) pa_nil)) pa_nil)))))))
       (pss_one (ps_ret (pv 1))))),?_⟩
    refine ⟨Nat.zero_le _,fun fo hfo => ?_⟩
    have hxl : xsl.length = sl.length := pr_len hpsl
    refine ⟨_,rfl,asl,rfl,⟨_,SqL.of ((same_new hfo) _ _ hsl)⟩,for_list (xs := xsl) (fun i σ H' => Ex2 fun sv cs => And5 (σ = [some (.ref asl),some (.ref fo),sv]) (Same H H') (H' fo = some (.lst cs)) (cs.Nodup) (Paired (fun x c => x ≠ .ref fo ∧ (∀ q,x = .ref q → H q = none) ∧ IsSlots H' x c) cs (grp (sl.take i))))
      ⟨none,[],rfl,same_new hfo,upd_same,List.nodup_nil,.nil⟩ (fun i σ H' _ zz1 => by obtain ⟨_,_,_,s',_⟩ := zz1; exact SqL.of (s' _ _ hsl)) ?_ ?_⟩
    · rintro i x σ H' hx ⟨sv,cs,rfl,s1,hf1,nd1,hp1⟩
      obtain ⟨d,hd,ad,rfl,had⟩ := pr_get hpsl hx
      have had1 := s1 _ _ had
      have hil : i < sl.length := (List.getElem?_eq_some_iff.mp hd).1
      have hgl : (grp (sl.take i)).length ≤ i := by
        have := grp_len (sl.take i); rw [List.length_take] at this; (first | ((try clear hlen); omega) | omega)
      have hcl : cs.length = (grp (sl.take i)).length := pr_len hp1
      rw [take_snoc hd] at *
      refine ⟨_,rfl,fo,_,rfl,.inl (SqL.of hf1),_,_,rfl,rfl,_,rfl,?_⟩
      have app : ∀ l,H' l = none → addSlot (grp (sl.take i)) d = grp (sl.take i) ++ [[d]] → 
          Paired (fun x c => x ≠ .ref fo ∧ (∀ q,x = .ref q → H q = none) ∧ IsSlots (upd (upd H' l (.lst [.ref ad])) fo (.lst (cs ++ [.ref l]))) x c) (cs ++ [.ref l]) (grp (sl.take i ++ [d])) := by
        intro l hl e
        rw [grp_snoc,e]
        have nlf : l ≠ fo := fun q => by rw [q,hf1] at hl; cases hl
        have hf2 : (upd H' l (.lst [.ref ad])) fo = some (.lst cs) := by rw [upd_ne nlf.symm]; exact hf1
        refine pr_app (Paired.imp' (fun x c q => ⟨q.1,q.2.1,lst_off tS q.1 hf2 (q.2.2.same tS (same_new hl))⟩) hp1) (.cons ⟨fun q => nlf (V.ref.inj q),fun q e' => ?_,?_⟩ .nil)
        · rw [← V.ref.inj e']; exact s1.free hl
        · exact lst_off tS (fun q => nlf (V.ref.inj q)) hf2 ⟨l,_,rfl,upd_same,.cons ⟨ad,rfl,by rw [upd_ne (ne_of_none had1 hl)]; exact had1⟩ .nil⟩
      have fresh : ∀ l,H' l = none → (cs ++ [V.ref l]).Nodup := by
        intro l hl
        rw [List.nodup_append]
        refine ⟨nd1,by simp,fun a ha b hb q => ?_⟩
        rw [List.mem_singleton.mp hb] at q
        obtain ⟨k,hk⟩ := List.getElem?_of_mem ha
        obtain ⟨c,_,_,_,a',xs',e',h',_⟩ := pr_get hp1 hk
        rw [q] at e'
        rw [V.ref.inj e'] at hl
        rw [hl] at h'; cases h'
      refine ite2 (fun h0 => ?_) (fun h0 => ?_)
      · have hpos : 0 < cs.length := by simpa using h0
        have hne : grp (sl.take i) ≠ [] := fun q => by rw [q] at hcl; simp at hcl; rw [hcl] at hpos; exact absurd hpos (Nat.lt_irrefl _)
        obtain ⟨c,hc⟩ := exLast hne
        obtain ⟨xc,hxc,hx1,hx2,ac,ys,rfl,hac,hpc⟩ := pr_last hp1 hc
        have hcne : c ≠ [] := grp_nonempty _ c (lastMem hc)
        obtain ⟨z,hz⟩ := exLast hcne
        obtain ⟨xz,hxz,az,rfl,haz⟩ := pr_last hpc hz
        refine ⟨_,rfl,ad,_,_,_,rfl,rfl,SqT.of had1,rfl,_,rfl,_,rfl,fo,_,_,_,rfl,rfl,SqL.of hf1,atI_lastq hxc,_,rfl,ac,_,_,_,rfl,rfl,SqL.of hac,atI_lastq hxz,az,_,_,_,rfl,rfl,SqT.of haz,rfl,_,_,rfl,rfl,_,rfl,?_⟩
        refine ite2 (fun h1 => ?_) (fun h1 => ?_)
        · have h1' : slo d < lsHi c := by
            rw [lsHi_of hz]
            have : d.2.1 < z.2.2 := by simpa using h1
            exact this
          refine ⟨_,rfl,_,rfl,fo,_,_,_,rfl,rfl,SqL.of hf1,atI_lastq hxc,.inl ⟨rfl,_,SqL.of hac⟩,_,rfl,ac,ys,_,rfl,rfl,hac,small ?_,?_⟩
          · have : c.length ≤ (sl.take i).length := grp_mem_len (lastMem hc)
            rw [List.length_take] at this
            rw [pr_len hpc]; (first | ((try clear h1'); omega) | omega)
          have hnac : H ac = none := hx2 ac rfl
          have nfa : fo ≠ ac := fun q => hx1 (by rw [q])
          refine ⟨_,cs,rfl,same_off s1 hnac,(by rw [upd_ne nfa]; exact hf1),nd1,?_⟩
          rw [grp_snoc,addSlot_pos hc h1']
          have hsp := last_split hxc
          have nd2 := nd1
          rw [hsp] at nd2 ⊢
          rw [List.nodup_append] at nd2
          refine pr_app (pr_impm (pr_dropLast hp1) fun x e hm q => ⟨q.1,q.2.1,lst_off tS (nd2.2.2 x hm _ (List.mem_singleton.mpr rfl)) hac q.2.2⟩) (.cons ⟨hx1,hx2,ac,_,rfl,upd_same,?_⟩ .nil)
          exact pr_app (pr_tps tS hpc (Tps.lst hac)) (.cons ⟨ad,rfl,Tps.lst hac _ _ had1⟩ .nil)
        · have h1' : ¬ slo d < lsHi c := by
            rw [lsHi_of hz]
            have : ¬ d.2.1 < z.2.2 := by simpa using h1
            exact this
          refine ⟨_,rfl,.inl ⟨rfl,_,SqL.of hf1⟩,_,rfl,(by show 1 ≤ sizeLine; decide),fun l hl => ?_⟩
          have nlf : fo ≠ l := ne_of_none hf1 hl
          refine ⟨fo,cs,_,rfl,rfl,(by rw [upd_ne nlf]; exact hf1),small (by first | decide | (first | ((try clear h1'); (try clear h1); (try clear hpos); omega) | omega)),?_⟩
          exact ⟨_,_,rfl,same_off (s1.trans (same_new hl)) hfo,upd_same,fresh l hl,app l hl (addSlot_neg hc h1')⟩
      · have hnil : grp (sl.take i) = [] := by
          refine List.length_eq_zero_iff.mp ?_
          have : ¬ 0 < cs.length := by simpa using h0
          (first | ((try clear h0); (try clear hgl); (try clear hil); (try clear hxl); (try clear hlen); omega) | omega)
        refine iteF ?_
        refine ⟨_,rfl,.inl ⟨rfl,_,SqL.of hf1⟩,_,rfl,(by show 1 ≤ sizeLine; decide),fun l hl => ?_⟩
        have nlf : fo ≠ l := ne_of_none hf1 hl
        refine ⟨fo,cs,_,rfl,rfl,(by rw [upd_ne nlf]; exact hf1),small (by first | decide | (first | ((try clear h0); omega) | omega)),?_⟩
        exact ⟨_,_,rfl,same_off (s1.trans (same_new hl)) hfo,upd_same,fresh l hl,app l hl (by rw [hnil]; rfl)⟩
    · rintro σ H' ⟨sv,cs,rfl,s1,hf1,nd1,hp1⟩
      rw [List.take_of_length_le (by first | decide | (first | ((try clear hlen); omega) | omega))] at hp1
      exact ⟨_,rfl,kq fo cs H' s1 hfo hf1 (Paired.imp' (fun x c q => q.2.2) hp1)⟩
theorem ok_all_of {f : Addr} {fd : FuncData} (D : Dn K mg "all_of" s_all_of ["shapes","slots"] f fd) (T : Txt mg) :
    FnOk P w K mg base CX0 1 f fd ["shapes","slots"] spAllOf := by
  refine D.F.ok (k := 0) sc_all_of (fun vs H Q E h => ?_) (fun cdv A outer s H vs Q E hr h => ?_)
  · obtain ⟨vsh,vsl,sh,sl,rfl,hsh,⟨asl,xs,rfl,hsl,hpr⟩,hne,hlen,kq⟩ := h
    rfl
  · obtain ⟨vsh,vsl,sh,sl,rfl,hsh,⟨asl,xs,rfl,hsl,hpr⟩,hne,hlen,kq⟩ := h
    refine ⟨_,(pss_one (ps_ret (pe_lc ["shape"] [1] rfl (pi_seq (pv 0)) (fun _ _ _ _ => ⟨(pg_name (i := 0) (by exact (show (["shape","slots"] : List Str).Nodup by decide +kernel)) rfl (by first | exact Or.inl rfl | exact Or.inr rfl)),pts_nil,(pe_tup (pa_cons (pv 0) (pa_cons (pe_ix ix_tup0 (pe_ix ix_list0 (pv 1) pe_int (fun _ _ => rfl)) (by exact pe_gint (by rfl) T.c_FROM) (fun _ _ => rfl)) (pa_cons (pe_ix ix_tup0 (pe_ix ix_list0 (pv 1) (pe_un un_neg pe_int) (fun _ _ => rfl)) (by exact pe_gint (by rfl) T.c_TO) (fun _ _ => rfl)) pa_nil))))⟩)))),?_⟩
    obtain ⟨sa,hh⟩ := exHead hne
    obtain ⟨sz,hl⟩ := exLast hne
    obtain ⟨x0,h0x,a0,rfl,ha0⟩ := pr_got (i := 0) hpr (by rw [← List.head?_eq_getElem?]; exact hh)
    obtain ⟨xz,hzx,z0,rfl,hz0⟩ := pr_last hpr hl
    rcases hsh with ⟨ash,rfl,hsh⟩ | ⟨ash,rfl,hsh⟩
    · refine .inl ⟨_,rfl,ash,rfl,⟨_,SqL.of hsh⟩,fun D hD => (let Iv : Nat → List V → L2.St → Hp → Prop := fun i ys τ H' => ∃ a,And4 (τ = [a,some (.ref asl)]) (Same H H') (H' D = some (.lst ys)) (Paired (IsS H') ys ((allOf sh sl).take i)); lc_list (xs := iv sh) Iv
        ⟨none,rfl,same_new hD,upd_same,.nil⟩ (fun i ys τ H' _ zz1 => by obtain ⟨_,_,s',h',_⟩ := zz1; exact ⟨h',SqL.of (s' _ _ hsh)⟩) ?_ ?_)⟩
      · rintro i x ys τ H' hx ⟨a,rfl,s1,hd1,hp1⟩
        obtain ⟨n,hn,rfl⟩ := at_iv hx
        refine lcN ?_
        have hil : i < sh.length := (List.getElem?_eq_some_iff.mp hn).1
        have hyl : ys.length ≤ sh.length := by rw [pr_len hp1,List.length_take,allOf_len]; (first | ((try clear hlen); (try clear hsh); omega) | omega)
        refine ⟨_,rfl,_,rfl,asl,_,_,_,rfl,rfl,SqL.of (s1 _ _ hsl),atI_nat h0x,a0,_,_,_,rfl,rfl,SqT.of (s1 _ _ ha0),rfl,_,rfl,_,rfl,asl,_,_,_,rfl,rfl,SqL.of (s1 _ _ hsl),atI_lastq hzx,z0,_,_,_,rfl,rfl,SqT.of (s1 _ _ hz0),rfl,(by show 3 ≤ sizeLine; decide),fun t ht => ⟨?_,small (by first | decide | (first | ((try clear hil); (try clear hsh); omega) | omega)),?_⟩⟩
        · rw [upd_ne (ne_of_none hd1 ht)]; exact hd1
        · have hdt : D ≠ t := ne_of_none hd1 ht
          refine ⟨_,rfl,same_off (s1.trans (same_new ht)) hD,upd_same,?_⟩
          rw [allOf_take hn hh hl]
          refine pr_app (pr_tps tS hp1 ((Tps.new ht).trans (Tps.lst (by rw [upd_ne hdt]; exact hd1)))) (.cons ⟨t,rfl,?_⟩ .nil)
          rw [upd_ne hdt.symm,upd_same]
      · rintro ys τ H' ⟨a,rfl,s1,hd1,hp1⟩
        rw [iv_len,List.take_of_length_le (by rw [allOf_len]; exact Nat.le_refl _)] at hp1
        exact kq D ys H' s1 hD hd1 hp1
    · refine .inr ⟨_,rfl,ash,rfl,⟨_,SqT.of hsh⟩,fun D hD => (let Iv : Nat → List V → L2.St → Hp → Prop := fun i ys τ H' => ∃ a,And4 (τ = [a,some (.ref asl)]) (Same H H') (H' D = some (.lst ys)) (Paired (IsS H') ys ((allOf sh sl).take i)); lc_tup (xs := iv sh) Iv
        ⟨none,rfl,same_new hD,upd_same,.nil⟩ (fun i ys τ H' _ zz1 => by obtain ⟨_,_,s',h',_⟩ := zz1; exact ⟨h',SqT.of (s' _ _ hsh)⟩) ?_ ?_)⟩
      · rintro i x ys τ H' hx ⟨a,rfl,s1,hd1,hp1⟩
        obtain ⟨n,hn,rfl⟩ := at_iv hx
        refine lcN ?_
        have hil : i < sh.length := (List.getElem?_eq_some_iff.mp hn).1
        have hyl : ys.length ≤ sh.length := by rw [pr_len hp1,List.length_take,allOf_len]; (first | ((try clear hlen); (try clear hsh); omega) | omega)
        refine ⟨_,rfl,_,rfl,asl,_,_,_,rfl,rfl,SqL.of (s1 _ _ hsl),atI_nat h0x,a0,_,_,_,rfl,rfl,SqT.of (s1 _ _ ha0),rfl,_,rfl,_,rfl,asl,_,_,_,rfl,rfl,SqL.of (s1 _ _ hsl),atI_lastq hzx,z0,_,_,_,rfl,rfl,SqT.of (s1 _ _ hz0),rfl,(by show 3 ≤ sizeLine; decide),fun t ht => ⟨?_,small (by first | decide | (first | ((try clear hil); (try clear hsh); omega) | omega)),?_⟩⟩
        · rw [upd_ne (ne_of_none hd1 ht)]; exact hd1
        · have hdt : D ≠ t := ne_of_none hd1 ht
          refine ⟨_,rfl,same_off (s1.trans (same_new ht)) hD,upd_same,?_⟩
          rw [allOf_take hn hh hl]
          refine pr_app (pr_tps tS hp1 ((Tps.new ht).trans (Tps.lst (by rw [upd_ne hdt]; exact hd1)))) (.cons ⟨t,rfl,?_⟩ .nil)
          rw [upd_ne hdt.symm,upd_same]
      · rintro ys τ H' ⟨a,rfl,s1,hd1,hp1⟩
        rw [iv_len,List.take_of_length_le (by rw [allOf_len]; exact Nat.le_refl _)] at hp1
        exact kq D ys H' s1 hD hd1 hp1
theorem ok_shapes_of {f : Addr} {fd : FuncData} (D : Dn K mg "shapes_of" s_shapes_of ["slots"] f fd) (T : Txt mg) :
    FnOk P w K mg base CX0 1 f fd ["slots"] spShapesOf := by
  refine D.F.ok (k := 0) sc_shapes_of (fun vs H Q E h => ?_) (fun cdv A outer s H vs Q E hr h => ?_)
  · obtain ⟨vsl,sl,rfl,⟨asl,xsl,rfl,hsl,hpsl⟩,hlen,kq⟩ := h
    rfl
  · obtain ⟨vsl,sl,rfl,⟨asl,xsl,rfl,hsl,hpsl⟩,hlen,kq⟩ := h
    refine ⟨_,(pss_one (ps_ret (pe_lc ["slot"] [] rfl (pi_list0 (pv 0)) (fun _ _ _ _ => ⟨(pg_name (i := 0) (by exact (show (["slot"] : List Str).Nodup by decide +kernel)) rfl (by first | exact Or.inl rfl | exact Or.inr rfl)),pts_nil,(pe_ix ix_tup0 (pv 0) (by exact pe_gint (by rfl) T.c_SHAPE) (fun _ _ => rfl))⟩)))),?_⟩
    refine ⟨_,rfl,asl,rfl,⟨_,SqL.of hsl⟩,fun D hD => (let Iv : Nat → List V → L2.St → Hp → Prop := fun i ys τ H' => ∃ a,And4 (τ = [a]) (Same H H') (H' D = some (.lst ys)) (ys = iv ((shp sl).take i)); lc_list (xs := xsl) Iv
      ⟨none,rfl,same_new hD,upd_same,rfl⟩ (fun i ys τ H' _ zz1 => by obtain ⟨_,_,s',h',_⟩ := zz1; exact ⟨h',SqL.of (s' _ _ hsl)⟩) ?_ ?_)⟩
    · rintro i x ys τ H' hx ⟨a,rfl,s1,hd1,rfl⟩
      obtain ⟨d,hd,ad,rfl,had⟩ := pr_get hpsl hx
      refine lcN ?_
      have hil : i < sl.length := (List.getElem?_eq_some_iff.mp hd).1
      refine ⟨_,rfl,ad,_,_,_,rfl,rfl,SqT.of (s1 _ _ had),rfl,hd1,small (by rw [iv_len,List.length_take,shp_len]; omega),?_⟩
      exact ⟨_,rfl,same_off s1 hD,upd_same,(shp_take hd).symm⟩
    · rintro ys τ H1 ⟨a,rfl,s1,hd1,rfl⟩
      have hxl : xsl.length = sl.length := pr_len hpsl
      have hall : (shp sl).take xsl.length = shp sl := List.take_of_length_le (by rw [shp_len,hxl]; exact Nat.le_refl _)
      rw [hall] at hd1
      exact kq D H1 s1 hD hd1
theorem ok_melted {f : Addr} {fd : FuncData} {f_chains : Addr} {fd_chains : FuncData} {f_all_of : Addr} {fd_all_of : FuncData} {f_shapes_of : Addr} {fd_shapes_of : FuncData} (D : Dn K mg "melted" s_melted ["slots"] f fd) (T : Txt mg)
    (D_chains : Dn K mg "chains" s_chains ["slots"] f_chains fd_chains) (G_chains : FnOk P w K mg base CX0 1 f_chains fd_chains ["slots"] spChains)
    (D_all_of : Dn K mg "all_of" s_all_of ["shapes","slots"] f_all_of fd_all_of) (G_all_of : FnOk P w K mg base CX0 1 f_all_of fd_all_of ["shapes","slots"] spAllOf)
    (D_shapes_of : Dn K mg "shapes_of" s_shapes_of ["slots"] f_shapes_of fd_shapes_of) (G_shapes_of : FnOk P w K mg base CX0 1 f_shapes_of fd_shapes_of ["slots"] spShapesOf) :
    FnOk P w K mg base CX0 2 f fd ["slots"] spMelted := by
  refine D.F.ok (k := 1) sc_melted (fun vs H Q E h => ?_) (fun cdv A outer s H vs Q E hr h => ?_)
  · obtain ⟨vsl,sl,rfl,hsl0,hlen,kq⟩ := h
    rfl
  · obtain ⟨vsl,sl,rfl,hsl0,hlen,kq⟩ := h
    refine ⟨_,(pss_cons (ps_set (i := 1) sc_melted.nd rfl (by first | exact Or.inl rfl | exact Or.inr rfl) (pe_lst pa_nil))
       (pss_cons (ps_for PassesOwn.never rfl (pi_list0 (pe_call G_chains (hr.mono (by decide)) (by rfl) D_chains.m D_chains.F.kp D_chains.b .nil pass0 (pa_cons (pv 0) pa_nil))) (pg_name (i := 2) sc_melted.nd rfl (by first | exact Or.inl rfl | exact Or.inr rfl))
       (pss_one (ps_expr (pe_bmZ PySem.F.plainAttrs_list PySem.F.slot_list_extend PySem.F.type_list_extend mt_extend (pv 1) (pa_cons (pe_call G_all_of (hr.mono (by decide)) (by rfl) D_all_of.m D_all_of.F.kp D_all_of.b .nil pass0 (pa_cons (pe_call G_shapes_of (hr.mono (by decide)) (by rfl) D_shapes_of.m D_shapes_of.F.kp D_shapes_of.b .nil pass0 (pa_cons (pv 2) pa_nil)) (pa_cons (pv 2) pa_nil))) pa_nil)))))
       (pss_one (ps_ret (pv 1))))),?_⟩
    refine ⟨Nat.zero_le _,fun nw hnw => ?_⟩
    have s0 : Same H (upd H nw (.lst [])) := same_new hnw
    refine ⟨_,rfl,_,sl,rfl,hsl0.same tS s0,(by first | decide | omega),fun p cs H1 s1 hp hp1 hpc => ?_⟩
    have s01 : Same H H1 := s0.trans s1
    have hnw1 : H1 nw = some (.lst []) := s1 _ _ upd_same
    have hpn : H p = none := s0.free hp
    have hpnw : p ≠ nw := fun q => by rw [q,upd_same] at hp; cases hp
    refine ⟨p,rfl,⟨_,SqL.of hp1⟩,(let Iv : Nat → L2.St → Hp → Prop := fun i σ H' => Ex2 fun cv ys => And5 (σ = [some vsl,some (.ref nw),cv]) (Same (upd H1 nw (.lst [])) (upd H' nw (.lst []))) (Same H H') (H' nw = some (.lst ys)) (Paired (IsS H') ys (meltG ((grp sl).take i))); for_list (xs := cs) Iv
      ⟨none,[],rfl,fun _ _ e => e,s01,hnw1,.nil⟩ (fun i σ H' _ zz1 => by obtain ⟨_,_,_,s',_⟩ := zz1; exact SqL.of (by have := s' p _ (by rw [upd_ne hpnw]; exact hp1); rw [upd_ne hpnw] at this; exact this)) ?_ ?_)⟩
    · rintro i x σ H' hx ⟨cv,ys,rfl,s2,s02,hn2,hp2⟩
      obtain ⟨c,hc,hsl⟩ := pr_get hpc hx
      have hcg : c ∈ grp sl := List.mem_of_getElem? hc
      have hcne : c ≠ [] := grp_nonempty _ c hcg
      have hcl : c.length ≤ sl.length := grp_mem_len hcg
      have hil : i < (grp sl).length := (List.getElem?_eq_some_iff.mp hc).1
      obtain ⟨ac,zs,rfl,hac,hzs⟩ := hsl
      have nacw : ac ≠ nw := fun q => by
        rw [q,hnw1] at hac
        injection hac with e; injection e with e
        rw [← e] at hzs; cases hzs; exact hcne rfl
      have keep : ∀ b o,H1 b = some o → b ≠ nw → H' b = some o := fun b o e hb => by
        have := s2 b o (by rw [upd_ne hb]; exact e)
        rw [upd_ne hb] at this; exact this
      have tp : Tps H1 H' := fun b xs e => keep b _ e (fun q => by rw [q,hnw1] at e; cases e)
      have hac2 := keep _ _ hac nacw
      have isc : IsSlots H' (.ref ac) c := ⟨ac,zs,rfl,hac2,pr_tps tS hzs tp⟩
      refine ⟨_,rfl,.inl ⟨rfl,_,SqL.of hn2⟩,_,rfl,_,c,rfl,isc,(by first | decide | (first | ((try clear hil); omega) | omega)),fun D H3 s3 hD hD3 => ?_⟩
      refine ⟨_,rfl,_,_,shp c,c,rfl,.inl ⟨D,rfl,hD3⟩,isc.same tS s3,hcne,(by rw [shp_len]; (first | ((try clear hil); omega) | omega)),fun q zs2 H4 s4 hq hq4 hpz => ?_⟩
      have s34 : Same H' H4 := s3.trans s4
      have hn4 := s34 _ _ hn2
      have hyl : ys.length = (meltG ((grp sl).take i)).length := pr_len hp2
      have hzl : zs2.length = (allOf (shp c) c).length := pr_len hpz
      have hml := meltG_take_len sl i
      refine ⟨nw,q,ys,zs2,rfl,rfl,hn4,hq4,small' (by rw [hyl,hzl,allOf_len,shp_len]; (first | ((try clear hzl); (try clear hyl); (try clear hil); omega) | omega)),?_⟩
      refine ⟨_,_,rfl,fun b o e => ?_,same_off (s02.trans s34) hnw,upd_same,?_⟩
      · by_cases hb : b = nw
        · rw [hb,upd_same] at e ⊢; exact e
        · rw [upd_ne hb,upd_ne hb]
          rw [upd_ne hb] at e
          exact s34 _ _ (keep b o e hb)
      · rw [take_snoc hc,meltG_snoc]
        exact pr_app (pr_tps tS hp2 ((tps_of s34).trans (Tps.lst hn4))) (pr_tps tS hpz (Tps.lst hn4))
    · rintro σ H' ⟨cv,ys,rfl,s2,s02,hn2,hp2⟩
      have hcl : cs.length = (grp sl).length := pr_len hpc
      rw [List.take_of_length_le (by first | decide | (first | ((try clear hlen); omega) | omega))] at hp2
      exact ⟨_,rfl,kq nw ys H' s02 hnw hn2 hp2⟩
theorem ok_stands {f : Addr} {fd : FuncData} (D : Dn K mg "stands" s_stands ["part","shapes","at"] f fd) (T : Txt mg) :
    FnOk P w K mg base CX0 1 f fd ["part","shapes","at"] spStands := by
  refine D.F.ok (k := 0) sc_stands (fun vs H Q E h => ?_) (fun cdv A outer s H vs Q E hr h => ?_)
  · obtain ⟨vp,vsh,k,p,sh,rfl,⟨ap,rfl,hp⟩,⟨ash,rfl,hsh⟩,kq⟩ := h
    rfl
  · obtain ⟨vp,vsh,k,p,sh,rfl,⟨ap,rfl,hp⟩,⟨ash,rfl,hsh⟩,kq⟩ := h
    refine ⟨_,(pss_one (ps_ret (pe_and (pe_cmpR op_ge (pv 2) pe_int (nomark _)) (pe_one (pe_cmpR (op_eqS0 (units30 hr)) (pe_callTy call_tuple_of0 (by rfl) T.n_tuple boot_tuple (pa_cons (pe_slice sl_list0 (pv 1) (po_some (pv 2)) (po_some (pe_op op_add (pv 2) (pe_callB call_len_seq0 (by rfl) T.n_len PySem.boot_len (pa_cons (pv 0) pa_nil))))) pa_nil)) (pv 0) (nomark _)))))),?_⟩
    refine ⟨_,rfl,_,_,rfl,rfl,_,rfl,?_⟩
    refine ite2 (fun h0 => ?_) (fun h0 => ?_)
    · refine ⟨_,rfl,_,rfl,_,rfl,_,rfl,_,rfl,ap,_,rfl,.inr (SqT.of hp),_,_,rfl,rfl,_,rfl,ash,_,rfl,SqL.of hsh,fun q hq => ?_⟩
      refine ⟨q,_,rfl,.inl ⟨SqL.of upd_same,fun t ht => ?_⟩⟩
      have h0' : 0 ≤ k := by simpa using h0
      have e : cutV (iv sh) (some k) (some (k + ((iv p).length : Int))) = iv ((sh.drop k.toNat).take p.length) := by
        obtain ⟨n,rfl⟩ : ∃ n : Nat,k = (n : Int) := ⟨k.toNat,by omega⟩
        rw [show (n : Int) + ((iv p).length : Int) = ((n + (iv p).length : Nat) : Int) by (first | ((try clear h0'); omega) | omega),cutV_nn,List.length_map,Nat.add_sub_cancel_left,Int.toNat_natCast,iv_take,iv_drop]
      have hap : (upd H q (.lst (cutV (iv sh) (some k) (some (k + ((iv p).length : Int)))))) ap = some (.tup (iv p)) := by rw [upd_ne (ne_of_none hp hq)]; exact hp
      have ne : t ≠ ap := (ne_of_none hap ht).symm
      refine ⟨_,rfl,1,t,ap,_,rfl,rfl,ne,by decide,eqT ne (by rw [upd_same,e]) (by rw [upd_ne ne.symm]; exact hap),?_⟩
      have es : standsB p sh k = decide ((sh.drop k.toNat).take p.length = p) := by
        unfold standsB
        rw [h0,Bool.true_and]
      rw [es] at kq
      exact kq _ ((same_new hq).trans (same_new ht))
    · have := kq H (Same.refl H)
      unfold standsB at this
      rw [show decide (0 ≤ k) = false from by simpa using h0,Bool.false_and] at this
      exact this
theorem ok_fits {f : Addr} {fd : FuncData} {f_stands : Addr} {fd_stands : FuncData} (D : Dn K mg "fits" s_fits ["rule","shapes","at"] f fd) (T : Txt mg)
    (D_stands : Dn K mg "stands" s_stands ["part","shapes","at"] f_stands fd_stands) (G_stands : FnOk P w K mg base CX0 1 f_stands fd_stands ["part","shapes","at"] spStands) :
    FnOk P w K mg base CX0 2 f fd ["rule","shapes","at"] spFits := by
  refine D.F.ok (k := 1) sc_fits (fun vs H Q E h => ?_) (fun cdv A outer s H vs Q E hr h => ?_)
  · obtain ⟨vr,vsh,k,r,sh,rfl,⟨ar,vb,vt,va,vg,rfl,hr4,hb,ht,ha,hg⟩,⟨ash,rfl,hsh⟩,kq⟩ := h
    rfl
  · obtain ⟨vr,vsh,k,r,sh,rfl,⟨ar,vb,vt,va,vg,rfl,hr4,hb,ht,ha,hg⟩,⟨ash,rfl,hsh⟩,kq⟩ := h
    refine ⟨_,(pss_cons (ps_set (i := 3) sc_fits.nd rfl (by first | exact Or.inl rfl | exact Or.inr rfl) (pe_ix ix_tup0 (pv 0) (pe_gint (by rfl) T.c_BEHIND) (fun _ _ => rfl)))
       (pss_cons (ps_set (i := 4) sc_fits.nd rfl (by first | exact Or.inl rfl | exact Or.inr rfl) (pe_ix ix_tup0 (pv 0) (pe_gint (by rfl) T.c_TAKE) (fun _ _ => rfl)))
       (pss_cons (ps_if (pw_or (pt_cmpR op_eq (pe_callB call_len_seq0 (by rfl) T.n_len PySem.boot_len (pa_cons (pv 4) pa_nil)) pe_int (nomark _)) (pw_or1 (pt_not (pt_val (pe_call G_stands (hr.mono (by decide)) (by rfl) D_stands.m D_stands.F.kp D_stands.b .nil pass0 (pa_cons (pv 4) (pa_cons (pv 1) (pa_cons (pv 2) pa_nil)))))))).pt
       (pss_one (ps_ret pe_bl))
       pss_nil)
       (pss_one (ps_ret (pe_and (pe_call G_stands (hr.mono (by decide)) (by rfl) D_stands.m D_stands.F.kp D_stands.b .nil pass0 (pa_cons (pv 3) (pa_cons (pv 1) (pa_cons (pe_op op_sub (pv 2) (pe_callB call_len_seq0 (by rfl) T.n_len PySem.boot_len (pa_cons (pv 3) pa_nil))) pa_nil)))) (pe_one (pe_call G_stands (hr.mono (by decide)) (by rfl) D_stands.m D_stands.F.kp D_stands.b .nil pass0 (pa_cons (pe_ix ix_tup0 (pv 0) (pe_gint (by rfl) T.c_AHEAD) (fun _ _ => rfl)) (pa_cons (pv 1) (pa_cons (pe_op op_add (pv 2) (pe_callB call_len_seq0 (by rfl) T.n_len PySem.boot_len (pa_cons (pv 4) pa_nil))) pa_nil))))))))))),?_⟩
    obtain ⟨ab,rfl,hb'⟩ := id hb
    obtain ⟨at',rfl,ht'⟩ := id ht
    refine ⟨_,rfl,ar,_,_,_,rfl,rfl,SqT.of hr4,rfl,?_⟩
    refine ⟨_,rfl,ar,_,_,_,rfl,rfl,SqT.of hr4,rfl,?_⟩
    refine ⟨_,rfl,at',_,rfl,.inr (SqT.of ht'),rfl,_,rfl,?_⟩
    have hlen : (decide (V.int ((iv r.t).length : Int) = V.int 0)) = (r.t.length == 0) := by
      rw [dec_int,List.length_map]
      cases r.t.length <;> rfl
    rw [hlen]
    refine ite2 (fun h0 => ?_) (fun h0 => ?_)
    · refine iteT ?_
      have := kq H (Same.refl H)
      unfold fitB at this
      rw [h0] at this
      exact this
    · have h0' : (r.t.length == 0) = false := by simpa using h0
      refine ⟨_,rfl,_,rfl,_,rfl,_,_,_,r.t,sh,rfl,ht,⟨ash,rfl,hsh⟩,fun H1 s1 => ⟨_,rfl,?_⟩⟩
      refine ite2 (fun h1 => ?_) (fun h1 => ?_)
      · have := kq H1 s1
        unfold fitB at this
        rw [h0',show standsB r.t sh (k : Int) = false from by simpa using h1] at this
        exact this
      · have h1' : standsB r.t sh (k : Int) = true := by simpa using h1
        refine ⟨_,rfl,_,rfl,_,rfl,_,rfl,ab,_,rfl,.inr (SqT.of (s1 _ _ hb')),_,_,rfl,rfl,_,_,_,r.b,sh,rfl,hb.tps (tps_of s1),⟨ash,rfl,s1 _ _ hsh⟩,fun H2 s2 => ⟨_,rfl,?_⟩⟩
        have s12 : Same H H2 := s1.trans s2
        refine ite2 (fun h2 => ?_) (fun h2 => ?_)
        · refine ⟨_,rfl,ar,_,_,_,rfl,rfl,SqT.of (s12 _ _ hr4),rfl,_,rfl,_,rfl,_,rfl,at',_,rfl,.inr (SqT.of (s12 _ _ ht')),_,_,rfl,rfl,_,_,_,r.a,sh,rfl,ha.tps (tps_of s12),⟨ash,rfl,s12 _ _ hsh⟩,fun H3 s3 => ?_⟩
          have := kq H3 (s12.trans s3)
          unfold fitB at this
          rw [List.length_map] at h2
          rw [h0',h1',h2] at this
          rw [List.length_map]
          exact this
        · have := kq H2 s12
          unfold fitB at this
          rw [List.length_map] at h2
          rw [h0',h1',show standsB r.b sh ((k : Int) - (r.b.length : Int)) = false from by simpa using h2] at this
          exact this
theorem ok_first_that_fits {f : Addr} {fd : FuncData} {f_fits : Addr} {fd_fits : FuncData} (D : Dn K mg "first_that_fits" s_first_that_fits ["rules","shapes","at"] f fd) (T : Txt mg)
    (D_fits : Dn K mg "fits" s_fits ["rule","shapes","at"] f_fits fd_fits) (G_fits : FnOk P w K mg base CX0 2 f_fits fd_fits ["rule","shapes","at"] spFits) :
    FnOk P w K mg base CX0 3 f fd ["rules","shapes","at"] spFirst := by
  refine D.F.ok (k := 2) sc_first_that_fits (fun vs H Q E h => ?_) (fun cdv A outer s H vs Q E hr h => ?_)
  · obtain ⟨vr,vsh,k,rs,sh,rfl,⟨ar,xs,rfl,hrs,hpr⟩,⟨ash,rfl,hsh⟩,kq⟩ := h
    rfl
  · obtain ⟨vr,vsh,k,rs,sh,rfl,⟨ar,xs,rfl,hrs,hpr⟩,⟨ash,rfl,hsh⟩,kq⟩ := h
    refine ⟨_,(pss_cons (ps_for PassesOwn.never rfl (pi_enum0 (by rfl) T.n_enumerate (pa_cons (pv 0) pa_nil)) (pg_tup0 (n := 2) rfl (pgs_cons (pg_name (i := 3) sc_first_that_fits.nd rfl (by first | exact Or.inl rfl | exact Or.inr rfl)) (pgs_cons (pg_name (i := 4) sc_first_that_fits.nd rfl (by first | exact Or.inl rfl | exact Or.inr rfl)) pgs_nil)))
       (pss_one (ps_if (pt_val (pe_call G_fits (hr.mono (by decide)) (by rfl) D_fits.m D_fits.F.kp D_fits.b .nil pass0 (pa_cons (pv 4) (pa_cons (pv 1) (pa_cons (pv 2) pa_nil)))))
       (pss_one (ps_ret (pv 3)))
       pss_nil)))
       (pss_one (ps_ret pe_non))),?_⟩
    refine ⟨_,rfl,ar,rfl,⟨_,SqL.of hrs⟩,(let Sg : (Option V) → (Option V) → L2.St := fun n r' => [some (.ref ar),some (.ref ash),some (.int (k : Int)),n,r']; let Iv : Nat → L2.St → Hp → Prop := fun i σ H' => Ex2 fun n r' => And3 (σ = Sg n r') (Same H H') (∀ j r',j < i → rs[j]? = some r' → fitB r' sh k = false); for_enum (xs := xs) Iv
      ⟨none,none,rfl,Same.refl H,fun j _ h => absurd h (Nat.not_lt_zero _)⟩ (fun i σ H' _ zz1 => by obtain ⟨_,_,_,s',_⟩ := zz1; exact SqL.of (s' _ _ hrs)) ?_ ?_)⟩
    · rintro i x σ H' p hx ⟨n,r',rfl,s1,hn⟩ hp
      obtain ⟨r,hr',hrule⟩ := pr_get hpr hx
      have s2 : Same H (upd H' p (.tup [.int (i : Int),x])) := s1.trans (same_new hp)
      refine ⟨p,_,rfl,SqT.of upd_same,rfl,_,_,rfl,_,_,rfl,rfl,?_⟩
      refine ⟨_,rfl,_,rfl,_,rfl,_,_,k,r,sh,rfl,hrule.tps (tps_of s2),⟨ash,rfl,s2 _ _ hsh⟩,fun H2 s3 => ⟨_,rfl,?_⟩⟩
      refine ite2 (fun hf => ?_) (fun hf => ?_)
      · refine ⟨_,rfl,?_⟩
        have := kq H2 (s2.trans s3)
        rw [firstFit_some hr' hf hn] at this
        exact this
      · refine ⟨_,_,rfl,s2.trans s3,fun j r'' hj e => ?_⟩
        by_cases hji : j = i
        · subst hji
          rw [hr'] at e
          rw [← Option.some.inj e]
          simpa using hf
        · exact hn j r'' (by first | decide | (first | ((try clear hf); omega) | omega)) e
    · rintro σ H' ⟨n,r',rfl,s1,hn⟩
      have := kq H' s1
      rw [firstFit_none fun j r' e => hn j r' (by have := (List.getElem?_eq_some_iff.mp e).1; rw [pr_len hpr]; exact this) e] at this
      exact this
theorem ok_doings {f : Addr} {fd : FuncData} {f_first_that_fits : Addr} {fd_first_that_fits : FuncData} (D : Dn K mg "doings" s_doings ["rules","shapes"] f fd) (T : Txt mg)
    (D_first_that_fits : Dn K mg "first_that_fits" s_first_that_fits ["rules","shapes","at"] f_first_that_fits fd_first_that_fits) (G_first_that_fits : FnOk P w K mg base CX0 3 f_first_that_fits fd_first_that_fits ["rules","shapes","at"] spFirst) :
    FnOk P w K mg base CX0 4 f fd ["rules","shapes"] spDoings := by
  refine D.F.ok (k := 3) sc_doings (fun vs H Q E h => ?_) (fun cdv A outer s H vs Q E hr h => ?_)
  · obtain ⟨vr,vsh,rs,sh,rfl,⟨ar,xs,rfl,hrs,hpr⟩,⟨ash,rfl,hsh⟩,ok,hlen,kq⟩ := h
    rfl
  · obtain ⟨vr,vsh,rs,sh,rfl,⟨ar,xs,rfl,hrs,hpr⟩,⟨ash,rfl,hsh⟩,ok,hlen,kq⟩ := h
    refine ⟨_,(pss_cons (ps_set (i := 2) sc_doings.nd rfl (by first | exact Or.inl rfl | exact Or.inr rfl) (pe_lst pa_nil))
       (pss_cons (ps_set (i := 3) sc_doings.nd rfl (by first | exact Or.inl rfl | exact Or.inr rfl) pe_int)
       (pss_cons (ps_while PassesOwn.never (pt_cmpR op_lt (pv 3) (pe_callB call_len_seq0 (by rfl) T.n_len PySem.boot_len (pa_cons (pv 1) pa_nil)) (nomark _))
       (pss_cons (ps_set (i := 4) sc_doings.nd rfl (by first | exact Or.inl rfl | exact Or.inr rfl) (pe_call G_first_that_fits (hr.mono (by decide)) (by rfl) D_first_that_fits.m D_first_that_fits.F.kp D_first_that_fits.b .nil pass0 (pa_cons (pv 0) (pa_cons (pv 1) (pa_cons (pv 3) pa_nil)))))
       (pss_one (ps_if (pt_cmp (pc_isN (pv 4)))
       (pss_one (ps_aug (i := 3) sc_doings.nd rfl (by first | exact Or.inl rfl | exact Or.inr rfl) pe_int ip_add))
       (pss_cons (ps_expr (pe_bmZ PySem.F.plainAttrs_list PySem.F.slot_list_append PySem.F.type_list_append mt_append (pv 2) (pa_cons (pe_tup (pa_cons (pv 3) (pa_cons (pv 4) pa_nil))) pa_nil)))
       (pss_one (ps_aug (i := 3) sc_doings.nd rfl (by first | exact Or.inl rfl | exact Or.inr rfl) (pe_callB call_len_seq0 (by rfl) T.n_len PySem.boot_len (pa_cons (pe_ix ix_tup0 (pe_ix ix_list0 (pv 0) (pv 4) (fun _ _ => rfl)) (pe_gint (by rfl) T.c_TAKE) (fun _ _ => rfl)) pa_nil)) ip_add)))))))
       (pss_one (ps_ret (pv 2)))))),?_⟩
    refine ⟨Nat.zero_le _,fun d hd => ?_⟩
    let Wv : Nat → L2.St → Hp → Prop := fun m τ H' => Ex4 fun (k : Nat) (nv : Option V) (ys : List V) (acc : List (Nat × Nat)) => And7 (τ = [some (.ref ar),some (.ref ash),some (.ref d),some (.int (k : Int)),nv]) (m = sh.length - k) (Same H H') (H' d = some (.lst ys)) (Paired (IsP H') ys acc) (acc ++ doer rs sh k = doer rs sh 0) (acc.length ≤ k)
    refine ⟨Wv,⟨_,0,none,[],[],rfl,rfl,same_new hd,upd_same,.nil,rfl,Nat.le_refl _⟩,?_⟩
    rintro m τ H' ⟨k,nv,ys,acc,rfl,rfl,s1,hd1,hp1,e1,hl1⟩
    have hsh1 := s1 _ _ hsh
    refine ⟨_,rfl,_,rfl,ash,_,rfl,.inl (SqL.of hsh1),_,_,rfl,rfl,_,rfl,?_⟩
    refine ite2 (fun h0 => ⟨_,fun _ _ h => h,?_⟩) (fun h0 => ?_)
    · have hk : k < sh.length := by
        rw [iv_len] at h0
        simpa using h0
      refine ⟨_,rfl,_,rfl,_,rfl,_,_,k,rs,sh,rfl,⟨ar,xs,rfl,s1 _ _ hrs,pr_tps tR hpr (tps_of s1)⟩,⟨ash,rfl,hsh1⟩,fun H2 s2 => ?_⟩
      have s12 := s1.trans s2
      cases e : firstFit rs sh k with
      | none =>
        refine ⟨_,rfl,_,rfl,iteT ?_⟩
        refine ⟨_,rfl,_,_,rfl,rfl,sh.length - (k + 1),by (first | ((try clear hl1); (try clear hlen); omega) | omega),k + 1,_,ys,acc,rfl,rfl,s12,s2 _ _ hd1,pr_tps tP hp1 (tps_of s2),?_,by (first | ((try clear hk); (try clear hlen); omega) | omega)⟩
        rw [← doer_none hk e]; exact e1
      | some j =>
        obtain ⟨t1,t2,t3⟩ := first_fits e
        obtain ⟨r,hr',_⟩ := first_some e
        obtain ⟨x,hx,hrule⟩ := pr_got hpr hr'
        obtain ⟨ax,vb,vt,va,vg,rfl,hx4,_,ht,_,_⟩ := hrule
        obtain ⟨at',rfl,ht'⟩ := ht
        refine ⟨_,rfl,_,rfl,iteF ?_⟩
        have hd2 := s2 _ _ hd1
        refine ⟨_,rfl,.inl ⟨rfl,_,SqL.of hd2⟩,_,rfl,_,rfl,(by show 2 ≤ sizeLine; decide),fun t ht2 => ?_⟩
        have hdt : d ≠ t := ne_of_none hd2 ht2
        have hyl : ys.length = acc.length := pr_len hp1
        refine ⟨d,ys,_,rfl,rfl,(by rw [upd_ne hdt]; exact hd2),small (by first | decide | (first | ((try clear t3); (try clear hk); omega) | omega)),?_⟩
        have s3 : Same H (upd (upd H2 t (.tup [.int (k : Int),.int (j : Int)])) d (.lst (ys ++ [.ref t]))) := same_off (s12.trans (same_new ht2)) hd
        refine ⟨_,rfl,_,rfl,_,rfl,ar,_,_,_,rfl,rfl,SqL.of (s3 _ _ hrs),atI_nat hx,ax,_,_,_,rfl,rfl,SqT.of (s3 _ _ hx4),rfl,at',_,rfl,.inr (SqT.of (s3 _ _ ht')),_,_,rfl,rfl,?_⟩
        have htl : tl rs j = r.t.length := tl_of hr'
        refine ⟨sh.length - (k + tl rs j),by (first | ((try clear hyl); (try clear t3); (try clear hl1); (try clear hlen); omega) | omega),k + tl rs j,some (vOpt (some j)),ys ++ [.ref t],acc ++ [(k,j)],?_,rfl,s3,upd_same,?_,?_,?_⟩
        · rw [iv_len,htl]; rfl
        · have tp : Tps H2 (upd (upd H2 t (.tup [.int (k : Int),.int (j : Int)])) d (.lst (ys ++ [.ref t]))) := fun b zs q => by
            rw [upd_ne (fun z => by rw [z,hd2] at q; cases q),upd_ne (ne_of_none q ht2)]; exact q
          refine pr_app (pr_tps tP hp1 ((tps_of s2).trans tp)) (.cons ⟨t,rfl,?_⟩ .nil)
          rw [upd_ne hdt.symm,upd_same]; rfl
        · rw [List.append_assoc]
          show acc ++ ((k,j) :: doer rs sh (k + tl rs j)) = _
          rw [← doer_some hk e t1]; exact e1
        · rw [List.length_append,List.length_singleton]; (first | ((try clear t3); (try clear t2); (try clear hk); (try clear hlen); omega) | omega)
    · have hk : sh.length ≤ k := by
        rw [iv_len] at h0
        have : ¬ (k : Int) < (sh.length : Int) := by simpa using h0
        (first | ((try clear h0); (try clear hl1); (try clear hlen); omega) | omega)
      rw [doer_end hk,List.append_nil] at e1
      rw [e1] at hp1
      exact ⟨_,rfl,kq d ys H' s1 hd hd1 hp1⟩
theorem ok_passed_slots {f : Addr} {fd : FuncData} {f_doings : Addr} {fd_doings : FuncData} {f_shapes_of : Addr} {fd_shapes_of : FuncData} {f_all_of : Addr} {fd_all_of : FuncData} (D : Dn K mg "passed_slots" s_passed_slots ["rules","slots"] f fd) (T : Txt mg)
    (D_doings : Dn K mg "doings" s_doings ["rules","shapes"] f_doings fd_doings) (G_doings : FnOk P w K mg base CX0 4 f_doings fd_doings ["rules","shapes"] spDoings)
    (D_shapes_of : Dn K mg "shapes_of" s_shapes_of ["slots"] f_shapes_of fd_shapes_of) (G_shapes_of : FnOk P w K mg base CX0 1 f_shapes_of fd_shapes_of ["slots"] spShapesOf)
    (D_all_of : Dn K mg "all_of" s_all_of ["shapes","slots"] f_all_of fd_all_of) (G_all_of : FnOk P w K mg base CX0 1 f_all_of fd_all_of ["shapes","slots"] spAllOf) :
    FnOk P w K mg base CX0 5 f fd ["rules","slots"] spPassedSlots := by
  refine D.F.ok (k := 4) sc_passed_slots (fun vs H Q E h => ?_) (fun cdv A outer s H vs Q E hr h => ?_)
  · obtain ⟨vr,vsl,rs,sl,rfl,⟨ar,xrs,rfl,hrs,hprs⟩,⟨asl,xsl,rfl,hsl,hpsl⟩,ok,hlen,kq⟩ := h
    rfl
  · obtain ⟨vr,vsl,rs,sl,rfl,⟨ar,xrs,rfl,hrs,hprs⟩,⟨asl,xsl,rfl,hsl,hpsl⟩,ok,hlen,kq⟩ := h
    refine ⟨_,(pss_cons (ps_set (i := 2) sc_passed_slots.nd rfl (by first | exact Or.inl rfl | exact Or.inr rfl) (pe_lst pa_nil))
       (pss_cons (ps_set (i := 3) sc_passed_slots.nd rfl (by first | exact Or.inl rfl | exact Or.inr rfl) pe_int)
       (pss_cons (ps_for PassesOwn.never rfl (pi_list0 (pe_call G_doings (hr.mono (by decide)) (by rfl) D_doings.m D_doings.F.kp D_doings.b .nil pass0 (pa_cons (pv 0) (pa_cons (pe_call G_shapes_of (hr.mono (by decide)) (by rfl) D_shapes_of.m D_shapes_of.F.kp D_shapes_of.b .nil pass0 (pa_cons (pv 1) pa_nil)) pa_nil)))) (pg_tup0 (n := 2) rfl (pgs_cons (pg_name (i := 4) sc_passed_slots.nd rfl (by first | exact Or.inl rfl | exact Or.inr rfl)) (pgs_cons (pg_name (i := 5) sc_passed_slots.nd rfl (by first | exact Or.inl rfl | exact Or.inr rfl)) pgs_nil)))
       (pss_cons (ps_expr (pe_bmZ PySem.F.plainAttrs_list PySem.F.slot_list_extend PySem.F.type_list_extend mt_extend (pv 2) (pa_cons (pe_slice sl_list0 (pv 1) (po_some (pv 3)) (po_some (pv 4))) pa_nil)))
       (pss_cons (ps_set (i := 3) sc_passed_slots.nd rfl (by first | exact Or.inl rfl | exact Or.inr rfl) (pe_op op_add (pv 4) (pe_callB call_len_seq0 (by rfl) T.n_len PySem.boot_len (pa_cons (pe_ix ix_tup0 (pe_ix ix_list0 (pv 0) (pv 5) (fun _ _ => rfl)) (pe_gint (by rfl) T.c_TAKE) (fun _ _ => rfl)) pa_nil))))
       (pss_one (ps_expr (pe_bmZ PySem.F.plainAttrs_list PySem.F.slot_list_extend PySem.F.type_list_extend mt_extend (pv 2) (pa_cons (pe_call G_all_of (hr.mono (by decide)) (by rfl) D_all_of.m D_all_of.F.kp D_all_of.b .nil pass0 (pa_cons (pe_ix ix_tup0 (pe_ix ix_list0 (pv 0) (pv 5) (fun _ _ => rfl)) (pe_gint (by rfl) T.c_GIVE) (fun _ _ => rfl)) (pa_cons (pe_slice sl_list0 (pv 1) (po_some (pv 4)) (po_some (pv 3))) pa_nil))) pa_nil)))))))
       (pss_cons (ps_expr (pe_bmZ PySem.F.plainAttrs_list PySem.F.slot_list_extend PySem.F.type_list_extend mt_extend (pv 2) (pa_cons (pe_slice sl_list0 (pv 1) (po_some (pv 3)) po_none) pa_nil)))
       (pss_one (ps_ret (pv 2))))))),?_⟩
    refine ⟨Nat.zero_le _,fun nw hnw => ?_⟩
    have s0 : Same H (upd H nw (.lst [])) := same_new hnw
    refine ⟨_,rfl,_,rfl,_,sl,rfl,⟨asl,xsl,rfl,s0 _ _ hsl,pr_tps tS hpsl (tps_of s0)⟩,(by first | decide | omega),fun D H1 s1 hD hd1 => ?_⟩
    have hxl : xsl.length = sl.length := pr_len hpsl
    have s01 : Same H H1 := s0.trans s1
    refine ⟨_,_,rs,shp sl,rfl,⟨ar,xrs,rfl,s01 _ _ hrs,pr_tps tR hprs (tps_of s01)⟩,⟨D,rfl,hd1⟩,ok,(by rw [shp_len]; exact hlen),fun p ds H2 s2 hp hp2 hpd => ?_⟩
    have s02 : Same H H2 := s01.trans s2
    have hnw2 : H2 nw = some (.lst []) := s2 _ _ (s1 _ _ upd_same)
    have al0 := doer_along (rules := rs) (sh := shp sl) _ 0 (Nat.le_refl _)
    rw [shp_len] at al0
    have plen := passed_len (rules := rs) (slots := sl) ok
    have hpn : H p = none := s01.free hp
    have hpnw : p ≠ nw := fun q => by
      have := s1 _ _ (upd_same (H := H) (a := nw) (o := .lst []))
      rw [q] at hp
      rw [hp] at this; cases this
    refine ⟨p,rfl,⟨_,SqL.of hp2⟩,(let Sg : (Nat) → (Option V) → (Option V) → L2.St := fun r av nv => [some (.ref ar),some (.ref asl),some (.ref nw),some (.int (r : Int)),av,nv]; let Iv : Nat → L2.St → Hp → Prop := fun i τ H' => Ex5 fun (r : Nat) (av nv : Option V) (ys : List V) (acc : List Slot) => And9 (τ = Sg r av nv) (Same H H') (H' nw = some (.lst ys)) (H' p = some (.lst ds)) (Paired (IsP H') ds (doer rs (shp sl) 0)) (Paired (IsS H') ys acc) (acc ++ psl rs sl ((doer rs (shp sl) 0).drop i) r = passedSlots rs sl) (Along rs sl.length r ((doer rs (shp sl) 0).drop i)) (r ≤ sl.length); for_list (xs := ds) Iv
      ⟨0,none,none,[],[],rfl,s02,hnw2,hp2,hpd,.nil,rfl,al0,Nat.zero_le _⟩ (fun i τ H' _ zz1 => by obtain ⟨_,_,_,_,_,_,_,_,h',_⟩ := zz1; exact SqL.of h') ?_ ?_)⟩
    · rintro i x τ H' hx ⟨r,av,nv,ys,acc,rfl,t1,n1,p1,pd1,py1,e1,al1,hr1⟩
      obtain ⟨⟨k,j⟩,hd,ad,rfl,had⟩ := pr_get pd1 hx
      rw [List.drop_eq_getElem_cons (List.getElem?_eq_some_iff.mp hd).1,(List.getElem?_eq_some_iff.mp hd).2] at e1 al1
      cases al1 with
      | cons g1 g2 g3 g4 g5 =>
      rw [psl_cons] at e1
      have hylen : acc.length + (((sl.drop r).take (k - r)).length + ((allOf (gv rs j) ((sl.drop k).take (tl rs j))).length + (psl rs sl ((doer rs (shp sl) 0).drop (i + 1)) (k + tl rs j)).length)) = (passedSlots rs sl).length := by
        rw [← e1]; simp only [List.length_append]
      obtain ⟨ru,hru⟩ : ∃ ru,rs[j]? = some ru := ⟨rs[j],List.getElem?_eq_getElem g4⟩
      obtain ⟨xr,hxr,ax,vb,vt,va,vg,rfl,hx4,_,hvt,_,hvg⟩ := pr_got hprs hru
      obtain ⟨at',rfl,hat⟩ := id hvt
      have hyacc : ys.length = acc.length := pr_len py1
      refine ⟨ad,_,rfl,SqT.of had,rfl,_,_,rfl,_,_,rfl,rfl,?_⟩
      refine ⟨_,rfl,.inl ⟨rfl,_,SqL.of n1⟩,_,rfl,_,rfl,_,rfl,_,rfl,_,rfl,asl,_,rfl,SqL.of (t1 _ _ hsl),fun q hq => ?_⟩
      have nq : nw ≠ q := ne_of_none n1 hq
      have pq : p ≠ q := ne_of_none p1 hq
      rw [cutV_nn]
      refine ⟨nw,q,ys,_,rfl,rfl,(by rw [upd_ne nq]; exact n1),upd_same,small' (by rw [List.length_take,List.length_drop,hxl]; rw [List.length_take,List.length_drop] at hylen; (first | ((try clear g4); omega) | omega)),?_⟩
      have t3 : Same H (upd (upd H' q (.lst ((xsl.drop r).take (k - r)))) nw (.lst (ys ++ (xsl.drop r).take (k - r)))) := same_off (t1.trans (same_new hq)) hnw
      have tp3 : Tps H' (upd (upd H' q (.lst ((xsl.drop r).take (k - r)))) nw (.lst (ys ++ (xsl.drop r).take (k - r)))) := (Tps.new hq).trans (Tps.lst (by rw [upd_ne nq]; exact n1))
      have p3 : (upd (upd H' q (.lst ((xsl.drop r).take (k - r)))) nw (.lst (ys ++ (xsl.drop r).take (k - r)))) p = some (.lst ds) := by rw [upd_ne hpnw,upd_ne pq]; exact p1
      have n3 : (upd (upd H' q (.lst ((xsl.drop r).take (k - r)))) nw (.lst (ys ++ (xsl.drop r).take (k - r)))) nw = some (.lst (ys ++ (xsl.drop r).take (k - r))) := upd_same
      generalize (upd (upd H' q (.lst ((xsl.drop r).take (k - r)))) nw (.lst (ys ++ (xsl.drop r).take (k - r)))) = H3 at t3 tp3 p3 n3 ⊢
      refine ⟨_,rfl,_,rfl,_,rfl,ar,_,_,_,rfl,rfl,SqL.of (t3 _ _ hrs),atI_nat hxr,ax,_,_,_,rfl,rfl,SqT.of (t3 _ _ hx4),rfl,at',_,rfl,.inr (SqT.of (t3 _ _ hat)),_,_,rfl,rfl,?_⟩
      have htl : tl rs j = ru.t.length := tl_of hru
      rw [iv_len,← htl]
      refine ⟨_,rfl,.inl ⟨rfl,_,SqL.of n3⟩,_,rfl,_,rfl,ar,_,_,_,rfl,rfl,SqL.of (t3 _ _ hrs),atI_nat hxr,ax,_,_,_,rfl,rfl,SqT.of (t3 _ _ hx4),rfl,_,rfl,_,rfl,_,rfl,_,rfl,_,rfl,asl,_,rfl,SqL.of (t3 _ _ hsl),fun q2 hq2 => ?_⟩
      rw [show (k : Int) + (tl rs j : Int) = ((k + tl rs j : Nat) : Int) by (first | ((try clear htl); (try clear hyacc); (try clear hylen); (try clear g3); (try clear g4); (try clear g2); (try clear g1); (try clear hr1); (try clear plen); (try clear hxl); (try clear hlen); omega) | omega),cutV_nn,Nat.add_sub_cancel_left]
      have t4 : Same H (upd H3 q2 (.lst ((xsl.drop k).take (tl rs j)))) := t3.trans (same_new hq2)
      refine ⟨_,_,ru.g,(sl.drop k).take (tl rs j),rfl,.inr (hvg.tps (tps_of t4)),⟨q2,_,rfl,upd_same,pr_tps tS (pr_take _ (pr_drop _ hpsl)) (tps_of t4)⟩,?_,?_,fun p2 zs H5 s5 hp2' hp25 hpa => ?_⟩
      · intro z
        have := congrArg List.length z
        rw [List.length_take,List.length_drop] at this
        simp at this
        (first | ((try clear hyacc); (try clear hylen); (try clear g4); (try clear g1); (try clear hr1); (try clear plen); (try clear hlen); omega) | omega)
      · have := (ok ru (List.mem_of_getElem? hru)).2.2.2.2.2
        (first | ((try clear htl); (try clear hyacc); (try clear hylen); (try clear g3); (try clear g4); (try clear g2); (try clear g1); (try clear hr1); (try clear plen); (try clear hxl); (try clear hlen); omega) | omega)
      have n4 : (upd H3 q2 (.lst ((xsl.drop k).take (tl rs j)))) nw = some (.lst (ys ++ (xsl.drop r).take (k - r))) := by rw [upd_ne (ne_of_none n3 hq2)]; exact n3
      have n5 := s5 _ _ n4
      have p5 := s5 _ _ (show (upd H3 q2 (.lst ((xsl.drop k).take (tl rs j)))) p = some (.lst ds) by rw [upd_ne (ne_of_none p3 hq2)]; exact p3)
      have t5 : Same H H5 := t4.trans s5
      have hzl : zs.length = (allOf (gv rs j) ((sl.drop k).take (tl rs j))).length := by rw [pr_len hpa,gv_of hru]
      refine ⟨nw,p2,_,zs,rfl,rfl,n5,hp25,small' (by rw [List.length_append,hzl,List.length_take,List.length_drop,hxl]; rw [List.length_take,List.length_drop] at hylen; (first | ((try clear htl); (try clear g3); (try clear g4); (try clear g2); (try clear g1); (try clear hr1); omega) | omega)),?_⟩
      have tp5 : Tps H' (upd H5 nw (.lst (ys ++ (xsl.drop r).take (k - r) ++ zs))) := ((tp3.trans (Tps.new hq2)).trans (tps_of s5)).trans (Tps.lst n5)
      refine ⟨k + tl rs j,_,_,_,acc ++ ((sl.drop r).take (k - r) ++ allOf (gv rs j) ((sl.drop k).take (tl rs j))),rfl,same_off t5 hnw,upd_same,(by rw [upd_ne hpnw]; exact p5),pr_tps tP pd1 tp5,?_,?_,g5,g3⟩
      · have q1 := pr_app (pr_app (pr_tps tS py1 tp5) (pr_tps tS (pr_take (k - r) (pr_drop r hpsl)) ((tps_of t1).trans tp5))) (pr_tps tS hpa (Tps.lst n5))
        rw [← gv_of hru,List.append_assoc acc] at q1
        exact q1
      · rw [← e1]; simp only [List.append_assoc]
    · rintro τ H' ⟨r,av,nv,ys,acc,rfl,t1,n1,p1,pd1,py1,e1,al1,hr1⟩
      have hdl : ds.length = (doer rs (shp sl) 0).length := pr_len pd1
      rw [List.drop_of_length_le (by first | decide | (first | ((try clear hr1); (try clear plen); (try clear hxl); (try clear hlen); omega) | omega))] at e1
      have hylen : acc.length + (sl.drop r).length = (passedSlots rs sl).length := by rw [← e1,List.length_append]; rfl
      have hyacc : ys.length = acc.length := pr_len py1
      refine ⟨_,rfl,.inl ⟨rfl,_,SqL.of n1⟩,_,rfl,_,rfl,_,rfl,asl,_,rfl,SqL.of (t1 _ _ hsl),fun q hq => ?_⟩
      have nq : nw ≠ q := ne_of_none n1 hq
      rw [cutV_n]
      refine ⟨nw,q,ys,_,rfl,rfl,(by rw [upd_ne nq]; exact n1),upd_same,small' (by rw [List.length_drop,hxl]; rw [List.length_drop] at hylen; (first | ((try clear hdl); (try clear hr1); omega) | omega)),?_⟩
      refine ⟨_,rfl,kq nw _ _ (same_off (t1.trans (same_new hq)) hnw) hnw upd_same ?_⟩
      have tp : Tps H' (upd (upd H' q (.lst (xsl.drop r))) nw (.lst (ys ++ xsl.drop r))) := (Tps.new hq).trans (Tps.lst (by rw [upd_ne nq]; exact n1))
      rw [← e1]
      exact pr_app (pr_tps tS py1 tp) (pr_tps tS (pr_drop _ hpsl) ((tps_of t1).trans tp))
theorem ok_rows_along {f : Addr} {fd : FuncData} {f_first_slots : Addr} {fd_first_slots : FuncData} {f_melted : Addr} {fd_melted : FuncData} {f_passed_slots : Addr} {fd_passed_slots : FuncData} (D : Dn K mg "rows_along" s_rows_along ["case","row"] f fd) (T : Txt mg)
    (D_first_slots : Dn K mg "first_slots" s_first_slots ["row"] f_first_slots fd_first_slots) (G_first_slots : FnOk P w K mg base CX0 1 f_first_slots fd_first_slots ["row"] spFirstSlots)
    (D_melted : Dn K mg "melted" s_melted ["slots"] f_melted fd_melted) (G_melted : FnOk P w K mg base CX0 2 f_melted fd_melted ["slots"] spMelted)
    (D_passed_slots : Dn K mg "passed_slots" s_passed_slots ["rules","slots"] f_passed_slots fd_passed_slots) (G_passed_slots : FnOk P w K mg base CX0 5 f_passed_slots fd_passed_slots ["rules","slots"] spPassedSlots) :
    FnOk P w K mg base CX0 6 f fd ["case","row"] spRowsAlong := by
  refine D.F.ok (k := 5) sc_rows_along (fun vs H Q E h => ?_) (fun cdv A outer s H vs Q E hr h => ?_)
  · obtain ⟨vc,vw,vn,vr,ps,row,rfl,⟨ac,vp,ap,xps,rfl,hac,rfl,hap,hpps⟩,hrow,pok,hpl,hlen,kq⟩ := h
    rfl
  · obtain ⟨vc,vw,vn,vr,ps,row,rfl,⟨ac,vp,ap,xps,rfl,hac,rfl,hap,hpps⟩,hrow,pok,hpl,hlen,kq⟩ := h
    refine ⟨_,(pss_cons (ps_set (i := 2) sc_rows_along.nd rfl (by first | exact Or.inl rfl | exact Or.inr rfl) (pe_lst (pa_cons (pe_call G_first_slots (hr.mono (by decide)) (by rfl) D_first_slots.m D_first_slots.F.kp D_first_slots.b .nil pass0 (pa_cons (pv 1) pa_nil)) pa_nil)))
       (pss_cons (ps_for PassesOwn.never rfl (pi_list0 (pe_ix ix_tup0 (pv 0) (pe_gint (by rfl) T.c_PASSES) (fun _ _ => rfl))) (pg_name (i := 3) sc_rows_along.nd rfl (by first | exact Or.inl rfl | exact Or.inr rfl))
       (pss_one (ps_expr (pe_bmZ PySem.F.plainAttrs_list PySem.F.slot_list_append PySem.F.type_list_append mt_append (pv 2) (pa_cons (pe_call G_melted (hr.mono (by decide)) (by rfl) D_melted.m D_melted.F.kp D_melted.b .nil pass0 (pa_cons (pe_call G_passed_slots (hr.mono (by decide)) (by rfl) D_passed_slots.m D_passed_slots.F.kp D_passed_slots.b .nil pass0 (pa_cons (pv 3) (pa_cons (pe_ix ix_list0 (pv 2) (pe_un un_neg pe_int) (fun _ _ => rfl)) pa_nil))) pa_nil)) pa_nil)))))
       (pss_one (ps_ret (pv 2))))),?_⟩
    have hl0 : row.length ≤ 10000 := Nat.le_trans (by have := pow_le (n := row.length) (Nat.zero_le ps.length); simpa using this) hlen
    refine ⟨_,rfl,_,row,rfl,hrow,hl0,fun p0 xs0 H0 s0 hp0 hx0 hpr0 => ⟨(by show 1 ≤ sizeLine; decide),fun ro hro => ?_⟩⟩
    have s0' : Same H (upd H0 ro (.lst [.ref p0])) := s0.trans (same_new hro)
    have hron : H ro = none := s0.free hro
    refine ⟨_,rfl,ac,_,_,_,rfl,rfl,SqT.of (s0' _ _ hac),rfl,ap,rfl,⟨_,SqL.of (s0' _ _ hap)⟩,(let Iv : Nat → L2.St → Hp → Prop := fun i σ H' => Ex2 fun rv ys => And4 (σ = [some (.ref ac),some vr,some (.ref ro),rv]) (Same H H') (H' ro = some (.lst ys)) (Paired (fun x sl => x ≠ .ref ro ∧ (∀ q,x = .ref q → H q = none) ∧ IsSlots H' x sl) ys (rowsN ps row (i + 1))); for_list (xs := xps) Iv
      ⟨none,_,rfl,s0',upd_same,.cons ⟨fun q => ?_,fun q e => ?_,?_⟩ .nil⟩ (fun i σ H' _ zz1 => by obtain ⟨_,_,_,s',_⟩ := zz1; exact SqL.of (s' _ _ hap)) ?_ ?_)⟩
    · exact ne_of_none hx0 hro (V.ref.inj q)
    · rw [← V.ref.inj e]; exact hp0
    · exact LstOf.same tS ⟨p0,xs0,rfl,hx0,by
        have e : setRow (ps.take 0) row = firstSlots row := rfl
        show Paired (IsS H0) xs0 (setRow (ps.take 0) row)
        rw [e]; exact hpr0⟩ (same_new hro)
    · rintro i x σ H' hx ⟨rv,ys,rfl,s1,hr1,hp1⟩
      obtain ⟨rs,hrs,hrul⟩ := pr_get hpps hx
      have hil : i < ps.length := (List.getElem?_eq_some_iff.mp hrs).1
      obtain ⟨xz,hxz,hz1,hz2,hz3⟩ := pr_last hp1 (rowsN_last ps row i)
      have b1 := setRow_len pok row i (by first | decide | (first | ((try clear hl0); (try clear hlen); (try clear hpl); omega) | omega))
      have b2 := setRow_len pok row (i + 1) (by first | decide | (first | ((try clear b1); (try clear hl0); (try clear hlen); (try clear hpl); omega) | omega))
      have b3 := pow_le (n := row.length) (show i ≤ ps.length by (first | ((try clear b2); (try clear b1); (try clear hl0); (try clear hlen); (try clear hpl); omega) | omega))
      have b4 := pow_le (n := row.length) (show i + 1 ≤ ps.length by (first | ((try clear b3); (try clear b2); (try clear b1); (try clear hl0); (try clear hlen); (try clear hpl); omega) | omega))
      have rok := pok rs (List.mem_of_getElem? hrs)
      refine ⟨_,rfl,.inl ⟨rfl,_,SqL.of hr1⟩,_,rfl,_,rfl,_,rfl,ro,_,_,_,rfl,rfl,SqL.of hr1,atI_lastq hxz,_,_,rs,setRow (ps.take i) row,rfl,hrul.same tR s1,hz3,rok,(by first | decide | (first | ((try clear b4); (try clear b2); (try clear hil); (try clear hl0); (try clear hpl); omega) | omega)),fun p2 xs2 H2 s2 hp2 hx2 hpr2 => ?_⟩
      have e1 := setRow_snoc (row := row) hrs
      rw [e1,melt_len] at b2
      refine ⟨_,passedSlots rs (setRow (ps.take i) row),rfl,⟨p2,xs2,rfl,hx2,hpr2⟩,(by first | decide | (first | ((try clear b3); (try clear b1); (try clear hil); (try clear hl0); (try clear hpl); omega) | omega)),fun p3 xs3 H3 s3 hp3 hx3 hpr3 => ?_⟩
      have s23 : Same H' H3 := s2.trans s3
      have hr3 := s23 _ _ hr1
      have hp3' : H' p3 = none := s2.free hp3
      have hyl : ys.length = i + 1 := by rw [pr_len hp1]; unfold rowsN; simp
      refine ⟨ro,ys,_,rfl,rfl,hr3,small (by first | decide | (first | ((try clear b4); (try clear b3); (try clear b2); (try clear b1); (try clear hl0); (try clear hlen); omega) | omega)),?_⟩
      have n3 : p3 ≠ ro := fun q => by rw [q,hr1] at hp3'; cases hp3'
      refine ⟨_,_,rfl,same_off (s1.trans s23) hron,upd_same,?_⟩
      rw [rowsN_succ,e1]
      refine pr_app (Paired.imp' (fun x sl q => ⟨q.1,q.2.1,lst_off tS q.1 hr3 (q.2.2.same tS s23)⟩) hp1) (.cons ⟨fun q => n3 (V.ref.inj q),fun q e => ?_,?_⟩ .nil)
      · rw [← V.ref.inj e]; exact s1.free hp3'
      · exact lst_off tS (fun q => n3 (V.ref.inj q)) hr3 ⟨p3,xs3,rfl,hx3,hpr3⟩
    · rintro σ H' ⟨rv,ys,rfl,s1,hr1,hp1⟩
      have hxl : xps.length = ps.length := pr_len hpps
      rw [hxl] at hp1
      exact ⟨_,rfl,kq ro ys H' s1 hron hr1 (Paired.imp' (fun x sl q => q.2) hp1)⟩
theorem ok_set_row {f : Addr} {fd : FuncData} {f_rows_along : Addr} {fd_rows_along : FuncData} (D : Dn K mg "set_row" s_set_row ["case","row"] f fd) (T : Txt mg)
    (D_rows_along : Dn K mg "rows_along" s_rows_along ["case","row"] f_rows_along fd_rows_along) (G_rows_along : FnOk P w K mg base CX0 6 f_rows_along fd_rows_along ["case","row"] spRowsAlong) :
    FnOk P w K mg base CX0 7 f fd ["case","row"] spSetRow := by
  refine D.F.ok (k := 6) sc_set_row (fun vs H Q E h => ?_) (fun cdv A outer s H vs Q E hr h => ?_)
  · obtain ⟨vc,vw,vn,vr,ps,row,rfl,hc,hrow,pok,hpl,hlen,kq⟩ := h
    rfl
  · obtain ⟨vc,vw,vn,vr,ps,row,rfl,hc,hrow,pok,hpl,hlen,kq⟩ := h
    refine ⟨_,(pss_one (ps_ret (pe_ix ix_list0 (pe_call G_rows_along (hr.mono (by decide)) (by rfl) D_rows_along.m D_rows_along.F.kp D_rows_along.b .nil pass0 (pa_cons (pv 0) (pa_cons (pv 1) pa_nil))) (pe_un un_neg pe_int) (fun _ _ => rfl)))),?_⟩
    refine ⟨_,rfl,_,rfl,_,vw,vn,_,ps,row,rfl,hc,hrow,pok,hpl,hlen,fun p xs H' s hp hx hpr => ?_⟩
    obtain ⟨xz,hxz,hz1,az,ys,rfl,haz,hz2⟩ := pr_last hpr (rowsA_last ps row)
    exact ⟨_,rfl,p,_,_,_,rfl,rfl,SqL.of hx,atI_lastq hxz,kq az ys H' s (hz1 az rfl) haz hz2⟩
theorem ok_near_of {f : Addr} {fd : FuncData} (D : Dn K mg "near_of" s_near_of ["case","shape","follower"] f fd) (T : Txt mg) :
    FnOk P w K mg base CX0 1 f fd ["case","shape","follower"] spNearOf := by
  refine D.F.ok (k := 0) sc_near_of (fun vs H Q E h => ?_) (fun cdv A outer s H vs Q E hr h => ?_)
  · obtain ⟨vc,ps,kw,kn,s,t,rfl,⟨vw,vn,⟨ac,vp,b,xs,rfl,hac,_⟩,hw,⟨an,rfl,han,hin⟩⟩,kq⟩ := h
    rfl
  · obtain ⟨vc,ps,kw,kn,s,t,rfl,⟨vw,vn,⟨ac,vp,b,xs,rfl,hac,_⟩,hw,⟨an,rfl,han,hin⟩⟩,kq⟩ := h
    refine ⟨_,(pss_one (ps_ret (pe_dget2 (hu_of hr) (pe_ix ix_tup0 (pv 0) (pe_gint (by rfl) T.c_NEARS) (fun _ _ => rfl)) (pe_tup (pa_cons (pv 1) (pa_cons (pv 2) pa_nil))) pe_int ⟨rfl,rfl,rfl,rfl⟩))),?_⟩
    refine ⟨_,rfl,ac,_,_,_,rfl,rfl,SqT.of hac,rfl,an,rfl,.inr ⟨_,.inl han⟩,_,rfl,_,rfl,(by show 2 ≤ sizeLine; decide),fun q hq => ⟨_,DGet.t (k := [Sum.inl s,Sum.inl t]) (same_new hq _ _ han) upd_same,?_⟩⟩
    rw [intVals_get hin]
    exact kq _ (same_new hq)
theorem ok_width_of {f : Addr} {fd : FuncData} (D : Dn K mg "width_of" s_width_of ["case","shape"] f fd) (T : Txt mg) :
    FnOk P w K mg base CX0 1 f fd ["case","shape"] spWidthOf := by
  refine D.F.ok (k := 0) sc_width_of (fun vs H Q E h => ?_) (fun cdv A outer s H vs Q E hr h => ?_)
  · obtain ⟨vc,ps,kw,kn,s,rfl,⟨vw,vn,⟨ac,vp,b,xs,rfl,hac,_⟩,⟨aw,rfl,haw,hiw⟩,hn⟩,kq⟩ := h
    rfl
  · obtain ⟨vc,ps,kw,kn,s,rfl,⟨vw,vn,⟨ac,vp,b,xs,rfl,hac,_⟩,⟨aw,rfl,haw,hiw⟩,hn⟩,kq⟩ := h
    refine ⟨_,(pss_one (ps_ret (pe_dget2 (hu_of hr) (pe_ix ix_tup0 (pv 0) (pe_gint (by rfl) T.c_WIDTHS) (fun _ _ => rfl)) (pv 1) (pe_gint (by rfl) T.c_USUAL_WIDTH) ⟨rfl,rfl,rfl,rfl⟩))),?_⟩
    refine ⟨_,rfl,ac,_,_,_,rfl,rfl,SqT.of hac,rfl,aw,rfl,.inl ⟨_,.inl haw⟩,_,rfl,_,DGet.k (k := Sum.inl s) haw,?_⟩
    rw [intVals_get hiw]
    exact kq
theorem ok_spans {f : Addr} {fd : FuncData} {f_shapes_of : Addr} {fd_shapes_of : FuncData} {f_near_of : Addr} {fd_near_of : FuncData} {f_width_of : Addr} {fd_width_of : FuncData} (D : Dn K mg "spans" s_spans ["case","slots"] f fd) (T : Txt mg)
    (D_shapes_of : Dn K mg "shapes_of" s_shapes_of ["slots"] f_shapes_of fd_shapes_of) (G_shapes_of : FnOk P w K mg base CX0 1 f_shapes_of fd_shapes_of ["slots"] spShapesOf)
    (D_near_of : Dn K mg "near_of" s_near_of ["case","shape","follower"] f_near_of fd_near_of) (G_near_of : FnOk P w K mg base CX0 1 f_near_of fd_near_of ["case","shape","follower"] spNearOf)
    (D_width_of : Dn K mg "width_of" s_width_of ["case","shape"] f_width_of fd_width_of) (G_width_of : FnOk P w K mg base CX0 1 f_width_of fd_width_of ["case","shape"] spWidthOf) :
    FnOk P w K mg base CX0 2 f fd ["case","slots"] spSpans := by
  refine D.F.ok (k := 1) sc_spans (fun vs H Q E h => ?_) (fun cdv A outer s H vs Q E hr h => ?_)
  · obtain ⟨vc,vsl,ps,kw,kn,sl,rfl,hc,hsl,hlen,kq⟩ := h
    rfl
  · obtain ⟨vc,vsl,ps,kw,kn,sl,rfl,hc,hsl,hlen,kq⟩ := h
    refine ⟨_,(pss_cons (ps_set (i := 2) sc_spans.nd rfl (by first | exact Or.inl rfl | exact Or.inr rfl) (pe_call G_shapes_of (hr.mono (by decide)) (by rfl) D_shapes_of.m D_shapes_of.F.kp D_shapes_of.b .nil pass0 (pa_cons (pv 1) pa_nil)))
       (pss_cons (ps_set (i := 3) sc_spans.nd rfl (by first | exact Or.inl rfl | exact Or.inr rfl) (pe_lst pa_nil))
       (pss_cons (ps_set (i := 4) sc_spans.nd rfl (by first | exact Or.inl rfl | exact Or.inr rfl) pe_int)
       (pss_cons (ps_for PassesOwn.never rfl (pi_enum0 (by rfl) T.n_enumerate (pa_cons (pv 2) pa_nil)) (pg_tup0 (n := 2) rfl (pgs_cons (pg_name (i := 5) sc_spans.nd rfl (by first | exact Or.inl rfl | exact Or.inr rfl)) (pgs_cons (pg_name (i := 6) sc_spans.nd rfl (by first | exact Or.inl rfl | exact Or.inr rfl)) pgs_nil)))
       (pss_cons (ps_if (pt_cmpR op_gt (pv 5) pe_int (nomark _))
       (pss_one (ps_set (i := 4) sc_spans.nd rfl (by first | exact Or.inl rfl | exact Or.inr rfl) (pe_op op_add (pe_ix ix_tup0 (pe_ix ix_list0 (pv 3) (pe_un un_neg pe_int) (fun _ _ => rfl)) (pe_gint (by rfl) T.c_END) (fun _ _ => rfl)) (pe_call G_near_of (hr.mono (by decide)) (by rfl) D_near_of.m D_near_of.F.kp D_near_of.b .nil pass0 (pa_cons (pv 0) (pa_cons (pe_ix ix_list0 (pv 2) (pe_op op_sub (pv 5) pe_int) (fun _ _ => rfl)) (pa_cons (pv 6) pa_nil)))))))
       pss_nil)
       (pss_one (ps_expr (pe_bmZ PySem.F.plainAttrs_list PySem.F.slot_list_append PySem.F.type_list_append mt_append (pv 3) (pa_cons (pe_tup (pa_cons (pv 4) (pa_cons (pe_op op_add (pv 4) (pe_call G_width_of (hr.mono (by decide)) (by rfl) D_width_of.m D_width_of.F.kp D_width_of.b .nil pass0 (pa_cons (pv 0) (pa_cons (pv 6) pa_nil)))) pa_nil))) pa_nil))))))
       (pss_one (ps_ret (pv 3))))))),?_⟩
    refine ⟨_,rfl,_,sl,rfl,hsl,hlen,fun shp' H1 s1 hshp hshp1 => ?_⟩
    refine ⟨Nat.zero_le _,fun fo hfo => ?_⟩
    have s2 : Same H1 (upd H1 fo (.lst [])) := same_new hfo
    have hfo0 : H fo = none := s1.free hfo
    have hsl' : (shp sl).length = sl.length := shp_len sl
    have nsf : shp' ≠ fo := ne_of_none hshp1 hfo
    refine ⟨_,rfl,shp',rfl,⟨_,SqL.of (s2 _ _ hshp1)⟩,(let Sg : (Int) → (Option V) → (Option V) → L2.St := fun b av sv => [some vc,some vsl,some (.ref shp'),some (.ref fo),some (.int b),av,sv]; let Iv : Nat → L2.St → Hp → Prop := fun i σ H' => Ex4 fun (b : Int) (av sv : Option V) (ys : List V) => And6 (σ = Sg b av sv) (Same H H') (H' shp' = some (.lst (iv (shp sl)))) (H' fo = some (.lst ys)) (Paired (IsQ H') ys ((spansL (wdOf kw) (nrOf kn) (shp sl)).take i)) ((i = 0 → b = 0)); for_enum (xs := iv (shp sl)) Iv
      ⟨0,none,none,[],rfl,s1.trans s2,s2 _ _ hshp1,upd_same,.nil,fun _ => rfl⟩ (fun i σ H' _ zz1 => by obtain ⟨_,_,_,_,_,_,h',_⟩ := zz1; exact SqL.of h') ?_ ?_)⟩
    · rintro i x σ H' p hx ⟨b,av,sv,ys,rfl,s3,hs3,hf3,hp3,hb0⟩ hp
      obtain ⟨t,ht,rfl⟩ := at_iv hx
      have hil : i < (shp sl).length := (List.getElem?_eq_some_iff.mp ht).1
      have hsp := spans_at (wd := wdOf kw) (nr := nrOf kn) hil
      have hyl : ys.length = i := by rw [pr_len hp3,List.length_take,spans_len]; (first | ((try clear hsl'); (try clear hlen); omega) | omega)
      refine ⟨p,_,rfl,SqT.of upd_same,rfl,_,_,rfl,_,_,rfl,rfl,?_⟩
      have s4 : Same H' (upd H' p (.tup [.int (i : Int),.int t])) := same_new hp
      refine ⟨_,rfl,_,_,rfl,rfl,_,rfl,?_⟩
      refine ite_join (fun σ' H2 => σ' = [some vc,some vsl,some (.ref shp'),some (.ref fo),some (.int (begAt (wdOf kw) (nrOf kn) (shp sl) i)),some (.int (i : Int)),some (.int t)] ∧ Same H' H2) ?_ (fun hk h0 => ?_) (fun h0 => ?_)
      case refine_3 =>
        have hi0 : i = 0 := by
          have : ¬ (0 : Int) < (i : Int) := by simpa using h0
          (first | ((try clear h0); (try clear hil); (try clear hsl'); (try clear hlen); omega) | omega)
        subst hi0
        rw [begAt_zero ht,hb0 rfl]
        exact ⟨rfl,s4⟩
      case refine_2 =>
        have hi0 : 0 < i := by
          have : (0 : Int) < (i : Int) := by simpa using h0
          (first | ((try clear hil); (try clear hsl'); (try clear hlen); omega) | omega)
        obtain ⟨k,rfl⟩ : ∃ k,i = k + 1 := ⟨i - 1,by (first | ((try clear hil); (try clear hsl'); (try clear hlen); omega) | omega)⟩
        have hk1 : k < (shp sl).length := by (first | ((try clear hi0); (try clear hsl'); (try clear hlen); omega) | omega)
        have hsk := spans_at (wd := wdOf kw) (nr := nrOf kn) hk1
        have hlast : ((spansL (wdOf kw) (nrOf kn) (shp sl)).take (k + 1)).getLast? = some (begAt (wdOf kw) (nrOf kn) (shp sl) k,wpre (wdOf kw) (nrOf kn) (shp sl) (k + 1)) := by
          rw [take_snoc hsk,List.getLast?_append]; rfl
        obtain ⟨xz,hxz,az,rfl,haz⟩ := pr_last hp3 hlast
        have htk : (shp sl)[k]? = some (shp sl)[k] := List.getElem?_eq_getElem hk1
        refine ⟨_,rfl,_,rfl,fo,_,_,_,rfl,rfl,SqL.of (s4 _ _ hf3),atI_lastq hxz,az,_,_,_,rfl,rfl,SqT.of (s4 _ _ haz),rfl,?_⟩
        refine ⟨_,rfl,_,rfl,_,rfl,_,_,rfl,rfl,shp',_,(k : Int),_,rfl,congrArg V.int (by first | exact Int.zero_add _ | (first | ((try clear hk1); (try clear hi0); (try clear hyl); (try clear hil); (try clear hsl'); (try clear hlen); omega) | omega)),SqL.of (s4 _ _ hs3),atI_iv htk,_,rfl,_,ps,kw,kn,_,t,rfl,hc.same (s3.trans s4),fun H2 s5 => ⟨_,_,rfl,rfl,?_⟩⟩
        refine hk _ _ ⟨?_,s4.trans s5⟩
        rw [begAt_succ ht htk]; rfl
      rintro σ' H2 ⟨rfl,s5⟩
      have hf5 := s5 _ _ hf3
      refine ⟨_,rfl,.inl ⟨rfl,_,SqL.of hf5⟩,_,rfl,_,rfl,_,rfl,_,rfl,_,ps,kw,kn,t,rfl,hc.same (s3.trans s5),_,_,rfl,rfl,(by show 2 ≤ sizeLine; decide),fun q hq => ?_⟩
      have nfq : fo ≠ q := ne_of_none hf5 hq
      refine ⟨fo,ys,_,rfl,rfl,(by rw [upd_ne nfq]; exact hf5),small (by first | decide | omega),?_⟩
      refine ⟨_,_,_,_,rfl,same_off ((s3.trans s5).trans (same_new hq)) hfo0,?_,upd_same,?_,fun z => by (first | ((try clear hil); (try clear hsl'); (try clear hlen); omega) | omega)⟩
      · rw [upd_ne nsf,upd_ne (ne_of_none (s5 _ _ hs3) hq)]; exact s5 _ _ hs3
      · rw [take_snoc hsp]
        refine pr_app (pr_tps tQ hp3 (((tps_of s5).trans (Tps.new hq)).trans (Tps.lst (by rw [upd_ne nfq]; exact hf5)))) (.cons ⟨q,rfl,?_⟩ .nil)
        rw [upd_ne nfq.symm,upd_same]
        show some (HO.tup [V.int _,V.int (begAt (wdOf kw) (nrOf kn) (shp sl) i + wdOf kw t)]) = some (HO.tup [V.int _,V.int (wpre (wdOf kw) (nrOf kn) (shp sl) (i + 1))])
        rw [begAt_wd ht]
    · rintro σ H' ⟨b,av,sv,ys,rfl,s3,hs3,hf3,hp3,hb0⟩
      rw [iv_len,List.take_of_length_le (by rw [spans_len]; exact Nat.le_refl _)] at hp3
      exact ⟨_,rfl,kq fo ys H' s3 hfo0 hf3 hp3⟩
theorem ok_whole_width {f : Addr} {fd : FuncData} (D : Dn K mg "whole_width" s_whole_width ["found"] f fd) (T : Txt mg) :
    FnOk P w K mg base CX0 1 f fd ["found"] spWholeW := by
  refine D.F.ok (k := 0) sc_whole_width (fun vs H Q E h => ?_) (fun cdv A outer s H vs Q E hr h => ?_)
  · obtain ⟨v,wd,nr,sh,rfl,⟨fo,xs,rfl,hf,hp⟩,kq⟩ := h
    rfl
  · obtain ⟨v,wd,nr,sh,rfl,⟨fo,xs,rfl,hf,hp⟩,kq⟩ := h
    refine ⟨_,(pss_one (ps_ret (pe_ifExp (pt_cmpR op_gt (pe_callB call_len_seq0 (by rfl) T.n_len PySem.boot_len (pa_cons (pv 0) pa_nil)) pe_int (nomark _)) (pe_ix ix_tup0 (pe_ix ix_list0 (pv 0) (pe_un un_neg pe_int) (fun _ _ => rfl)) (pe_gint (by rfl) T.c_END) (fun _ _ => rfl)) pe_int))),?_⟩
    have hxl : xs.length = sh.length := by rw [pr_len hp,spans_len]
    refine ⟨_,rfl,fo,_,rfl,.inl (SqL.of hf),_,_,rfl,rfl,_,rfl,?_⟩
    refine ite2 (fun h0 => ?_) (fun h0 => ?_)
    · have hpos : 0 < sh.length := by
        have : (0 : Int) < (xs.length : Int) := by simpa using h0
        omega
      have hlast : (spansL wd nr sh).getLast? = some (begAt wd nr sh (sh.length - 1),wpre wd nr sh sh.length) := by
        rw [List.getLast?_eq_getElem?,spans_len,spans_at (by first | decide | (first | ((try clear hxl); omega) | omega)),show sh.length - 1 + 1 = sh.length by (first | ((try clear hxl); omega) | omega)]
      obtain ⟨xz,hxz,az,rfl,haz⟩ := pr_last hp hlast
      refine ⟨_,rfl,_,rfl,fo,_,_,_,rfl,rfl,SqL.of hf,atI_lastq hxz,az,_,_,_,rfl,rfl,SqT.of haz,rfl,?_⟩
      rw [wpre_all]; exact kq
    · have hnil : sh = [] := List.length_eq_zero_iff.mp (by
        have : ¬ (0 : Int) < (xs.length : Int) := by simpa using h0
        (first | ((try clear h0); omega) | omega))
      subst hnil
      exact kq
theorem ok_shares {f : Addr} {fd : FuncData} (D : Dn K mg "shares" s_shares ["begin","end","letters"] f fd) (T : Txt mg) :
    FnOk P w K mg base CX0 1 f fd ["begin","end","letters"] spShares := by
  refine D.F.ok (k := 0) sc_shares (fun vs H Q E h => ?_) (fun cdv A outer s H vs Q E hr h => ?_)
  · obtain ⟨b,e,n,rfl,h0,hn,kq⟩ := h
    rfl
  · obtain ⟨b,e,n,rfl,h0,hn,kq⟩ := h
    refine ⟨_,(pss_one (ps_ret (pe_lc ["number"] [0,2,1] rfl (pi_range1 (by rfl) T.n_range (pa_cons (pv 2) pa_nil)) (fun _ _ _ _ => ⟨(pg_name (i := 0) (by exact (show (["number","begin","letters","end"] : List Str).Nodup by decide +kernel)) rfl (by first | exact Or.inl rfl | exact Or.inr rfl)),pts_nil,(pe_op op_add (pv 1) (pe_op op_fdiv (pe_op op_mul (pv 0) (pe_op op_sub (pv 3) (pv 1))) (pv 2)))⟩)))),?_⟩
    refine ⟨_,rfl,_,rfl,by omega,by omega,fun D hD => (let Iv : Nat → List V → L2.St → Hp → Prop := fun i ys τ H' => ∃ a,And4 (τ = [a,some (.int b),some (.int (n : Int)),some (.int e)]) (Same H H') (H' D = some (.lst ys)) (ys = iv ((sharesL b e n).take i)); lc_range (n := n) Iv
      ⟨none,rfl,same_new hD,upd_same,rfl⟩ (fun i ys τ H' _ zz1 => by obtain ⟨_,_,_,h',_⟩ := zz1; exact h') ?_ ?_)⟩
    · rintro i ys τ H' hi ⟨a,rfl,s1,hd1,rfl⟩
      refine lcN ?_
      refine ⟨_,rfl,_,rfl,_,rfl,_,rfl,_,_,rfl,rfl,_,_,rfl,rfl,.inl ⟨(by first | decide | (first | ((try clear hi); (try clear hn); (try clear h0); omega) | omega)),(by first | decide | omega)⟩,_,rfl,_,_,rfl,rfl,⟨(by first | decide | (first | ((try clear hi); omega) | omega)),(by first | decide | (first | ((try clear hi); omega) | omega))⟩,_,_,rfl,rfl,hd1,small (by rw [iv_len,List.length_take]; omega),?_⟩
      refine ⟨_,rfl,same_off s1 hD,upd_same,?_⟩
      rw [take_snoc (shares_at hi),iv_app,show (0 : Int) + (i : Int) = (i : Int) by (first | ((try clear hi); (try clear hn); (try clear h0); omega) | omega)]; rfl
    · rintro ys τ H' ⟨a,rfl,s1,hd1,rfl⟩
      rw [List.take_of_length_le (by rw [shares_len]; exact Nat.le_refl _)] at hd1
      exact kq D H' s1 hD hd1
theorem ok_carets {f : Addr} {fd : FuncData} {f_set_row : Addr} {fd_set_row : FuncData} {f_spans : Addr} {fd_spans : FuncData} {f_chains : Addr} {fd_chains : FuncData} {f_whole_width : Addr} {fd_whole_width : FuncData} {f_shares : Addr} {fd_shares : FuncData} (D : Dn K mg "carets" s_carets ["case","row"] f fd) (T : Txt mg)
    (D_set_row : Dn K mg "set_row" s_set_row ["case","row"] f_set_row fd_set_row) (G_set_row : FnOk P w K mg base CX0 7 f_set_row fd_set_row ["case","row"] spSetRow)
    (D_spans : Dn K mg "spans" s_spans ["case","slots"] f_spans fd_spans) (G_spans : FnOk P w K mg base CX0 2 f_spans fd_spans ["case","slots"] spSpans)
    (D_chains : Dn K mg "chains" s_chains ["slots"] f_chains fd_chains) (G_chains : FnOk P w K mg base CX0 1 f_chains fd_chains ["slots"] spChains)
    (D_whole_width : Dn K mg "whole_width" s_whole_width ["found"] f_whole_width fd_whole_width) (G_whole_width : FnOk P w K mg base CX0 1 f_whole_width fd_whole_width ["found"] spWholeW)
    (D_shares : Dn K mg "shares" s_shares ["begin","end","letters"] f_shares fd_shares) (G_shares : FnOk P w K mg base CX0 1 f_shares fd_shares ["begin","end","letters"] spShares) :
    FnOk P w K mg base CX0 8 f fd ["case","row"] spCarets := by
  refine D.F.ok (k := 7) sc_carets (fun vs H Q E h => ?_) (fun cdv A outer s H vs Q E hr h => ?_)
  · obtain ⟨vc,vr,ps,kw,kn,row,rfl,hc,hrow,⟨pok,hpl,hn1,hlen⟩,kq⟩ := h
    rfl
  · obtain ⟨vc,vr,ps,kw,kn,row,rfl,hc,hrow,⟨pok,hpl,hn1,hlen⟩,kq⟩ := h
    refine ⟨_,(pss_cons (ps_set (i := 2) sc_carets.nd rfl (by first | exact Or.inl rfl | exact Or.inr rfl) (pe_call G_set_row (hr.mono (by decide)) (by rfl) D_set_row.m D_set_row.F.kp D_set_row.b .nil pass0 (pa_cons (pv 0) (pa_cons (pv 1) pa_nil))))
       (pss_cons (ps_set (i := 3) sc_carets.nd rfl (by first | exact Or.inl rfl | exact Or.inr rfl) (pe_call G_spans (hr.mono (by decide)) (by rfl) D_spans.m D_spans.F.kp D_spans.b .nil pass0 (pa_cons (pv 0) (pa_cons (pv 2) pa_nil))))
       (pss_cons (ps_set (i := 4) sc_carets.nd rfl (by first | exact Or.inl rfl | exact Or.inr rfl) (pe_lst pa_nil))
       (pss_cons (ps_set (i := 5) sc_carets.nd rfl (by first | exact Or.inl rfl | exact Or.inr rfl) pe_int)
       (pss_cons (ps_for PassesOwn.never rfl (pi_list0 (pe_call G_chains (hr.mono (by decide)) (by rfl) D_chains.m D_chains.F.kp D_chains.b .nil pass0 (pa_cons (pv 2) pa_nil))) (pg_name (i := 6) sc_carets.nd rfl (by first | exact Or.inl rfl | exact Or.inr rfl))
       (pss_cons (ps_set (i := 7) sc_carets.nd rfl (by first | exact Or.inl rfl | exact Or.inr rfl) (pe_slice sl_list0 (pv 3) (po_some (pv 5)) (po_some (pe_op op_add (pv 5) (pe_callB call_len_seq0 (by rfl) T.n_len PySem.boot_len (pa_cons (pv 6) pa_nil))))))
       (pss_cons (ps_expr (pe_bmZ PySem.F.plainAttrs_list PySem.F.slot_list_extend PySem.F.type_list_extend mt_extend (pv 4) (pa_cons (pe_call G_shares (hr.mono (by decide)) (by rfl) D_shares.m D_shares.F.kp D_shares.b .nil pass0 (pa_cons (pe_ix ix_tup0 (pe_ix ix_list0 (pv 7) pe_int (fun _ _ => rfl)) (pe_gint (by rfl) T.c_BEGIN) (fun _ _ => rfl)) (pa_cons (pe_ix ix_tup0 (pe_ix ix_list0 (pv 7) (pe_un un_neg pe_int) (fun _ _ => rfl)) (pe_gint (by rfl) T.c_END) (fun _ _ => rfl)) (pa_cons (pe_op op_sub (pe_ix ix_tup0 (pe_ix ix_list0 (pv 6) pe_int (fun _ _ => rfl)) (pe_gint (by rfl) T.c_TO) (fun _ _ => rfl)) (pe_ix ix_tup0 (pe_ix ix_list0 (pv 6) pe_int (fun _ _ => rfl)) (pe_gint (by rfl) T.c_FROM) (fun _ _ => rfl))) pa_nil)))) pa_nil)))
       (pss_one (ps_aug (i := 5) sc_carets.nd rfl (by first | exact Or.inl rfl | exact Or.inr rfl) (pe_callB call_len_seq0 (by rfl) T.n_len PySem.boot_len (pa_cons (pv 6) pa_nil)) ip_add)))))
       (pss_cons (ps_expr (pe_bmZ PySem.F.plainAttrs_list PySem.F.slot_list_append PySem.F.type_list_append mt_append (pv 4) (pa_cons (pe_call G_whole_width (hr.mono (by decide)) (by rfl) D_whole_width.m D_whole_width.F.kp D_whole_width.b .nil pass0 (pa_cons (pv 3) pa_nil)) pa_nil)))
       (pss_one (ps_ret (pv 4))))))))),?_⟩
    obtain ⟨vw,vn,hcv,hw,hnn⟩ := id hc
    refine ⟨_,rfl,_,rfl,_,vw,vn,_,ps,row,rfl,hcv,hrow,pok,hpl,hlen,fun sp sx H1 s1 hsp hsx hps => ?_⟩
    have b1 := setRow_len pok row ps.length (Nat.le_refl _)
    rw [List.take_length] at b1
    obtain ⟨sg,sge⟩ := setRow_sg pok row
    generalize hsl : setRow ps row = sl at *
    refine ⟨_,rfl,_,rfl,_,_,ps,kw,kn,sl,rfl,hc.same s1,⟨sp,sx,rfl,hsx,hps⟩,by (first | ((try clear sge); (try clear hn1); (try clear hpl); omega) | omega),fun fp fx H2 s2 hfp hfx hpf => ?_⟩
    refine ⟨Nat.zero_le _,fun tp htp => ?_⟩
    have s12 : Same H H2 := s1.trans s2
    have s3 : Same H2 (upd H2 tp (.lst [])) := same_new htp
    refine ⟨_,rfl,_,sl,rfl,⟨sp,sx,rfl,s3 _ _ (s2 _ _ hsx),pr_tps tS hps (tps_of (s2.trans s3))⟩,by (first | ((try clear sge); (try clear hn1); (try clear hpl); omega) | omega),fun cp cx H4 s4 hcp hcx hpc => ?_⟩
    have s24 := s3.trans s4
    have htp4 := s4 _ _ (upd_same (H := H2) (a := tp) (o := .lst []))
    have htp0 : H tp = none := s12.free htp
    have ncp : cp ≠ tp := fun q => by rw [q,upd_same] at hcp; cases hcp
    have nfp : fp ≠ tp := ne_of_none hfx htp
    have hfl : fx.length = sl.length := by rw [pr_len hpf,spans_len,shp_len]
    have hcl : cx.length = (grp sl).length := pr_len hpc
    have gl : (lenG (grp sl)) ≤ row.length := by
      by_cases e : sl = []
      · rw [e]; exact Nat.zero_le _
      · have := lenG_sg sg e; (first | ((try clear e); (try clear hcl); (try clear hfl); (try clear sge); (try clear b1); (try clear hlen); (try clear hn1); (try clear hpl); omega) | omega)
    have gsplit : ∀ i,lenG ((grp sl).take i) ≤ lenG (grp sl) := fun i => by
      have e := List.take_append_drop i (grp sl)
      have : lenG (grp sl) = lenG ((grp sl).take i) + lenG ((grp sl).drop i) := by
        conv => lhs; rw [← e]
        unfold lenG; rw [List.map_append,List.sum_append]
      (first | ((try clear gl); (try clear hcl); (try clear hfl); (try clear sge); (try clear b1); (try clear hlen); (try clear hn1); (try clear hpl); omega) | omega)
    refine ⟨cp,rfl,⟨_,SqL.of hcx⟩,(let Iv : Nat → L2.St → Hp → Prop := fun i σ H' => Ex4 fun (bv ov : Option V) (o : Nat) (acc : List Int) => And6 (σ = [some vc,some vr,some (.ref sp),some (.ref fp),some (.ref tp),some (.int (o : Int)),bv,ov]) (SameX tp H4 H') (Tps H4 H') (H' tp = some (.lst (iv acc))) (o = ((grp sl).take i).flatten.length) (acc = caretG (wdOf kw) (nrOf kn) (shp sl) 0 ((grp sl).take i)); for_list (xs := cx) Iv
      ⟨none,none,0,[],rfl,SameX.refl _ _,Tps.refl _,htp4,rfl,rfl⟩ (fun i σ H' _ zz1 => by obtain ⟨_,_,_,_,_,sx,_⟩ := zz1; exact SqL.of (sx _ _ ncp hcx)) ?_ ?_)⟩
    · rintro i x σ H5 hx ⟨bv,ov,o,acc,rfl,sx5,tp5,ht5,ho,hacc⟩
      obtain ⟨c,hcg,ac,cs',rfl,hac,hcs⟩ := pr_get hpc hx
      have hmem : c ∈ grp sl := List.mem_of_getElem? hcg
      have hcne := grp_nonempty _ c hmem
      have ef : ((grp sl).take i).flatten.length + c.length + ((grp sl).drop (i + 1)).flatten.length = sl.length := by
        have e1 : (grp sl).take i ++ c :: (grp sl).drop (i + 1) = grp sl := by
          have := List.take_append_drop i (grp sl)
          rw [List.drop_eq_getElem_cons (List.getElem?_eq_some_iff.mp hcg).1,(List.getElem?_eq_some_iff.mp hcg).2] at this
          exact this
        have := congrArg (fun l => l.flatten.length) e1
        simp only [List.flatten_append,List.flatten_cons,List.length_append,grp_flat] at this
        (first | ((try clear ho); (try clear gl); (try clear hcl); (try clear sge); (try clear b1); (try clear hlen); (try clear hn1); (try clear hpl); omega) | omega)
      have hcl0 : 0 < c.length := List.length_pos_iff.mpr hcne
      have nac : ac ≠ tp := fun q => by
        rw [q,htp4] at hac
        injection hac with e; injection e with e
        have := pr_len hcs
        rw [← e] at this; simp at this; (first | ((try clear ef); (try clear ho); (try clear gl); (try clear hcl); (try clear hfl); (try clear sge); (try clear b1); (try clear hlen); (try clear hn1); (try clear hpl); omega) | omega)
      have hfx5 := sx5 _ _ nfp (s24 _ _ hfx)
      have hac5 := sx5 _ _ nac hac
      refine ⟨_,rfl,_,rfl,_,rfl,_,rfl,_,rfl,ac,_,rfl,.inl (SqL.of hac5),_,_,rfl,rfl,_,rfl,fp,_,rfl,SqL.of hfx5,fun q hq => ?_⟩
      have hcsl : cs'.length = c.length := pr_len hcs
      rw [show (o : Int) + (cs'.length : Int) = ((o + c.length : Nat) : Int) by (first | ((try clear hcl0); (try clear ef); (try clear ho); (try clear gl); (try clear hcl); (try clear hfl); (try clear sge); (try clear b1); (try clear hlen); (try clear hn1); (try clear hpl); omega) | omega),cutV_nn,Nat.add_sub_cancel_left]
      have u1 : Same H5 (upd H5 q (.lst ((fx.drop o).take c.length))) := same_new hq
      have hq6 : (upd H5 q (.lst ((fx.drop o).take c.length))) q = some (.lst ((fx.drop o).take c.length)) := upd_same
      generalize (upd H5 q (.lst ((fx.drop o).take c.length))) = H6 at u1 hq6 ⊢
      have tp46 : Tps H4 H6 := tp5.trans (tps_of u1)
      have pf6 := pr_tps tQ hpf ((tps_of s24).trans tp46)
      have s0a := spans_at (wd := wdOf kw) (nr := nrOf kn) (sh := shp sl) (k := o) (by rw [shp_len]; (first | ((try clear gl); (try clear hcl); (try clear sge); (try clear b1); (try clear hlen); (try clear hn1); (try clear hpl); omega) | omega))
      have sza := spans_at (wd := wdOf kw) (nr := nrOf kn) (sh := shp sl) (k := o + c.length - 1) (by rw [shp_len]; (first | ((try clear gl); (try clear hcl); (try clear sge); (try clear b1); (try clear hlen); (try clear hn1); (try clear hpl); omega) | omega))
      obtain ⟨x0,hx0,a0,rfl,ha0⟩ := pr_got pf6 s0a
      obtain ⟨xz,hxz,az,rfl,haz⟩ := pr_got pf6 sza
      have hx0' : ((fx.drop o).take c.length)[0]? = some (.ref a0) := by
        rw [List.getElem?_take,if_pos hcl0,List.getElem?_drop,Nat.add_zero]; exact hx0
      have hxz' : ((fx.drop o).take c.length).getLast? = some (.ref az) := by
        rw [List.getLast?_eq_getElem?,List.length_take,List.length_drop,show min c.length (fx.length - o) - 1 = c.length - 1 by (first | ((try clear gl); (try clear hcl); (try clear sge); (try clear b1); (try clear hlen); (try clear hn1); (try clear hpl); omega) | omega),List.getElem?_take,if_pos (by first | decide | (first | ((try clear ef); (try clear ho); (try clear gl); (try clear hcl); (try clear hfl); (try clear sge); (try clear b1); (try clear hlen); (try clear hn1); (try clear hpl); omega) | omega)),List.getElem?_drop,show o + (c.length - 1) = o + c.length - 1 by (first | ((try clear ef); (try clear gl); (try clear hcl); (try clear hfl); (try clear sge); (try clear b1); (try clear hlen); (try clear hn1); (try clear hpl); omega) | omega)]
        exact hxz
      obtain ⟨cz,hcz⟩ := exHead hcne
      have hcz0 : c[0]? = some cz := by rw [← List.head?_eq_getElem?]; exact hcz
      obtain ⟨xb,hxb,ab,rfl,hab⟩ := pr_got hcs hcz0
      have hab6 := tp46 _ _ hab
      have hac6 := u1 _ _ hac5
      have hsub : ∀ s ∈ c,s ∈ sl := fun s hs => (grp_cc sg.wk.ch sg.pos).2 c hmem |>.2 s hs
      have hczp := sg.pos cz (hsub cz (headMem hcz))
      have hczb := sg.wk.bounds cz (hsub cz (headMem hcz))
      have hcn : chainN c = (shi cz - slo cz).toNat := by unfold chainN; rw [hcz]; rfl
      have ht6 := u1 _ _ ht5
      refine ⟨_,rfl,.inl ⟨rfl,_,SqL.of ht6⟩,_,rfl,q,_,((0 : Nat) : Int),_,rfl,rfl,SqL.of hq6,atI_nat hx0',a0,_,_,_,rfl,rfl,SqT.of ha0,rfl,_,rfl,_,rfl,q,_,_,_,rfl,rfl,SqL.of hq6,atI_lastq hxz',az,_,_,_,rfl,rfl,SqT.of haz,rfl,_,rfl,ac,_,((0 : Nat) : Int),_,rfl,rfl,SqL.of hac6,atI_nat hxb,ab,_,_,_,rfl,rfl,SqT.of hab6,rfl,_,rfl,ac,_,((0 : Nat) : Int),_,rfl,rfl,SqL.of hac6,atI_nat hxb,ab,_,_,_,rfl,rfl,SqT.of hab6,rfl,_,_,rfl,rfl,?_⟩
      refine ⟨_,_,chainN c,(by rw [hcn,show ((shi cz - slo cz).toNat : Int) = cz.2.2 - cz.2.1 by (have e1 : shi cz = cz.2.2 := rfl); (have e2 : slo cz = cz.2.1 := rfl); (first | ((try clear hcn); (try clear hczb); (try clear hcsl); (try clear hcl0); (try clear ef); (try clear ho); (try clear gl); (try clear hcl); (try clear hfl); (try clear sge); (try clear b1); (try clear hlen); (try clear hn1); (try clear hpl); omega) | omega)]; rfl),by (first | ((try clear hczb); (try clear hcsl); (try clear hcl0); (try clear ef); (try clear ho); (try clear gl); (try clear hcl); (try clear hfl); (try clear sge); (try clear b1); (try clear hlen); (try clear hn1); (try clear hpl); omega) | omega),by (first | ((try clear hcsl); (try clear hcl0); (try clear ef); (try clear ho); (try clear gl); (try clear hcl); (try clear hfl); (try clear sge); (try clear b1); (try clear hlen); (try clear hpl); omega) | omega),fun gp H7 u2 hgp hgp7 => ?_⟩
      have ht7 := u2 _ _ ht6
      have hacl : acc.length ≤ row.length := by
        rw [hacc,caretG_len]
        exact Nat.le_trans (gsplit i) gl
      refine ⟨tp,gp,_,_,rfl,rfl,ht7,hgp7,small' (by rw [iv_len,iv_len,shares_len]; (first | ((try clear hcsl); (try clear hcl0); (try clear ef); (try clear ho); (try clear gl); (try clear hcl); (try clear hfl); (try clear sge); (try clear b1); (try clear hlen); (try clear hpl); omega) | omega)),?_⟩
      have hac7 := u2 _ _ hac6
      refine ⟨_,rfl,_,rfl,ac,_,rfl,.inl (SqL.of (by rw [upd_ne nac]; exact hac7)),_,_,rfl,rfl,?_⟩
      have esz : o + c.length - 1 + 1 = o + c.length := by (first | ((try clear hacl); (try clear hcn); (try clear hczb); (try clear hczp); (try clear ef); (try clear gl); (try clear hcl); (try clear hfl); (try clear sge); (try clear b1); (try clear hlen); (try clear hn1); (try clear hpl); omega) | omega)
      refine ⟨some (.ref ac),some (.ref q),o + c.length,acc ++ sharesL (begAt (wdOf kw) (nrOf kn) (shp sl) o) (wpre (wdOf kw) (nrOf kn) (shp sl) (o + c.length)) (chainN c),?_,((sx5.trans (.of u1)).trans (.of u2)).trans .upd,(tp46.trans (tps_of u2)).trans (Tps.lst ht7),?_,?_,?_⟩
      · rw [show ((o + c.length : Nat) : Int) = (o : Int) + (cs'.length : Int) by (first | ((try clear esz); (try clear hacl); (try clear hcn); (try clear hczb); (try clear hczp); (try clear hcl0); (try clear ef); (try clear ho); (try clear gl); (try clear hcl); (try clear hfl); (try clear sge); (try clear b1); (try clear hlen); (try clear hn1); (try clear hpl); omega) | omega)]; rfl
      · rw [upd_same,iv_app,esz]
      · rw [take_snoc hcg,List.flatten_append,List.length_append,ho]; simp
      · rw [take_snoc hcg,caretG_app,hacc,← ho,Nat.zero_add]
        show _ = _ ++ (_ ++ [])
        rw [List.append_nil]
    · rintro σ H5 ⟨bv,ov,o,acc,rfl,sx5,tp5,ht5,ho,hacc⟩
      rw [List.take_of_length_le (by first | decide | (first | ((try clear ho); (try clear gl); (try clear hfl); (try clear sge); (try clear b1); (try clear hlen); (try clear hn1); (try clear hpl); omega) | omega))] at hacc
      have hfx5 := sx5 _ _ nfp (s24 _ _ hfx)
      refine ⟨_,rfl,.inl ⟨rfl,_,SqL.of ht5⟩,_,rfl,_,_,_,_,rfl,⟨fp,fx,rfl,hfx5,pr_tps tQ hpf ((tps_of s24).trans tp5)⟩,?_⟩
      refine ⟨tp,_,_,rfl,rfl,ht5,small (by rw [iv_len,hacc,caretG_len]; (first | ((try clear ho); (try clear hcl); (try clear hfl); (try clear sge); (try clear b1); (try clear hlen); (try clear hpl); omega) | omega)),?_⟩
      refine ⟨_,rfl,kq tp _ (same_off (sx5.same (s12.trans s24) htp0) htp0) htp0 ?_⟩
      rw [upd_same,hacc]
      show some (HO.lst (iv _ ++ [V.int _])) = some (HO.lst (iv (caretG _ _ _ _ _ ++ [_])))
      rw [iv_app]; rfl
theorem ok_is_near_across {f : Addr} {fd : FuncData} {f_near_of : Addr} {fd_near_of : FuncData} (D : Dn K mg "is_near_across" s_is_near_across ["case","slot","follower"] f fd) (T : Txt mg)
    (D_near_of : Dn K mg "near_of" s_near_of ["case","shape","follower"] f_near_of fd_near_of) (G_near_of : FnOk P w K mg base CX0 1 f_near_of fd_near_of ["case","shape","follower"] spNearOf) :
    FnOk P w K mg base CX0 2 f fd ["case","slot","follower"] spNearAcross := by
  refine D.F.ok (k := 1) sc_is_near_across (fun vs H Q E h => ?_) (fun cdv A outer s H vs Q E hr h => ?_)
  · obtain ⟨vc,va,vb,ps,kw,kn,a,b,rfl,hc,⟨aA,rfl,haA⟩,⟨aB,rfl,haB⟩,kq⟩ := h
    rfl
  · obtain ⟨vc,va,vb,ps,kw,kn,a,b,rfl,hc,⟨aA,rfl,haA⟩,⟨aB,rfl,haB⟩,kq⟩ := h
    refine ⟨_,(pss_one (ps_ret (pe_and (pe_cmpR op_eq (pe_ix ix_tup0 (pv 1) (pe_gint (by rfl) T.c_TO) (fun _ _ => rfl)) (pe_ix ix_tup0 (pv 2) (pe_gint (by rfl) T.c_FROM) (fun _ _ => rfl)) (nomark _)) (pe_one (pe_cmpR op_ne (pe_call G_near_of (hr.mono (by decide)) (by rfl) D_near_of.m D_near_of.F.kp D_near_of.b .nil pass0 (pa_cons (pv 0) (pa_cons (pe_ix ix_tup0 (pv 1) (pe_gint (by rfl) T.c_SHAPE) (fun _ _ => rfl)) (pa_cons (pe_ix ix_tup0 (pv 2) (pe_gint (by rfl) T.c_SHAPE) (fun _ _ => rfl)) pa_nil)))) pe_int (nomark _)))))),?_⟩
    refine ⟨_,rfl,aA,_,_,_,rfl,rfl,SqT.of haA,rfl,_,rfl,aB,_,_,_,rfl,rfl,SqT.of haB,rfl,rfl,_,rfl,?_⟩
    have e0 : decide (V.int a.2.2 = V.int b.2.1) = decide (shi a = slo b) := by
      rw [dec_int]
      by_cases e : shi a = slo b
      · rw [decide_eq_true e]; exact beq_iff_eq.mpr e
      · rw [decide_eq_false e]; exact beq_eq_false_iff_ne.mpr e
    rw [e0]
    refine ite2 (fun h0 => ?_) (fun h0 => ?_)
    · refine ⟨_,rfl,_,rfl,aA,_,_,_,rfl,rfl,SqT.of haA,rfl,_,rfl,aB,_,_,_,rfl,rfl,SqT.of haB,rfl,_,ps,kw,kn,_,_,rfl,hc,fun H1 s1 => ⟨rfl,?_⟩⟩
      have := kq H1 s1
      unfold nearB at this
      rw [h0,Bool.true_and] at this
      rw [dec_int]
      rw [show (!(nrOf kn a.1 b.1 == 0)) = decide (nrOf kn a.1 b.1 ≠ 0) by
        by_cases e : nrOf kn a.1 b.1 = 0
        · rw [e]; rfl
        · rw [decide_eq_true e,beq_eq_false_iff_ne.mpr e]; rfl]
      exact this
    · have := kq H (Same.refl H)
      unfold nearB at this
      rw [show decide (shi a = slo b) = false by simpa using h0,Bool.false_and] at this
      exact this
theorem ok_places_across {f : Addr} {fd : FuncData} (D : Dn K mg "places_across" s_places_across ["rule","slots","at"] f fd) (T : Txt mg) :
    FnOk P w K mg base CX0 1 f fd ["rule","slots","at"] spPlaces := by
  refine D.F.ok (k := 0) sc_places_across (fun vs H Q E h => ?_) (fun cdv A outer s H vs Q E hr h => ?_)
  · obtain ⟨vr,vsl,k,r,sl,rfl,⟨ar,vb,vt,va,vg,rfl,hr4,⟨ab,rfl,hb⟩,⟨at',rfl,ht⟩,⟨aa,rfl,ha⟩,hg⟩,⟨asl,xsl,rfl,hsl,hpsl⟩,h1,h2,h3,hbd,kq⟩ := h
    rfl
  · obtain ⟨vr,vsl,k,r,sl,rfl,⟨ar,vb,vt,va,vg,rfl,hr4,⟨ab,rfl,hb⟩,⟨at',rfl,ht⟩,⟨aa,rfl,ha⟩,hg⟩,⟨asl,xsl,rfl,hsl,hpsl⟩,h1,h2,h3,hbd,kq⟩ := h
    refine ⟨_,(pss_cons (ps_set (i := 3) sc_places_across.nd rfl (by first | exact Or.inl rfl | exact Or.inr rfl) (pe_op op_sub (pv 2) (pe_callB call_len_seq0 (by rfl) T.n_len PySem.boot_len (pa_cons (pe_ix ix_tup0 (pv 0) (pe_gint (by rfl) T.c_BEHIND) (fun _ _ => rfl)) pa_nil))))
       (pss_cons (ps_set (i := 4) sc_places_across.nd rfl (by first | exact Or.inl rfl | exact Or.inr rfl) (pe_op op_sub (pe_op op_add (pe_op op_add (pv 2) (pe_callB call_len_seq0 (by rfl) T.n_len PySem.boot_len (pa_cons (pe_ix ix_tup0 (pv 0) (pe_gint (by rfl) T.c_TAKE) (fun _ _ => rfl)) pa_nil))) (pe_callB call_len_seq0 (by rfl) T.n_len PySem.boot_len (pa_cons (pe_ix ix_tup0 (pv 0) (pe_gint (by rfl) T.c_AHEAD) (fun _ _ => rfl)) pa_nil))) pe_int))
       (pss_one (ps_ret (pe_listRange2 hr.hd (by rfl) T.n_list (by rfl) T.n_range (pa_cons (pe_op op_add (pe_ix ix_tup0 (pe_ix ix_list0 (pv 1) (pv 3) (fun _ _ => rfl)) (pe_gint (by rfl) T.c_FROM) (fun _ _ => rfl)) pe_int) (pa_cons (pe_ix ix_tup0 (pe_ix ix_list0 (pv 1) (pv 4) (fun _ _ => rfl)) (pe_gint (by rfl) T.c_TO) (fun _ _ => rfl)) pa_nil))))))),?_⟩
    have hsa : sl[k - r.b.length]? = some sl[k - r.b.length] := List.getElem?_eq_getElem (by first | decide | omega)
    have hsz : sl[k + r.t.length + r.a.length - 1]? = some sl[k + r.t.length + r.a.length - 1] := List.getElem?_eq_getElem (by first | decide | omega)
    obtain ⟨xa,hxa,aA,rfl,haA⟩ := pr_got hpsl hsa
    obtain ⟨xz,hxz,aZ,rfl,haZ⟩ := pr_got hpsl hsz
    have ba := hbd _ (List.mem_of_getElem? hsa)
    have bz := hbd _ (List.mem_of_getElem? hsz)
    have elo : ruleLo sl k r = slo sl[k - r.b.length] := by unfold ruleLo; rw [hsa]; rfl
    have ehi : ruleHi sl k r = shi sl[k + r.t.length + r.a.length - 1] := by unfold ruleHi; rw [hsz]; rfl
    refine ⟨_,rfl,_,rfl,ar,_,_,_,rfl,rfl,SqT.of hr4,rfl,ab,_,rfl,.inr (SqT.of hb),_,_,rfl,rfl,?_⟩
    refine ⟨_,rfl,_,rfl,ar,_,_,_,rfl,rfl,SqT.of hr4,rfl,at',_,rfl,.inr (SqT.of ht),_,_,rfl,rfl,_,rfl,ar,_,_,_,rfl,rfl,SqT.of hr4,rfl,aa,_,rfl,.inr (SqT.of ha),_,_,rfl,rfl,_,_,rfl,rfl,?_⟩
    refine ⟨_,rfl,_,rfl,asl,_,((k - r.b.length : Nat) : Int),_,rfl,congrArg V.int (by rw [iv_len]; first | decide | (first | ((try clear ehi); (try clear elo); (try clear bz); (try clear ba); omega) | omega)),SqL.of hsl,atI_nat hxa,aA,_,_,_,rfl,rfl,SqT.of haA,rfl,_,_,rfl,rfl,_,rfl,_,rfl,asl,_,((k + r.t.length + r.a.length - 1 : Nat) : Int),_,rfl,congrArg V.int (by rw [iv_len,iv_len]; (first | ((try clear ehi); (try clear elo); (try clear bz); (try clear ba); omega) | omega)),SqL.of hsl,atI_nat hxz,aZ,_,_,_,rfl,rfl,SqT.of haZ,rfl,slo sl[k - r.b.length] + 1,shi sl[k + r.t.length + r.a.length - 1],rfl,⟨by (first | ((try clear ehi); (try clear bz); omega) | omega),by (first | ((try clear ehi); (try clear bz); omega) | omega),by (first | ((try clear elo); (try clear ba); omega) | omega),by (first | ((try clear elo); (try clear ba); omega) | omega)⟩,by omega,fun l hl => ?_⟩
    refine kq l _ (same_new hl) hl ?_
    rw [upd_same]
    unfold L2.ints2 placesL
    rw [elo,ehi]
    show some (HO.lst _) = some (HO.lst (List.map V.int (List.map _ _)))
    rw [List.map_map]; rfl
theorem ok_bars {f : Addr} {fd : FuncData} {f_rows_along : Addr} {fd_rows_along : FuncData} {f_doings : Addr} {fd_doings : FuncData} {f_is_near_across : Addr} {fd_is_near_across : FuncData} {f_shapes_of : Addr} {fd_shapes_of : FuncData} {f_places_across : Addr} {fd_places_across : FuncData} (D : Dn K mg "bars" s_bars ["case","row"] f fd) (T : Txt mg)
    (D_rows_along : Dn K mg "rows_along" s_rows_along ["case","row"] f_rows_along fd_rows_along) (G_rows_along : FnOk P w K mg base CX0 6 f_rows_along fd_rows_along ["case","row"] spRowsAlong)
    (D_doings : Dn K mg "doings" s_doings ["rules","shapes"] f_doings fd_doings) (G_doings : FnOk P w K mg base CX0 4 f_doings fd_doings ["rules","shapes"] spDoings)
    (D_is_near_across : Dn K mg "is_near_across" s_is_near_across ["case","slot","follower"] f_is_near_across fd_is_near_across) (G_is_near_across : FnOk P w K mg base CX0 2 f_is_near_across fd_is_near_across ["case","slot","follower"] spNearAcross)
    (D_shapes_of : Dn K mg "shapes_of" s_shapes_of ["slots"] f_shapes_of fd_shapes_of) (G_shapes_of : FnOk P w K mg base CX0 1 f_shapes_of fd_shapes_of ["slots"] spShapesOf)
    (D_places_across : Dn K mg "places_across" s_places_across ["rule","slots","at"] f_places_across fd_places_across) (G_places_across : FnOk P w K mg base CX0 1 f_places_across fd_places_across ["rule","slots","at"] spPlaces) :
    FnOk P w K mg base CX0 7 f fd ["case","row"] spBars := by
  refine D.F.ok (k := 6) sc_bars (fun vs H Q E h => ?_) (fun cdv A outer s H vs Q E hr h => ?_)
  · obtain ⟨vc,vr,ps,kw,kn,row,rfl,hc,hrow,⟨pok,hpl,hn1,hlen⟩,kq⟩ := h
    rfl
  · obtain ⟨vc,vr,ps,kw,kn,row,rfl,hc,hrow,⟨pok,hpl,hn1,hlen⟩,kq⟩ := h
    refine ⟨_,(pss_cons (ps_set (i := 2) sc_bars.nd rfl (by first | exact Or.inl rfl | exact Or.inr rfl) pe_dnewK)
       (pss_cons (ps_set (i := 3) sc_bars.nd rfl (by first | exact Or.inl rfl | exact Or.inr rfl) (pe_call G_rows_along (hr.mono (by decide)) (by rfl) D_rows_along.m D_rows_along.F.kp D_rows_along.b .nil pass0 (pa_cons (pv 0) (pa_cons (pv 1) pa_nil))))
       (pss_cons (ps_for PassesOwn.never rfl (pi_enum0 (by rfl) T.n_enumerate (pa_cons (pe_ix ix_tup0 (pv 0) (pe_gint (by rfl) T.c_PASSES) (fun _ _ => rfl)) pa_nil)) (pg_tup0 (n := 2) rfl (pgs_cons (pg_name (i := 4) sc_bars.nd rfl (by first | exact Or.inl rfl | exact Or.inr rfl)) (pgs_cons (pg_name (i := 5) sc_bars.nd rfl (by first | exact Or.inl rfl | exact Or.inr rfl)) pgs_nil)))
       (pss_one (ps_for PassesOwn.never rfl (pi_list0 (pe_call G_doings (hr.mono (by decide)) (by rfl) D_doings.m D_doings.F.kp D_doings.b .nil pass0 (pa_cons (pv 5) (pa_cons (pe_call G_shapes_of (hr.mono (by decide)) (by rfl) D_shapes_of.m D_shapes_of.F.kp D_shapes_of.b .nil pass0 (pa_cons (pe_ix ix_list0 (pv 3) (pv 4) (fun _ _ => rfl)) pa_nil)) pa_nil)))) (pg_tup0 (n := 2) rfl (pgs_cons (pg_name (i := 6) sc_bars.nd rfl (by first | exact Or.inl rfl | exact Or.inr rfl)) (pgs_cons (pg_name (i := 7) sc_bars.nd rfl (by first | exact Or.inl rfl | exact Or.inr rfl)) pgs_nil)))
       (pss_one (ps_for PassesOwn.never rfl (pi_list0 (pe_call G_places_across (hr.mono (by decide)) (by rfl) D_places_across.m D_places_across.F.kp D_places_across.b .nil pass0 (pa_cons (pe_ix ix_list0 (pv 5) (pv 7) (fun _ _ => rfl)) (pa_cons (pe_ix ix_list0 (pv 3) (pv 4) (fun _ _ => rfl)) (pa_cons (pv 6) pa_nil))))) (pg_name (i := 8) sc_bars.nd rfl (by first | exact Or.inl rfl | exact Or.inr rfl))
       (pss_one (ps_expr (pe_dset2 (pv 2) (pv 8) (pe_tup (pa_cons pe_str (pa_cons (pv 4) (pa_cons (pv 6) (pa_cons (pv 7) pa_nil))))) ⟨rfl,rfl,rfl,rfl⟩))))))))
       (pss_cons (ps_set (i := 9) sc_bars.nd rfl (by first | exact Or.inl rfl | exact Or.inr rfl) (pe_ix ix_list0 (pv 3) (pe_un un_neg pe_int) (fun _ _ => rfl)))
       (pss_cons (ps_for PassesOwn.never rfl (pi_range1 (by rfl) T.n_range (pa_cons (pe_op op_sub (pe_callB call_len_seq0 (by rfl) T.n_len PySem.boot_len (pa_cons (pv 9) pa_nil)) pe_int) pa_nil)) (pg_name (i := 6) sc_bars.nd rfl (by first | exact Or.inl rfl | exact Or.inr rfl))
       (pss_one (ps_if (pt_val (pe_call G_is_near_across (hr.mono (by decide)) (by rfl) D_is_near_across.m D_is_near_across.F.kp D_is_near_across.b .nil pass0 (pa_cons (pv 0) (pa_cons (pe_ix ix_list0 (pv 9) (pv 6) (fun _ _ => rfl)) (pa_cons (pe_ix ix_list0 (pv 9) (pe_op op_add (pv 6) pe_int) (fun _ _ => rfl)) pa_nil)))))
       (pss_one (ps_expr (pe_dset2 (pv 2) (pe_ix ix_tup0 (pe_ix ix_list0 (pv 9) (pv 6) (fun _ _ => rfl)) (pe_gint (by rfl) T.c_TO) (fun _ _ => rfl)) (pe_tup (pa_cons pe_str (pa_cons (pv 6) pa_nil))) ⟨rfl,rfl,rfl,rfl⟩)))
       pss_nil)))
       (pss_one (ps_ret (pv 2)))))))),?_⟩
    obtain ⟨vw,vn,hcv,hw,hnn⟩ := id hc
    obtain ⟨ac,vp,ap,xps,rfl,hac,rfl,hap,hpps⟩ := id hcv
    have hxl : xps.length = ps.length := pr_len hpps
    refine fun fo hfo => ?_
    have s0 : Same H (upd H fo (.dK [])) := same_new hfo
    refine ⟨_,rfl,_,rfl,_,vw,vn,_,ps,row,rfl,hcv.same s0,hrow.same s0,pok,hpl,hlen,fun rp rx C s1 hrp hrx hprx => ?_⟩
    have s0C : Same H C := s0.trans s1
    have hfC : C fo = some (.dK []) := s1 _ _ upd_same
    have nrf : rp ≠ fo := fun q => by rw [q,hfC] at hrx; cases hrx
    have rowB : ∀ i,i ≤ ps.length → (∀ s ∈ setRow (ps.take i) row,0 ≤ slo s ∧ slo s < shi s ∧ shi s ≤ (row.length : Int)) ∧ (setRow (ps.take i) row).length ≤ 10000 := fun i hi => by
      have sg := (setRow_sg (passes := ps.take i) (fun rs h => pok rs (List.mem_of_mem_take h)) row).1
      have b1 := setRow_len pok row i hi
      have b2 := pow_le (n := row.length) hi
      exact ⟨fun s hs => sg.wk.bounds s hs,by (first | ((try clear hi); (try clear hxl); (try clear hn1); (try clear hpl); omega) | omega)⟩
    have rowAt : ∀ i,i ≤ ps.length → ∃ x,rx[i]? = some x ∧ IsSlots C x (setRow (ps.take i) row) := fun i hi => by
      obtain ⟨x,h1,h2⟩ := pr_got (i := i) hprx (d := setRow (ps.take i) row) (by
        unfold rowsA
        rw [List.getElem?_map,List.getElem?_range (by first | decide | (first | ((try clear hlen); (try clear hn1); (try clear hpl); omega) | omega))]; rfl)
      exact ⟨x,h1,h2.2⟩
    have br0 : BR C [] (evR ps row 0) := fun p => .inl ⟨rfl,rfl⟩
    refine ⟨_,rfl,ac,_,_,_,rfl,rfl,SqT.of (s0C _ _ hac),rfl,ap,rfl,⟨_,SqL.of (s0C _ _ hap)⟩,(let Sg : (Option V) → (Option V) → (Option V) → (Option V) → (Option V) → L2.St := fun tv rv av nv pv => [some (.ref ac),some vr,some (.ref fo),some (.ref rp),tv,rv,av,nv,pv,none]; let Iv : Nat → L2.St → Hp → Prop := fun i σ H' => Ex6 fun (tv rv av nv pv : Option V) (kvs : List (Key × V)) => And5 (σ = Sg tv rv av nv pv) (SameX fo C H') (H' fo = some (.dK kvs)) (BR H' kvs (evR ps row i)) (KeysIn row.length kvs); for_enum (xs := xps) Iv
      ⟨none,none,none,none,none,[],rfl,SameX.refl _ _,hfC,br0,List.nodup_nil,fun k h => nomatch h⟩ (fun i σ H' _ zz1 => by obtain ⟨_,_,_,_,_,_,_,sx,_⟩ := zz1; exact SqL.of (sx.same s0C hfo _ _ hap)) ?_ ?_)⟩
    · rintro i x σ H1 p hx ⟨tv,rv,av,nv,pv,kvs,rfl,sx1,hf1,br1,ks1⟩ hp
      obtain ⟨rs,hrs,hrul⟩ := pr_get hpps hx
      have hil : i < ps.length := (List.getElem?_eq_some_iff.mp hrs).1
      obtain ⟨xi,hxi,hsi⟩ := rowAt i (by first | decide | (first | ((try clear hlen); (try clear hn1); (try clear hpl); omega) | omega))
      obtain ⟨rb1,rb2⟩ := rowB i (by first | decide | (first | ((try clear hlen); (try clear hn1); (try clear hpl); omega) | omega))
      have rok := pok rs (List.mem_of_getElem? hrs)
      have hgd : ps.getD i [] = rs := by rw [List.getD_eq_getElem?_getD,hrs]; rfl
      refine ⟨p,_,rfl,SqT.of upd_same,rfl,_,_,rfl,_,_,rfl,rfl,?_⟩
      have sx2 : SameX fo C (upd H1 p (.tup [.int (i : Int),x])) := sx1.trans (.of (same_new hp))
      have hf2 : (upd H1 p (.tup [.int (i : Int),x])) fo = some (.dK kvs) := same_new hp _ _ hf1
      have br2 := br1.tps (tps_of (same_new (o := .tup [.int (i : Int),x]) hp))
      generalize (upd H1 p (.tup [.int (i : Int),x])) = H2 at sx2 hf2 br2 ⊢
      have sl2 := sx2.slots hfC hsi
      refine ⟨_,rfl,_,rfl,_,rfl,rp,_,_,_,rfl,rfl,SqL.of (sx2 _ _ nrf hrx),atI_nat hxi,_,_,rfl,sl2,by (first | ((try clear hil); (try clear hxl); (try clear hlen); (try clear hn1); (try clear hpl); omega) | omega),fun sp H3 s3 hsp hsp3 => ?_⟩
      have sH3 := (sx2.same s0C hfo).trans s3
      refine ⟨_,_,rs,_,rfl,hrul.same tR sH3,⟨sp,rfl,hsp3⟩,rok,by rw [shp_len]; exact rb2,fun dp dx H4 s4 hdp hdp4 hpd => ?_⟩
      have sx4 : SameX fo C H4 := sx2.trans (.of (s3.trans s4))
      have hf4 := s4 _ _ (s3 _ _ hf2)
      have br4 := br2.tps (tps_of (s3.trans s4))
      have ndf : dp ≠ fo := fun q => by rw [q,hf4] at hdp4; cases hdp4
      refine ⟨dp,rfl,⟨_,SqL.of hdp4⟩,(let Sg : (Option V) → (Option V) → (Option V) → L2.St := fun av nv pv => [some (.ref ac),some vr,some (.ref fo),some (.ref rp),some (.int (i : Int)),some x,av,nv,pv,none]; let Iv : Nat → L2.St → Hp → Prop := fun j σ H' => Ex4 fun (av nv pv : Option V) (kvs : List (Key × V)) => And5 (σ = Sg av nv pv) (SameX fo H4 H') (H' fo = some (.dK kvs)) (BR H' kvs (evR ps row i ++ (((doer rs (shp (setRow (ps.take i) row)) 0).take j).map (evD rs (setRow (ps.take i) row) i)).flatten)) (KeysIn row.length kvs); for_list (xs := dx) Iv
        ⟨av,nv,pv,kvs,rfl,SameX.refl _ _,hf4,by rw [List.take_zero]; show BR H4 kvs (evR ps row i ++ []); rw [List.append_nil]; exact br4,ks1⟩ (fun j σ H' _ zz1 => by obtain ⟨_,_,_,_,_,sx,_⟩ := zz1; exact SqL.of (sx _ _ ndf hdp4)) ?_ ?_)⟩
      · rintro j y σ H5 hy ⟨av,nv,pv,kvs,rfl,sx5,hf5,br5,ks5⟩
        obtain ⟨⟨k,m⟩,hkm,ad,rfl,had⟩ := pr_get hpd hy
        have nadf : ad ≠ fo := fun q => by rw [q,hf4] at had; cases had
        have had5 := sx5 _ _ nadf had
        obtain ⟨r,hr,q1,q2,q3⟩ := doer_rule (List.mem_of_getElem? hkm)
        rw [shp_len] at q3
        obtain ⟨xr,xrs,rfl,har,hprs⟩ := id hrul
        obtain ⟨xm,hxm,hrm⟩ := pr_got hprs hr
        refine ⟨ad,_,rfl,SqT.of had5,rfl,_,_,rfl,_,_,rfl,rfl,?_⟩
        have sx5C := sx4.trans sx5
        have sH5 := sx5C.same s0C hfo
        refine ⟨_,rfl,_,rfl,xr,_,_,_,rfl,rfl,SqL.of (sH5 _ _ har),atI_nat hxm,_,rfl,_,rfl,rp,_,_,_,rfl,rfl,SqL.of (sx5C _ _ nrf hrx),atI_nat hxi,_,rfl,_,_,k,r,_,rfl,hrm.tps (tps_of sH5),sx5C.slots hfC hsi,q1,q2,q3,(fun s hs => by have := rb1 s hs; (first | ((try clear q3); (try clear q2); (try clear q1); (try clear rb2); (try clear hil); (try clear hxl); (try clear hlen); (try clear hpl); omega) | omega)),fun lp H6 s6 hlp hlp6 => ?_⟩
        have hf6 := s6 _ _ hf5
        have br6 := br5.tps (tps_of s6)
        have nlf : lp ≠ fo := fun q => by rw [q,hf6] at hlp6; cases hlp6
        refine ⟨lp,rfl,⟨_,SqL.of hlp6⟩,(let Sg : (Option V) → L2.St := fun pv => [some (.ref ac),some vr,some (.ref fo),some (.ref rp),some (.int (i : Int)),some (.ref xr),some (.int (k : Int)),some (.int (m : Int)),pv,none]; let Iv : Nat → L2.St → Hp → Prop := fun l σ H' => Ex2 fun (pv : Option V) (kvs : List (Key × V)) => And5 (σ = Sg pv) (SameX fo H6 H') (H' fo = some (.dK kvs)) (BR H' kvs (evR ps row i ++ (((doer rs (shp (setRow (ps.take i) row)) 0).take j).map (evD rs (setRow (ps.take i) row) i)).flatten ++ ((placesL (setRow (ps.take i) row) k r).take l).map fun p => (p,Bar.rule i k m))) (KeysIn row.length kvs); for_list (xs := iv (placesL (setRow (ps.take i) row) k r)) Iv
          ⟨pv,kvs,rfl,SameX.refl _ _,hf6,by rw [List.take_zero]; show BR H6 kvs (_ ++ []); rw [List.append_nil]; exact br6,ks5⟩ (fun j σ H' _ zz1 => by obtain ⟨_,_,_,sx,_⟩ := zz1; exact SqL.of (sx _ _ nlf hlp6)) ?_ ?_)⟩
        · rintro l z σ H7 hz ⟨pv,kvs,rfl,sx7,hf7,br7,ks7⟩
          obtain ⟨pl,hpl',rfl⟩ := at_iv hz
          have hmp := mem_places.mp (List.mem_of_getElem? hpl')
          have ela : 0 ≤ ruleLo (setRow (ps.take i) row) k r := by
            unfold ruleLo
            rw [List.getElem?_eq_getElem (by first | decide | (first | ((try clear hmp); (try clear rb2); (try clear hil); (try clear hxl); (try clear hlen); (try clear hn1); (try clear hpl); omega) | omega))]
            exact (rb1 _ (List.getElem_mem _)).1
          have eha : ruleHi (setRow (ps.take i) row) k r ≤ (row.length : Int) := by
            unfold ruleHi
            rw [List.getElem?_eq_getElem (by first | decide | (first | ((try clear ela); (try clear hmp); (try clear rb2); (try clear hil); (try clear hxl); (try clear hlen); (try clear hn1); (try clear hpl); omega) | omega))]
            exact (rb1 _ (List.getElem_mem _)).2.2
          obtain ⟨pn,rfl⟩ := Int.eq_ofNat_of_zero_le (show 0 ≤ pl by (first | ((try clear eha); (try clear q3); (try clear q2); (try clear q1); (try clear rb2); (try clear hil); (try clear hxl); (try clear hlen); (try clear hn1); (try clear hpl); omega) | omega))
          have hkl := ks7.len
          refine ⟨_,rfl,fo,rfl,.inl ⟨_,.inl hf7⟩,_,rfl,_,rfl,_,rfl,_,rfl,(by show 4 ≤ sizeLine; decide),fun t ht => ?_⟩
          have hft : (upd H7 t (.tup [.str "rule",.int (i : Int),.int (k : Int),.int (m : Int)])) fo = some (.dK kvs) := same_new ht _ _ hf7
          have brt := br7.tps (tps_of (same_new (o := .tup [.str "rule",.int (i : Int),.int (k : Int),.int (m : Int)]) ht))
          have sxt : SameX fo H6 (upd H7 t (.tup [.str "rule",.int (i : Int),.int (k : Int),.int (m : Int)])) := sx7.trans (.of (same_new ht))
          have esn : ((placesL (setRow (ps.take i) row) k r).take (l + 1)).map (fun p => (p,Bar.rule i k m)) = ((placesL (setRow (ps.take i) row) k r).take l).map (fun p => (p,Bar.rule i k m)) ++ [((pn : Int),Bar.rule i k m)] := by
            rw [take_snoc hpl',List.map_append]; rfl
          refine ⟨kvs,Sum.inl (pn : Int),rfl,hft,small (by first | decide | (first | ((try clear hmp); (try clear eha); (try clear ela); (try clear q3); (try clear q2); (try clear q1); (try clear rb2); (try clear hil); (try clear hxl); (try clear hlen); (try clear hpl); omega) | omega)),fun v hv => ?_,fun hv => ?_⟩
          · refine ⟨_,kvs,rfl,sxt,hft,?_,ks7⟩
            rw [esn,← List.append_assoc]
            exact brt.old hv
          · refine ⟨_,_,rfl,sxt.trans .upd,upd_same,?_,ks7.put hv (by first | decide | (first | ((try clear hkl); (try clear eha); (try clear q3); (try clear q2); (try clear q1); (try clear rb2); (try clear hil); (try clear hxl); (try clear hlen); (try clear hn1); (try clear hpl); omega) | omega)) (by first | decide | (first | ((try clear hkl); (try clear ela); (try clear q3); (try clear q2); (try clear q1); (try clear rb2); (try clear hil); (try clear hxl); (try clear hlen); (try clear hn1); (try clear hpl); omega) | omega))⟩
            rw [esn,← List.append_assoc]
            refine (brt.new hv (v := .ref t) (b := Bar.rule i k m) ⟨t,rfl,upd_same⟩).tps ?_
            exact SameX.tps (q := fo) .upd hft
        · rintro σ H7 ⟨pv,kvs,rfl,sx7,hf7,br7,ks7⟩
          rw [iv_len,List.take_length,List.append_assoc] at br7
          refine ⟨_,_,_,kvs,rfl,(sx5.trans (.of s6)).trans sx7,hf7,?_,ks7⟩
          rw [take_snoc hkm,flat_snoc]
          have ed : evD rs (setRow (ps.take i) row) i (k,m) = (placesL (setRow (ps.take i) row) k r).map fun p => (p,Bar.rule i k m) := by
            unfold evD; rw [hr]
          rw [ed]; exact br7
      · rintro σ H5 ⟨av,nv,pv,kvs,rfl,sx5,hf5,br5,ks5⟩
        have hdl : dx.length = (doer rs (shp (setRow (ps.take i) row)) 0).length := pr_len hpd
        rw [List.take_of_length_le (l := doer rs (shp (setRow (ps.take i) row)) 0) (by first | decide | (first | ((try clear rb2); (try clear hil); (try clear hxl); (try clear hlen); (try clear hn1); (try clear hpl); omega) | omega))] at br5
        refine ⟨_,_,_,_,_,kvs,rfl,sx4.trans sx5,hf5,?_,ks5⟩
        have : evR ps row (i + 1) = evR ps row i ++ evP rs (setRow (ps.take i) row) i := by
          unfold evR; rw [flat_succ,hgd]
        rw [this]; exact br5
    rintro σ H1 ⟨tv,rv,av,nv,pv,kvs,rfl,sx1,hf1,br1,ks1⟩
    rw [hxl] at br1
    obtain ⟨xz,hxz,hz1,az,zs,rfl,haz,hpz⟩ := pr_last hprx (rowsA_last ps row)
    obtain ⟨rb1,rb2⟩ := rowB ps.length (Nat.le_refl _)
    rw [List.take_length] at rb1 rb2
    have nzf : az ≠ fo := fun q => by rw [q,hfC] at haz; cases haz
    have hzl : zs.length = (setRow ps row).length := pr_len hpz
    refine ⟨_,rfl,_,rfl,rp,_,_,_,rfl,rfl,SqL.of (sx1 _ _ nrf hrx),atI_lastq hxz,?_⟩
    refine ⟨_,rfl,az,_,rfl,.inl (SqL.of (sx1 _ _ nzf haz)),_,_,rfl,rfl,_,rfl,by (first | ((try clear hxl); (try clear hlen); (try clear hn1); (try clear hpl); omega) | omega),by (first | ((try clear hxl); (try clear hlen); (try clear hn1); (try clear hpl); omega) | omega),(let Sg : (Option V) → L2.St := fun av => [some (.ref ac),some vr,some (.ref fo),some (.ref rp),tv,rv,av,nv,pv,some (.ref az)]; let Iv : Nat → L2.St → Hp → Prop := fun i σ H' => Ex2 fun (av : Option V) (kvs : List (Key × V)) => And5 (σ = Sg av) (SameX fo C H') (H' fo = some (.dK kvs)) (BR H' kvs (evR ps row ps.length ++ evN (nrOf kn) (setRow ps row) i)) (KeysIn row.length kvs); for_range (n := ((zs.length : Int) - 1).toNat) Iv
      ⟨_,kvs,rfl,sx1,hf1,by show BR H1 kvs (_ ++ []); rw [List.append_nil]; exact br1,ks1⟩ ?_ ?_)⟩
    · rintro i σ H2 hi ⟨av,kvs,rfl,sx2,hf2,br2,ks2⟩
      have hsa : (setRow ps row)[i]? = some (setRow ps row)[i] := List.getElem?_eq_getElem (by first | decide | (first | ((try clear rb2); (try clear hxl); (try clear hlen); (try clear hn1); (try clear hpl); omega) | omega))
      have hsb : (setRow ps row)[i + 1]? = some (setRow ps row)[i + 1] := List.getElem?_eq_getElem (by first | decide | (first | ((try clear rb2); (try clear hxl); (try clear hlen); (try clear hn1); (try clear hpl); omega) | omega))
      obtain ⟨xa,hxa,aA,rfl,haA⟩ := pr_got hpz hsa
      obtain ⟨xb,hxb,aB,rfl,haB⟩ := pr_got hpz hsb
      have haz2 := sx2 _ _ nzf haz
      have tp2 := sx2.tps hfC
      have ha2 := tp2 _ _ haA
      have hb2 := tp2 _ _ haB
      have ba := rb1 _ (List.mem_of_getElem? hsa)
      refine ⟨_,rfl,_,rfl,_,rfl,az,_,(i : Int),_,rfl,congrArg V.int (by first | exact Int.zero_add _ | omega),SqL.of haz2,atI_nat hxa,_,rfl,_,rfl,_,_,rfl,rfl,az,_,((i + 1 : Nat) : Int),_,rfl,congrArg V.int (by first | exact Int.zero_add _ | (first | ((try clear ba); (try clear rb2); (try clear hxl); (try clear hlen); (try clear hn1); (try clear hpl); omega) | omega)),SqL.of haz2,atI_nat hxb,_,_,_,ps,kw,kn,_,_,rfl,hc.same (sx2.same s0C hfo),⟨aA,rfl,ha2⟩,⟨aB,rfl,hb2⟩,fun H3 s3 => ⟨_,rfl,?_⟩⟩
      have hf3 := s3 _ _ hf2
      have br3 := br2.tps (tps_of s3)
      have sx3 : SameX fo C H3 := sx2.trans (.of s3)
      have esn : evN (nrOf kn) (setRow ps row) (i + 1) = evN (nrOf kn) (setRow ps row) i ++ if nearB (nrOf kn) (setRow ps row)[i] (setRow ps row)[i + 1] = true then [(shi (setRow ps row)[i],Bar.near i)] else [] := by
        unfold evN
        rw [flat_succ]
        congr 1
        unfold nearEv
        rw [hsa,hsb]
      refine ite2 (fun h0 => ?_) (fun h0 => ?_)
      · rw [if_pos h0] at esn
        have haz3 := s3 _ _ haz2
        have ha3 := s3 _ _ ha2
        obtain ⟨pn,hpn⟩ : ∃ h : Nat,shi (setRow ps row)[i] = (h : Int) := Int.eq_ofNat_of_zero_le (show 0 ≤ shi (setRow ps row)[i] by (first | ((try clear rb2); (try clear hxl); (try clear hlen); (try clear hn1); (try clear hpl); omega) | omega))
        have e2 : (setRow ps row)[i].2.2 = (pn : Int) := hpn
        rw [hpn] at esn ba
        rw [e2] at ha3
        have hkl := ks2.len
        refine ⟨_,rfl,fo,rfl,.inl ⟨_,.inl hf3⟩,_,rfl,_,rfl,az,_,(i : Int),_,rfl,congrArg V.int (by first | exact Int.zero_add _ | omega),SqL.of haz3,atI_nat hxa,aA,_,_,_,rfl,rfl,SqT.of ha3,rfl,_,rfl,(by show 2 ≤ sizeLine; decide),fun t ht => ?_⟩
        rw [show (0 : Int) + (i : Int) = (i : Int) by (first | ((try clear hkl); (try clear e2); (try clear hpn); (try clear ba); (try clear rb2); (try clear hxl); (try clear hlen); (try clear hn1); (try clear hpl); omega) | omega)] at *
        have hft : (upd H3 t (.tup [.str "near",.int (i : Int)])) fo = some (.dK kvs) := same_new ht _ _ hf3
        have brt := br3.tps (tps_of (same_new (o := .tup [.str "near",.int (i : Int)]) ht))
        have sxt : SameX fo C (upd H3 t (.tup [.str "near",.int (i : Int)])) := sx3.trans (.of (same_new ht))
        refine ⟨kvs,Sum.inl (pn : Int),rfl,hft,small (by first | decide | (first | ((try clear e2); (try clear hpn); (try clear ba); (try clear rb2); (try clear hxl); (try clear hlen); (try clear hpl); omega) | omega)),fun v hv => ?_,fun hv => ?_⟩
        · refine ⟨_,kvs,rfl,sxt,hft,?_,ks2⟩
          rw [esn,← List.append_assoc]
          exact brt.old hv
        · refine ⟨_,_,rfl,sxt.trans .upd,upd_same,?_,ks2.put hv (by first | decide | (first | ((try clear hkl); (try clear rb2); (try clear hxl); (try clear hlen); (try clear hn1); (try clear hpl); omega) | omega)) (by first | decide | (first | ((try clear hkl); (try clear rb2); (try clear hxl); (try clear hlen); (try clear hn1); (try clear hpl); omega) | omega))⟩
          rw [esn,← List.append_assoc]
          refine (brt.new hv (v := .ref t) (b := Bar.near i) ⟨t,rfl,upd_same⟩).tps ?_
          exact SameX.tps (q := fo) .upd hft
      · rw [if_neg h0,List.append_nil] at esn
        exact ⟨_,kvs,rfl,sx3,hf3,by rw [esn]; exact br3,ks2⟩
    · rintro σ H2 ⟨av,kvs,rfl,sx2,hf2,br2,ks2⟩
      rw [hzl,show (((setRow ps row).length : Int) - 1).toNat = (setRow ps row).length - 1 by (first | ((try clear hxl); (try clear hlen); (try clear hn1); (try clear hpl); omega) | omega)] at br2
      exact ⟨_,rfl,kq fo kvs H2 (sx2.same s0C hfo) hfo hf2 br2⟩
theorem ok_cuts {f : Addr} {fd : FuncData} {f_bars : Addr} {fd_bars : FuncData} (D : Dn K mg "cuts" s_cuts ["case","row"] f fd) (T : Txt mg)
    (D_bars : Dn K mg "bars" s_bars ["case","row"] f_bars fd_bars) (G_bars : FnOk P w K mg base CX0 7 f_bars fd_bars ["case","row"] spBars) :
    FnOk P w K mg base CX0 8 f fd ["case","row"] spCuts := by
  refine D.F.ok (k := 7) sc_cuts (fun vs H Q E h => ?_) (fun cdv A outer s H vs Q E hr h => ?_)
  · obtain ⟨vc,vr,ps,kw,kn,row,rfl,hc,⟨ar,rfl,hrow⟩,ok,kq⟩ := h
    rfl
  · obtain ⟨vc,vr,ps,kw,kn,row,rfl,hc,⟨ar,rfl,hrow⟩,ok,kq⟩ := h
    refine ⟨_,(pss_cons (ps_set (i := 2) sc_cuts.nd rfl (by first | exact Or.inl rfl | exact Or.inr rfl) (pe_call G_bars (hr.mono (by decide)) (by rfl) D_bars.m D_bars.F.kp D_bars.b .nil pass0 (pa_cons (pv 0) (pa_cons (pv 1) pa_nil))))
       (pss_one (ps_ret (pe_lc ["place"] [2] rfl (pi_range2 (by rfl) T.n_range (pa_cons pe_int (pa_cons (pe_callB call_len_seq0 (by rfl) T.n_len PySem.boot_len (pa_cons (pv 1) pa_nil)) pa_nil))) (fun _ _ _ _ => ⟨(pg_name (i := 0) (by exact (show (["place","barred"] : List Str).Nodup by decide +kernel)) rfl (by first | exact Or.inl rfl | exact Or.inr rfl)),(pts_one (pt_cmp (pc_dnotin (hu_of hr) (pv 0) (pv 1)))),(pv 0)⟩))))),?_⟩
    refine ⟨_,rfl,_,rfl,_,_,ps,kw,kn,row,rfl,hc,⟨ar,rfl,hrow⟩,ok,fun fo kvs H1 s1 hfo hf1 br => ?_⟩
    have hl := ok.2.2.1
    refine ⟨_,rfl,ar,_,rfl,.inl (SqL.of (s1 _ _ hrow)),_,_,rfl,⟨by (first | ((try clear hl); omega) | omega),by (first | ((try clear hl); omega) | omega),by (first | ((try clear hl); omega) | omega),by rw [iv_len]; omega⟩,fun D hD => (let Iv : Nat → List V → L2.St → Hp → Prop := fun i ys τ H' => ∃ a,And4 (τ = [a,some (.ref fo)]) (Same H1 H') (H' D = some (.lst ys)) (ys = iv (nv' (cutsN (evAll ps (nrOf kn) row) i))); lc_range (lo := 1) (n := (((iv row).length : Int) - 1).toNat) Iv
      ⟨none,rfl,same_new hD,upd_same,rfl⟩ (fun i ys τ H' _ zz1 => by obtain ⟨_,_,_,h',_⟩ := zz1; exact h') ?_ ?_)⟩
    · rintro i ys τ H' hi ⟨a,rfl,s2,hd2,rfl⟩
      have hcl := cuts_len (evAll ps (nrOf kn) row) i
      rw [iv_len] at hi
      refine ⟨_,rfl,_,rfl,fo,_,rfl,DGet.k (k := Sum.inl (1 + (i : Int))) (s2 _ _ hf1),_,rfl,?_⟩
      have hb := br ((1 + i : Nat) : Int)
      rw [show ((1 + i : Nat) : Int) = 1 + (i : Int) by (first | ((try clear hb); (try clear hcl); (try clear hi); (try clear hl); omega) | omega)] at hb
      have hsucc := cutsN_succ (evAll ps (nrOf kn) row) i
      rw [show ((1 + i : Nat) : Int) = 1 + (i : Int) by (first | ((try clear hb); (try clear hcl); (try clear hi); (try clear hl); omega) | omega)] at hsucc
      rcases hb with ⟨b1,b2⟩ | ⟨b,v,b1,b2,b3⟩
      · rw [b2]
        refine iteT ?_
        refine ⟨_,rfl,hd2,small (by rw [iv_len,List.length_map]; (first | ((try clear hb); omega) | omega)),_,rfl,same_off s2 hD,upd_same,?_⟩
        rw [hsucc,b1]
        show _ = iv (List.map _ (_ ++ [1 + i]))
        rw [List.map_append,iv_app]
        show _ = _ ++ [V.int ((1 + i : Nat) : Int)]
        rw [show ((1 + i : Nat) : Int) = 1 + (i : Int) by (first | ((try clear hb); (try clear hcl); (try clear hi); (try clear hl); omega) | omega)]
      · rw [b2]
        refine iteF ?_
        refine ⟨_,rfl,s2,hd2,?_⟩
        rw [hsucc,b1]
        show _ = iv (List.map _ (_ ++ []))
        rw [List.append_nil]
    · rintro ys τ H' ⟨a,rfl,s2,hd2,rfl⟩
      rw [iv_len,show ((row.length : Int) - 1).toNat = row.length - 1 by omega] at hd2
      exact kq D H' (s1.trans s2) (s1.free hD) hd2
theorem ok_line_end {f : Addr} {fd : FuncData} (D : Dn K mg "line_end" s_line_end ["far","places","begin","measure"] f fd) (T : Txt mg) :
    FnOk P w K mg base CX0 1 f fd ["far","places","begin","measure"] spLineEnd := by
  refine D.F.ok (k := 0) sc_line_end (fun vs H Q E h => ?_) (fun cdv A outer s H vs Q E hr h => ?_)
  · obtain ⟨vf,vp,far,places,b,m,f',rfl,⟨af,rfl,hf⟩,⟨ap,rfl,hp⟩,hne,hlen,hb,hq,kq⟩ := h
    rfl
  · obtain ⟨vf,vp,far,places,b,m,f',rfl,⟨af,rfl,hf⟩,⟨ap,rfl,hp⟩,hne,hlen,hb,hq,kq⟩ := h
    refine ⟨_,(pss_cons (ps_setLc (i := 4) ["place"] [3,0,2] sc_line_end.nd rfl (by first | exact Or.inl rfl | exact Or.inr rfl) rfl (pi_list0 (pv 1)) (fun _ _ _ _ => ⟨(pg_name (i := 0) (by exact (show (["place","measure","far","begin"] : List Str).Nodup by decide +kernel)) rfl (by first | exact Or.inl rfl | exact Or.inr rfl)),(pts_one (pt_cmpR op_le (pe_op op_sub (pe_ix ix_list0 (pv 2) (pv 0) (fun _ _ => rfl)) (pe_ix ix_list0 (pv 2) (pv 3) (fun _ _ => rfl))) (pv 1) (nomark _))),(pv 0)⟩))
       (pss_one (ps_ret (pe_maxD hr.hd (by rfl) T.n_max (pv 4) (pe_ix ix_list0 (pv 1) pe_int (fun _ _ => rfl)))))),?_⟩
    refine ⟨_,rfl,ap,rfl,⟨_,SqL.of hp⟩,fun D hD => (let Iv : Nat → List V → L2.St → Hp → Prop := fun i ys τ H' => ∃ a,And4 (τ = [a,some (.int m),some (.ref af),some (.int (b : Int))]) (Same H H') (H' D = some (.lst ys)) (ys = iv (nv' ((places.take i).filter fun q => decide (f' q - f' b ≤ m)))); lc_list (xs := iv (nv' places)) Iv
      ⟨none,rfl,same_new hD,upd_same,rfl⟩ (fun i ys τ H' _ zz1 => by obtain ⟨_,_,s',h',_⟩ := zz1; exact ⟨h',SqL.of (s' _ _ hp)⟩) ?_ ?_)⟩
    · rintro i x ys τ H' hx ⟨a,rfl,s1,hd1,rfl⟩
      obtain ⟨q,hqn,rfl⟩ := at_ivn hx
      have hil := (List.getElem?_eq_some_iff.mp hqn).1
      have hfl : ((places.take i).filter fun q => decide (f' q - f' b ≤ m)).length ≤ i := Nat.le_trans (List.length_filter_le _ _) (by rw [List.length_take]; (first | ((try clear hlen); omega) | omega))
      have hfq := hq q (List.mem_of_getElem? hqn)
      refine ⟨_,rfl,_,rfl,af,_,_,_,rfl,rfl,SqL.of (s1 _ _ hf),atI_iv hfq,_,rfl,_,rfl,af,_,_,_,rfl,rfl,SqL.of (s1 _ _ hf),atI_iv hb,_,_,rfl,rfl,_,rfl,_,_,rfl,rfl,_,rfl,?_⟩
      by_cases c : f' q - f' b ≤ m
      · rw [decide_eq_true c]
        refine iteT ?_
        refine ⟨_,rfl,hd1,small (by rw [ivn_len]; (first | ((try clear c); omega) | omega)),_,rfl,same_off s1 hD,upd_same,?_⟩
        rw [take_snoc hqn,List.filter_append,List.filter_cons_of_pos (p := fun q => decide (f' q - f' b ≤ m)) (decide_eq_true c),List.filter_nil,ivn_snoc]
      · rw [decide_eq_false c]
        refine iteF ?_
        refine ⟨_,rfl,s1,hd1,?_⟩
        rw [take_snoc hqn,List.filter_append,List.filter_cons_of_neg (p := fun q => decide (f' q - f' b ≤ m)) (by rw [decide_eq_false c]; exact Bool.false_ne_true),List.filter_nil,List.append_nil]
    rintro ys τ H' ⟨a,rfl,s1,hd1,rfl⟩
    rw [ivn_len,List.take_length] at hd1
    obtain ⟨p0,hp0⟩ := exHead hne
    have hp00 : (nv' places)[0]? = some (p0 : Int) := by rw [List.getElem?_map,← List.head?_eq_getElem?,hp0]; rfl
    refine ⟨_,rfl,_,rfl,ap,_,((0 : Nat) : Int),_,rfl,rfl,SqL.of (s1 _ _ hp),atI_iv hp00,D,nv' (places.filter fun q => decide (f' q - f' b ≤ m)),rfl,hd1,fun e he hmax => ?_,fun hnil => ?_⟩
    · obtain ⟨en,hen,rfl⟩ := List.mem_map.mp he
      rw [List.mem_filter] at hen
      refine kq en H' s1 (.inl ⟨hen.1,of_decide_eq_true hen.2,fun q hq1 hq2 => ?_⟩)
      have := hmax (q : Int) (List.mem_map.mpr ⟨q,List.mem_filter.mpr ⟨hq1,decide_eq_true hq2⟩,rfl⟩)
      (first | ((try clear hq2); (try clear hlen); omega) | omega)
    · refine kq p0 H' s1 (.inr ⟨fun q hq1 hq2 => ?_,hp0⟩)
      have : q ∈ places.filter fun q => decide (f' q - f' b ≤ m) := List.mem_filter.mpr ⟨hq1,decide_eq_true hq2⟩
      rw [List.map_eq_nil_iff.mp hnil] at this
      cases this
theorem ok_lines {f : Addr} {fd : FuncData} {f_carets : Addr} {fd_carets : FuncData} {f_cuts : Addr} {fd_cuts : FuncData} {f_line_end : Addr} {fd_line_end : FuncData} (D : Dn K mg "lines" s_lines ["case","row","measure"] f fd) (T : Txt mg)
    (D_carets : Dn K mg "carets" s_carets ["case","row"] f_carets fd_carets) (G_carets : FnOk P w K mg base CX0 8 f_carets fd_carets ["case","row"] spCarets)
    (D_cuts : Dn K mg "cuts" s_cuts ["case","row"] f_cuts fd_cuts) (G_cuts : FnOk P w K mg base CX0 8 f_cuts fd_cuts ["case","row"] spCuts)
    (D_line_end : Dn K mg "line_end" s_line_end ["far","places","begin","measure"] f_line_end fd_line_end) (G_line_end : FnOk P w K mg base CX0 1 f_line_end fd_line_end ["far","places","begin","measure"] spLineEnd) :
    FnOk P w K mg base CX0 9 f fd ["case","row","measure"] spLines := by
  refine D.F.ok (k := 8) sc_lines (fun vs H Q E h => ?_) (fun cdv A outer s H vs Q E hr h => ?_)
  · obtain ⟨vc,vr,ps,kw,kn,row,m,rfl,hc,⟨ar,rfl,hrow⟩,ok,kq⟩ := h
    rfl
  · obtain ⟨vc,vr,ps,kw,kn,row,m,rfl,hc,⟨ar,rfl,hrow⟩,ok,kq⟩ := h
    refine ⟨_,(pss_cons (ps_set (i := 3) sc_lines.nd rfl (by first | exact Or.inl rfl | exact Or.inr rfl) (pe_op op_cat (pe_call G_cuts (hr.mono (by decide)) (by rfl) D_cuts.m D_cuts.F.kp D_cuts.b .nil pass0 (pa_cons (pv 0) (pa_cons (pv 1) pa_nil))) (pe_lst (pa_cons (pe_callB call_len_seq0 (by rfl) T.n_len PySem.boot_len (pa_cons (pv 1) pa_nil)) pa_nil))))
       (pss_cons (ps_set (i := 4) sc_lines.nd rfl (by first | exact Or.inl rfl | exact Or.inr rfl) (pe_call G_carets (hr.mono (by decide)) (by rfl) D_carets.m D_carets.F.kp D_carets.b .nil pass0 (pa_cons (pv 0) (pa_cons (pv 1) pa_nil))))
       (pss_cons (ps_set (i := 5) sc_lines.nd rfl (by first | exact Or.inl rfl | exact Or.inr rfl) (pe_lst pa_nil))
       (pss_cons (ps_set (i := 6) sc_lines.nd rfl (by first | exact Or.inl rfl | exact Or.inr rfl) pe_int)
       (pss_cons (ps_while PassesOwn.never (pt_cmpR op_lt (pv 6) (pe_callB call_len_seq0 (by rfl) T.n_len PySem.boot_len (pa_cons (pv 1) pa_nil)) (nomark _))
       (pss_cons (ps_set (i := 7) sc_lines.nd rfl (by first | exact Or.inl rfl | exact Or.inr rfl) (pe_call G_line_end (hr.mono (by decide)) (by rfl) D_line_end.m D_line_end.F.kp D_line_end.b .nil pass0 (pa_cons (pv 4) (pa_cons (pe_lc ["place"] [6] rfl (pi_list0 (pv 3)) (fun _ _ _ _ => ⟨(pg_name (i := 0) (by exact (show (["place","begin"] : List Str).Nodup by decide +kernel)) rfl (by first | exact Or.inl rfl | exact Or.inr rfl)),(pts_one (pt_cmpR op_gt (pv 0) (pv 1) (nomark _))),(pv 0)⟩)) (pa_cons (pv 6) (pa_cons (pv 2) pa_nil))))))
       (pss_cons (ps_expr (pe_bmZ PySem.F.plainAttrs_list PySem.F.slot_list_append PySem.F.type_list_append mt_append (pv 5) (pa_cons (pe_tup (pa_cons (pv 6) (pa_cons (pv 7) pa_nil))) pa_nil)))
       (pss_one (ps_set (i := 6) sc_lines.nd rfl (by first | exact Or.inl rfl | exact Or.inr rfl) (pv 7))))))
       (pss_one (ps_ret (pv 5)))))))),?_⟩
    obtain ⟨pok,hpl,hn1,hlen⟩ := id ok
    refine ⟨_,rfl,_,rfl,_,_,ps,kw,kn,row,rfl,hc,⟨ar,rfl,hrow⟩,ok,fun qp H1 s1 hqp hqp1 => ?_⟩
    refine ⟨_,rfl,ar,_,rfl,.inl (SqL.of (s1 _ _ hrow)),(by show 1 ≤ sizeLine; decide),fun l1 hl1 => ?_⟩
    have s2 := s1.trans (same_new (o := .lst [.int ((iv row).length : Int)]) hl1)
    have hcl := cuts_len (evAll ps (nrOf kn) row) (row.length - 1)
    refine ⟨qp,l1,_,_,rfl,rfl,(same_new hl1) _ _ hqp1,upd_same,small' (by rw [ivn_len]; show _ + 1 ≤ 100000; (first | ((try clear hlen); (try clear hpl); omega) | omega)),fun pp hpp => ?_⟩
    have s3 := s2.trans (same_new (o := .lst (iv (nv' (cutsN (evAll ps (nrOf kn) row) (row.length - 1))) ++ [.int ((iv row).length : Int)])) hpp)
    have hpp3 : (upd (upd H1 l1 (.lst [.int ((iv row).length : Int)])) pp (.lst (iv (nv' (cutsN (evAll ps (nrOf kn) row) (row.length - 1))) ++ [.int ((iv row).length : Int)]))) pp = some (.lst (iv (nv' (placesOf ps (nrOf kn) row)))) := by
      rw [upd_same]; unfold placesOf; rw [ivn_snoc,iv_len]
    generalize (upd (upd H1 l1 (.lst [.int ((iv row).length : Int)])) pp (.lst (iv (nv' (cutsN (evAll ps (nrOf kn) row) (row.length - 1))) ++ [.int ((iv row).length : Int)]))) = H3 at s3 hpp3 ⊢
    have plen : (placesOf ps (nrOf kn) row).length ≤ row.length + 1 := by unfold placesOf; rw [List.length_append,List.length_singleton]; (first | ((try clear hlen); (try clear hpl); omega) | omega)
    refine ⟨_,rfl,_,rfl,_,_,ps,kw,kn,row,rfl,hc.same s3,⟨ar,rfl,s3 _ _ hrow⟩,ok,fun fp H4 s4 hfp hfp4 => ?_⟩
    have s34 := s3.trans s4
    refine ⟨Nat.zero_le _,fun tp htp => ?_⟩
    have s5 : Same H4 (upd H4 tp (.lst [])) := same_new htp
    have htp0 : H tp = none := s34.free htp
    have okp : ∀ q ∈ placesOf ps (nrOf kn) row,okPlace ps (nrOf kn) row q ∧ q ≤ row.length := fun q hq => by
      unfold placesOf at hq
      rcases List.mem_append.mp hq with hq | hq
      · obtain ⟨k1,k2,k3⟩ := mem_cuts.mp hq
        obtain ⟨c1,c2⟩ := cut_free k3
        exact ⟨.inr (.inr ⟨k1,by (first | ((try clear plen); (try clear hcl); (try clear hlen); (try clear hn1); (try clear hpl); omega) | omega),c1,c2⟩),by (first | ((try clear k1); (try clear plen); (try clear hcl); (try clear hlen); (try clear hpl); omega) | omega)⟩
      · rw [List.mem_singleton.mp hq]; exact ⟨.inr (.inl rfl),Nat.le_refl _⟩
    let Wv : Nat → L2.St → Hp → Prop := fun k τ H' => Ex4 fun (b : Nat) (ev : Option V) (ys : List V) (acc : List (Nat × Nat)) => And9 (τ = [some vc,some (.ref ar),some (.int m),some (.ref pp),some (.ref fp),some (.ref tp),some (.int (b : Int)),ev]) (k = row.length - b) (SameX tp H4 H') (H' tp = some (.lst ys)) (Paired (IsP H') ys acc) (okPlace ps (nrOf kn) row b) (b ≤ row.length) (acc.length ≤ b) ((∀ l,LinesAre (wTo ps (wdOf kw) (nrOf kn) row) (placesOf ps (nrOf kn) row) row.length m b l → LinesAre (wTo ps (wdOf kw) (nrOf kn) row) (placesOf ps (nrOf kn) row) row.length m 0 (acc ++ l)))
    refine ⟨Wv,⟨_,0,none,[],[],rfl,rfl,.of s5,upd_same,.nil,.inl rfl,Nat.zero_le _,Nat.le_refl _,fun l h => h⟩,?_⟩
    rintro k τ H6 ⟨b,ev,ys,acc,rfl,rfl,sx,ht6,hpy,okb,hbl,hal,hlin⟩
    have sH6 : Same H H6 := sx.same s34 htp0
    have npt : pp ≠ tp := ne_of_none (s4 _ _ hpp3) htp
    have nft : fp ≠ tp := ne_of_none hfp4 htp
    have hpp6 := sx _ _ npt (s4 _ _ hpp3)
    have hfp6 := sx _ _ nft hfp4
    refine ⟨_,rfl,_,rfl,ar,_,rfl,.inl (SqL.of (sH6 _ _ hrow)),_,_,rfl,rfl,_,rfl,?_⟩
    refine ite2 (fun h0 => ⟨_,fun _ _ h => h,?_⟩) (fun h0 => ?_)
    · have hb : b < row.length := by
        have : (b : Int) < ((iv row).length : Int) := by simpa using h0
        rw [iv_len] at this; (first | ((try clear hal); (try clear hbl); (try clear plen); (try clear hcl); (try clear hlen); (try clear hn1); (try clear hpl); omega) | omega)
      refine ⟨_,rfl,_,rfl,pp,rfl,⟨_,SqL.of hpp6⟩,fun D hD => (let Iv : Nat → List V → L2.St → Hp → Prop := fun i zs τ H' => ∃ a,And4 (τ = [a,some (.int (b : Int))]) (Same H6 H') (H' D = some (.lst zs)) (zs = iv (nv' (((placesOf ps (nrOf kn) row).take i).filter fun q => decide (b < q)))); lc_list (xs := iv (nv' (placesOf ps (nrOf kn) row))) Iv
        ⟨none,rfl,same_new hD,upd_same,rfl⟩ (fun i zs τ H' _ zz1 => by obtain ⟨_,_,s',h',_⟩ := zz1; exact ⟨h',SqL.of (s' _ _ hpp6)⟩) ?_ ?_)⟩
      · rintro i x zs τ H' hx ⟨a,rfl,v1,hd1,rfl⟩
        obtain ⟨q,hqn,rfl⟩ := at_ivn hx
        have hil := (List.getElem?_eq_some_iff.mp hqn).1
        have hfl : (((placesOf ps (nrOf kn) row).take i).filter fun q => decide (b < q)).length ≤ i := Nat.le_trans (List.length_filter_le _ _) (by rw [List.length_take]; (first | ((try clear hb); (try clear hal); (try clear hbl); (try clear plen); (try clear hcl); (try clear hlen); (try clear hn1); (try clear hpl); omega) | omega))
        refine ⟨_,rfl,_,rfl,_,_,rfl,rfl,_,rfl,?_⟩
        by_cases c : b < q
        · rw [show decide ((b : Int) < (q : Int)) = true from decide_eq_true (by first | decide | (first | ((try clear hfl); (try clear hil); (try clear hb); (try clear hal); (try clear hbl); (try clear plen); (try clear hcl); (try clear hlen); (try clear hn1); (try clear hpl); omega) | omega))]
          refine iteT ?_
          refine ⟨_,rfl,hd1,small (by rw [ivn_len]; (first | ((try clear c); (try clear hb); (try clear hal); (try clear hbl); (try clear hcl); (try clear hlen); (try clear hpl); omega) | omega)),_,rfl,same_off v1 hD,upd_same,?_⟩
          rw [take_snoc hqn,List.filter_append,List.filter_cons_of_pos (p := fun q => decide (b < q)) (decide_eq_true c),List.filter_nil,ivn_snoc]
        · rw [show decide ((b : Int) < (q : Int)) = false from decide_eq_false (by first | decide | (first | ((try clear hfl); (try clear hil); (try clear hb); (try clear hal); (try clear hbl); (try clear plen); (try clear hcl); (try clear hlen); (try clear hn1); (try clear hpl); omega) | omega))]
          refine iteF ?_
          refine ⟨_,rfl,v1,hd1,?_⟩
          rw [take_snoc hqn,List.filter_append,List.filter_cons_of_neg (p := fun q => decide (b < q)) (by rw [decide_eq_false c]; exact Bool.false_ne_true),List.filter_nil,List.append_nil]
      rintro zs τ H7 ⟨a,rfl,v1,hd1,rfl⟩
      rw [ivn_len,List.take_length] at hd1
      have hmemf : ∀ q ∈ (placesOf ps (nrOf kn) row).filter (fun q => decide (b < q)),q ∈ placesOf ps (nrOf kn) row ∧ b < q := fun q hq => by
        rw [List.mem_filter] at hq; exact ⟨hq.1,of_decide_eq_true hq.2⟩
      have hnmem : row.length ∈ (placesOf ps (nrOf kn) row).filter (fun q => decide (b < q)) := List.mem_filter.mpr ⟨by unfold placesOf; exact List.mem_append_right _ (List.mem_singleton.mpr rfl),decide_eq_true hb⟩
      have hn0 : 0 < row.length := by (first | ((try clear hal); (try clear hbl); (try clear plen); (try clear hcl); (try clear hlen); (try clear hpl); omega) | omega)
      refine ⟨_,rfl,_,rfl,_,_,_,_,b,m,wTo ps (wdOf kw) (nrOf kn) row,rfl,⟨fp,rfl,v1 _ _ hfp6⟩,⟨D,rfl,hd1⟩,(fun q => by rw [q] at hnmem; cases hnmem),Nat.le_trans (List.length_filter_le _ _) (by first | decide | (first | ((try clear hb); (try clear hal); (try clear hbl); (try clear hcl); (try clear hlen); (try clear hpl); omega) | omega)),carets_ok pok hn0 okb,(fun q hq => carets_ok pok hn0 (okp q (hmemf q hq).1).1),fun e H8 v2 hend => ?_⟩
      have hein : e ∈ (placesOf ps (nrOf kn) row).filter (fun q => decide (b < q)) := by
        rcases hend with ⟨h1,_⟩ | ⟨_,h1⟩
        · exact h1
        · exact headMem h1
      obtain ⟨he1,he2⟩ := hmemf e hein
      obtain ⟨oke,hel⟩ := okp e he1
      have v12 := v1.trans v2
      have ht8 := v12 _ _ ht6
      refine ⟨_,rfl,.inl ⟨rfl,_,SqL.of ht8⟩,_,rfl,_,rfl,(by show 2 ≤ sizeLine; decide),fun t ht => ?_⟩
      have ntt : tp ≠ t := ne_of_none ht8 ht
      have hyl : ys.length = acc.length := pr_len hpy
      have ht8' : (upd H8 t (.tup [.int (b : Int),.int (e : Int)])) tp = some (.lst ys) := by rw [upd_ne ntt]; exact ht8
      refine ⟨tp,ys,_,rfl,rfl,ht8',small (by first | decide | (first | ((try clear hb); (try clear hbl); (try clear plen); (try clear hcl); (try clear hlen); (try clear hpl); omega) | omega)),?_⟩
      refine ⟨_,rfl,row.length - e,by (first | ((try clear hyl); (try clear hn0); (try clear hal); (try clear hbl); (try clear plen); (try clear hcl); (try clear hlen); (try clear hn1); (try clear hpl); omega) | omega),e,_,_,acc ++ [(b,e)],rfl,rfl,(sx.trans (.of (v12.trans (same_new ht)))).trans .upd,upd_same,?_,oke,hel,by rw [List.length_append,List.length_singleton]; (first | ((try clear hel); (try clear hn0); (try clear hb); (try clear hbl); (try clear plen); (try clear hcl); (try clear hlen); (try clear hn1); (try clear hpl); omega) | omega),fun l hl => ?_⟩
      · refine pr_app (pr_tps tP hpy (((tps_of v12).trans (Tps.new ht)).trans (Tps.lst ht8'))) (.cons ⟨t,rfl,?_⟩ .nil)
        rw [upd_ne ntt.symm,upd_same]
      · rw [List.append_assoc]
        exact hlin _ (.cons hb he2 hel hend hl)
    · have hb : row.length ≤ b := by
        have : ¬ (b : Int) < ((iv row).length : Int) := by simpa using h0
        rw [iv_len] at this; (first | ((try clear h0); (try clear hal); (try clear plen); (try clear hcl); (try clear hlen); (try clear hn1); (try clear hpl); omega) | omega)
      refine ⟨_,rfl,kq tp ys acc H6 sH6 htp0 ht6 hpy ?_ (by first | decide | (first | ((try clear h0); (try clear plen); (try clear hcl); (try clear hlen); (try clear hn1); (try clear hpl); omega) | omega))⟩
      have := hlin [] (.nil hb)
      rw [List.append_nil] at this
      exact this
theorem ok_law_whole {f : Addr} {fd : FuncData} (D : Dn K mg "_law_whole" s_law_whole ["x"] f fd) (T : Txt mg) :
    FnOk P w K mg base CX0 1 f fd ["x"] spWhole := by
  refine D.F.ok (k := 0) sc_law_whole (fun vs H Q E h => ?_) (fun cdv A outer s H vs Q E hr h => ?_)
  · obtain ⟨i,rfl,kq⟩ := h
    rfl
  · obtain ⟨i,rfl,kq⟩ := h
    refine ⟨_,(pss_one (ps_ret (pe_and (pe_callB call_isinst0 (by rfl) T.n_isinstance boot_isinstance (pa_cons (pv 0) (pa_cons (pe_bltn (v := .ty "int") (by rfl) T.n_int boot_int rfl) pa_nil))) (pe_one (pe_not (pe_callB call_isinst0 (by rfl) T.n_isinstance boot_isinstance (pa_cons (pv 0) (pa_cons (pe_bltn (v := .ty "bool") (by rfl) T.n_bool boot_bool rfl) pa_nil)))))))),?_⟩
    refine ⟨_,rfl,_,_,_,true,rfl,.int i,rfl,⟨_,rfl,iteT ?_⟩⟩
    exact ⟨_,rfl,_,_,_,false,rfl,.int i,rfl,_,rfl,kq⟩
theorem ok_law_same {f : Addr} {fd : FuncData} {f_law_whole : Addr} {fd_law_whole : FuncData} (D : Dn K mg "_law_same" s_law_same ["found","due"] f fd) (T : Txt mg)
    (D_law_whole : Dn K mg "_law_whole" s_law_whole ["x"] f_law_whole fd_law_whole) (G_law_whole : FnOk P w K mg base CX0 1 f_law_whole fd_law_whole ["x"] spWhole) :
    FnOk P w K mg base CX0 2 f fd ["found","due"] spSame := by
  refine D.F.ok (k := 1) sc_law_same (fun vs H Q E h => ?_) (fun cdv A outer s H vs Q E hr h => ?_)
  · obtain ⟨vf,vd,ts,rfl,⟨af,xf,rfl,hf,hpf⟩,⟨ad,xd,rfl,hd,hpd⟩,hlen,ht100,kq⟩ := h
    rfl
  · obtain ⟨vf,vd,ts,rfl,⟨af,xf,rfl,hf,hpf⟩,⟨ad,xd,rfl,hd,hpd⟩,hlen,ht100,kq⟩ := h
    refine ⟨_,(pss_cons (ps_if (pw_or (pt_not (pt_val (pe_callB call_isinst0 (by rfl) T.n_isinstance boot_isinstance (pa_cons (pv 0) (pa_cons (pe_bltn (v := .ty "list") (by rfl) T.n_list boot_list rfl) pa_nil))))) (pw_or1 (pt_cmpR op_ne (pe_callB call_len_seq0 (by rfl) T.n_len PySem.boot_len (pa_cons (pv 0) pa_nil)) (pe_callB call_len_seq0 (by rfl) T.n_len PySem.boot_len (pa_cons (pv 1) pa_nil)) (nomark _)))).pt
       (pss_one (ps_ret pe_bl))
       pss_nil)
       (pss_cons (ps_for PassesOwn.never rfl (pi_range1 (by rfl) T.n_range (pa_cons (pe_callB call_len_seq0 (by rfl) T.n_len PySem.boot_len (pa_cons (pv 1) pa_nil)) pa_nil)) (pg_name (i := 2) sc_law_same.nd rfl (by first | exact Or.inl rfl | exact Or.inr rfl))
       (pss_cons (ps_if (pw_or (pt_not (pt_val (pe_callB call_isinst0 (by rfl) T.n_isinstance boot_isinstance (pa_cons (pe_ix ix_list0 (pv 0) (pv 2) (fun _ _ => rfl)) (pa_cons (pe_bltn (v := .ty "tuple") (by rfl) T.n_tuple boot_tuple rfl) pa_nil))))) (pw_or1 (pt_cmpR op_ne (pe_callB call_len_seq0 (by rfl) T.n_len PySem.boot_len (pa_cons (pe_ix ix_list0 (pv 0) (pv 2) (fun _ _ => rfl)) pa_nil)) (pe_callB call_len_seq0 (by rfl) T.n_len PySem.boot_len (pa_cons (pe_ix ix_list0 (pv 1) (pv 2) (fun _ _ => rfl)) pa_nil)) (nomark _)))).pt
       (pss_one (ps_ret pe_bl))
       pss_nil)
       (pss_one (ps_for PassesOwn.never rfl (pi_range1 (by rfl) T.n_range (pa_cons (pe_callB call_len_seq0 (by rfl) T.n_len PySem.boot_len (pa_cons (pe_ix ix_list0 (pv 1) (pv 2) (fun _ _ => rfl)) pa_nil)) pa_nil)) (pg_name (i := 3) sc_law_same.nd rfl (by first | exact Or.inl rfl | exact Or.inr rfl))
       (pss_one (ps_if (pw_or (pt_not (pt_val (pe_call G_law_whole (hr.mono (by decide)) (by rfl) D_law_whole.m D_law_whole.F.kp D_law_whole.b .nil pass0 (pa_cons (pe_ix ix_tup0 (pe_ix ix_list0 (pv 0) (pv 2) (fun _ _ => rfl)) (pv 3) (fun _ _ => rfl)) pa_nil)))) (pw_or1 (pt_cmpR op_ne (pe_ix ix_tup0 (pe_ix ix_list0 (pv 0) (pv 2) (fun _ _ => rfl)) (pv 3) (fun _ _ => rfl)) (pe_ix ix_tup0 (pe_ix ix_list0 (pv 1) (pv 2) (fun _ _ => rfl)) (pv 3) (fun _ _ => rfl)) (nomark _)))).pt
       (pss_one (ps_ret pe_bl))
       pss_nil))))))
       (pss_one (ps_ret pe_bl)))),?_⟩
    have hfl : xf.length = ts.length := pr_len hpf
    have hdl : xd.length = ts.length := pr_len hpd
    refine ⟨_,rfl,_,_,_,true,rfl,.lst hf,rfl,_,rfl,?_⟩
    refine iteF ?_
    refine ⟨_,rfl,af,_,rfl,.inl (SqL.of hf),_,rfl,ad,_,rfl,.inl (SqL.of hd),rfl,_,rfl,iteNS (congrArg V.int (by rw [hfl,hdl])) ?_⟩
    refine ⟨_,rfl,ad,_,rfl,.inl (SqL.of hd),_,rfl,by omega,by omega,(let Iv : Nat → L2.St → Hp → Prop := fun i σ H' => Ex2 fun kv jv => σ = [some (.ref af),some (.ref ad),kv,jv] ∧ H = H'; for_range (n := xd.length) Iv
      ⟨none,none,rfl,rfl⟩ ?_ ?_)⟩
    · rintro i σ H' hi ⟨kv,jv,rfl,rfl⟩
      have hxd : xd[i]? = some xd[i] := List.getElem?_eq_getElem hi
      obtain ⟨t,ht,at',e1,hat⟩ := pr_get hpd hxd
      obtain ⟨xi,hxi,bt,rfl,hbt⟩ := pr_got hpf ht
      rw [e1] at hxd
      have htl := ht100 t (List.mem_of_getElem? ht)
      refine ⟨_,rfl,_,rfl,af,_,(i : Int),_,rfl,congrArg V.int (by first | exact Int.zero_add _ | omega),SqL.of hf,atI_nat hxi,_,_,_,true,rfl,.tup hbt,rfl,_,rfl,?_⟩
      refine iteF ?_
      refine ⟨_,rfl,_,rfl,af,_,(i : Int),_,rfl,congrArg V.int (by first | exact Int.zero_add _ | omega),SqL.of hf,atI_nat hxi,bt,_,rfl,.inr (SqT.of hbt),_,rfl,_,rfl,ad,_,(i : Int),_,rfl,congrArg V.int (by first | exact Int.zero_add _ | omega),SqL.of hd,atI_nat hxd,at',_,rfl,.inr (SqT.of hat),rfl,_,rfl,iteNS rfl ?_⟩
      refine ⟨_,rfl,_,rfl,ad,_,(i : Int),_,rfl,congrArg V.int (by first | exact Int.zero_add _ | omega),SqL.of hd,atI_nat hxd,at',_,rfl,.inr (SqT.of hat),_,rfl,by (first | ((try clear htl); (try clear hi); (try clear hdl); (try clear hfl); (try clear hlen); omega) | omega),by rw [iv_len]; (first | ((try clear hi); (try clear hdl); (try clear hfl); (try clear hlen); omega) | omega),(let Iv : Nat → L2.St → Hp → Prop := fun j σ H' => ∃ jv,σ = [some (.ref af),some (.ref ad),some (.int (0 + (i : Int))),jv] ∧ H = H'; for_range (n := (iv t).length) Iv
        ⟨jv,rfl,rfl⟩ ?_ ?_)⟩
      · rintro j σ H' hj ⟨jv,rfl,rfl⟩
        rw [iv_len] at hj
        have htj : t[j]? = some t[j] := List.getElem?_eq_getElem hj
        refine ⟨_,rfl,_,rfl,af,_,(i : Int),_,rfl,congrArg V.int (by first | exact Int.zero_add _ | omega),SqL.of hf,atI_nat hxi,_,rfl,bt,_,(j : Int),_,rfl,congrArg V.int (by first | exact Int.zero_add _ | omega),SqT.of hbt,atI_iv htj,_,rfl,_,rfl,?_⟩
        refine iteF ?_
        refine ⟨_,rfl,_,rfl,af,_,(i : Int),_,rfl,congrArg V.int (by first | exact Int.zero_add _ | omega),SqL.of hf,atI_nat hxi,_,rfl,bt,_,(j : Int),_,rfl,congrArg V.int (by first | exact Int.zero_add _ | omega),SqT.of hbt,atI_iv htj,_,rfl,_,rfl,ad,_,(i : Int),_,rfl,congrArg V.int (by first | exact Int.zero_add _ | omega),SqL.of hd,atI_nat hxd,_,rfl,at',_,(j : Int),_,rfl,congrArg V.int (by first | exact Int.zero_add _ | omega),SqT.of hat,atI_iv htj,rfl,_,rfl,iteNS rfl ?_⟩
        exact ⟨_,rfl,rfl⟩
      · rintro σ H' ⟨jv,rfl,rfl⟩
        exact ⟨_,_,rfl,rfl⟩
    · rintro σ H' ⟨kv,jv,rfl,rfl⟩
      exact kq
theorem ok_law_bar {f : Addr} {fd : FuncData} {f_law_doings : Addr} {fd_law_doings : FuncData} (D : Dn K mg "_law_bar" s_law_bar ["passes","nears","rows","place"] f fd) (T : Txt mg)
    (D_law_doings : Dn K mg "_law_doings" s_law_doings ["rules","shapes"] f_law_doings fd_law_doings) (G_law_doings : FnOk P w K mg base CX0 2 f_law_doings fd_law_doings ["rules","shapes"] spLawDoings) :
    FnOk P w K mg base CX0 3 f fd ["passes","nears","rows","place"] spLawBar := by
  refine D.F.ok (k := 2) sc_law_bar (fun vs H Q E h => ?_) (fun cdv A outer s H vs Q E hr h => ?_)
  · obtain ⟨pp,an,vrows,xps,kn,ps,row,rp,rx,p,rfl,hpp,hpps,han,hin,rfl,hrp,hprx,pok,hr100,hp4,hlen,kq⟩ := h
    rfl
  · obtain ⟨pp,an,vrows,xps,kn,ps,row,rp,rx,p,rfl,hpp,hpps,han,hin,rfl,hrp,hprx,pok,hr100,hp4,hlen,kq⟩ := h
    refine ⟨_,(pss_cons (ps_for PassesOwn.never rfl (pi_range1 (by rfl) T.n_range (pa_cons (pe_callB call_len_seq0 (by rfl) T.n_len PySem.boot_len (pa_cons (pv 0) pa_nil)) pa_nil)) (pg_name (i := 4) sc_law_bar.nd rfl (by first | exact Or.inl rfl | exact Or.inr rfl))
       (pss_cons (ps_set (i := 5) sc_law_bar.nd rfl (by first | exact Or.inl rfl | exact Or.inr rfl) (pe_ix ix_list0 (pv 2) (pv 4) (fun _ _ => rfl)))
       (pss_one (ps_for PassesOwn.never rfl (pi_list0 (pe_call G_law_doings (hr.mono (by decide)) (by rfl) D_law_doings.m D_law_doings.F.kp D_law_doings.b .nil pass0 (pa_cons (pe_ix ix_list0 (pv 0) (pv 4) (fun _ _ => rfl)) (pa_cons (pe_lc ["shape"] [] rfl (pi_list0 (pv 5)) (fun _ _ _ _ => ⟨(pg_name (i := 0) (by exact (show (["shape"] : List Str).Nodup by decide +kernel)) rfl (by first | exact Or.inl rfl | exact Or.inr rfl)),pts_nil,(pe_ix ix_tup0 (pv 0) pe_int (fun _ _ => rfl))⟩)) pa_nil)))) (pg_name (i := 6) sc_law_bar.nd rfl (by first | exact Or.inl rfl | exact Or.inr rfl))
       (pss_cons (ps_set (i := 7) sc_law_bar.nd rfl (by first | exact Or.inl rfl | exact Or.inr rfl) (pe_ix ix_list0 (pe_ix ix_list0 (pv 0) (pv 4) (fun _ _ => rfl)) (pe_ix ix_tup0 (pv 6) pe_int (fun _ _ => rfl)) (fun _ _ => rfl)))
       (pss_cons (ps_set (i := 8) sc_law_bar.nd rfl (by first | exact Or.inl rfl | exact Or.inr rfl) (pe_ix ix_list0 (pv 5) (pe_op op_sub (pe_ix ix_tup0 (pv 6) pe_int (fun _ _ => rfl)) (pe_callB call_len_seq0 (by rfl) T.n_len PySem.boot_len (pa_cons (pe_ix ix_tup0 (pv 7) pe_int (fun _ _ => rfl)) pa_nil))) (fun _ _ => rfl)))
       (pss_cons (ps_set (i := 9) sc_law_bar.nd rfl (by first | exact Or.inl rfl | exact Or.inr rfl) (pe_ix ix_list0 (pv 5) (pe_op op_sub (pe_op op_add (pe_op op_add (pe_ix ix_tup0 (pv 6) pe_int (fun _ _ => rfl)) (pe_callB call_len_seq0 (by rfl) T.n_len PySem.boot_len (pa_cons (pe_ix ix_tup0 (pv 7) pe_int (fun _ _ => rfl)) pa_nil))) (pe_callB call_len_seq0 (by rfl) T.n_len PySem.boot_len (pa_cons (pe_ix ix_tup0 (pv 7) pe_int (fun _ _ => rfl)) pa_nil))) pe_int) (fun _ _ => rfl)))
       (pss_one (ps_if (pw_and (pt_cmpR op_lt (pe_ix ix_tup0 (pv 8) pe_int (fun _ _ => rfl)) (pv 3) (nomark _)) (pw_and1 (pt_cmpR op_gt (pe_ix ix_tup0 (pv 9) pe_int (fun _ _ => rfl)) (pv 3) (nomark _)))).pt
       (pss_one (ps_ret (pe_tup (pa_cons pe_str (pa_cons (pv 4) (pa_cons (pe_ix ix_tup0 (pv 6) pe_int (fun _ _ => rfl)) (pa_cons (pe_ix ix_tup0 (pv 6) pe_int (fun _ _ => rfl)) pa_nil)))))))
       pss_nil)))))))))
       (pss_cons (ps_set (i := 5) sc_law_bar.nd rfl (by first | exact Or.inl rfl | exact Or.inr rfl) (pe_ix ix_list0 (pv 2) (pe_un un_neg pe_int) (fun _ _ => rfl)))
       (pss_cons (ps_for PassesOwn.never rfl (pi_range1 (by rfl) T.n_range (pa_cons (pe_op op_sub (pe_callB call_len_seq0 (by rfl) T.n_len PySem.boot_len (pa_cons (pv 5) pa_nil)) pe_int) pa_nil)) (pg_name (i := 10) sc_law_bar.nd rfl (by first | exact Or.inl rfl | exact Or.inr rfl))
       (pss_one (ps_if (pw_and (pt_cmpR op_eq (pe_ix ix_tup0 (pe_ix ix_list0 (pv 5) (pv 10) (fun _ _ => rfl)) pe_int (fun _ _ => rfl)) (pv 3) (nomark _)) (pw_and (pt_cmpR op_eq (pe_ix ix_tup0 (pe_ix ix_list0 (pv 5) (pe_op op_add (pv 10) pe_int) (fun _ _ => rfl)) pe_int (fun _ _ => rfl)) (pv 3) (nomark _)) (pw_and1 (pt_cmpR op_ne (pe_dget2 (hu_of hr) (pv 1) (pe_tup (pa_cons (pe_ix ix_tup0 (pe_ix ix_list0 (pv 5) (pv 10) (fun _ _ => rfl)) pe_int (fun _ _ => rfl)) (pa_cons (pe_ix ix_tup0 (pe_ix ix_list0 (pv 5) (pe_op op_add (pv 10) pe_int) (fun _ _ => rfl)) pe_int (fun _ _ => rfl)) pa_nil))) pe_int ⟨rfl,rfl,rfl,rfl⟩) pe_int (nomark _))))).pt
       (pss_one (ps_ret (pe_tup (pa_cons pe_str (pa_cons (pv 10) pa_nil)))))
       pss_nil)))
       (pss_one (ps_ret pe_non))))),?_⟩
    have hxl : xps.length = ps.length := pr_len hpps
    have rowB : ∀ i,i ≤ ps.length → (setRow (ps.take i) row).length ≤ 9000 := fun i hi => by
      have b1 := setRow_len pok row i hi
      have b2 := pow_le (n := row.length) hi
      (first | ((try clear hi); (try clear hxl); (try clear hp4); omega) | omega)
    refine ⟨_,rfl,pp,_,rfl,.inl (SqL.of hpp),_,rfl,by (first | ((try clear hlen); omega) | omega),by (first | ((try clear hlen); omega) | omega),(let Sg : (Option V) → (Option V) → (Option V) → (Option V) → (Option V) → (Option V) → (Option V) → L2.St := fun v1 v2 v3 v4 v5 v6 v7 => [some (.ref pp),some (.ref an),some (.ref rp),some (.int (p : Int)),v1,v2,v3,v4,v5,v6,v7]; let Iv : Nat → L2.St → Hp → Prop := fun i σ H' => Ex7 fun (v1 v2 v3 v4 v5 v6 v7 : Option V) => And3 (σ = Sg v1 v2 v3 v4 v5 v6 v7) (Same H H') (barOf (evR ps row i) (p : Int) = none); for_range (n := xps.length) Iv
      ⟨none,none,none,none,none,none,none,rfl,Same.refl _,rfl⟩ ?_ ?_)⟩
    · rintro i σ H1 hi ⟨v1,v2,v3,v4,v5,v6,v7,rfl,s1,hno⟩
      have hip : i < ps.length := by (first | ((try clear hlen); (try clear hp4); omega) | omega)
      have hrs : ps[i]? = some ps[i] := List.getElem?_eq_getElem hip
      generalize ps[i] = rs at hrs
      obtain ⟨xi,hxi,hrul⟩ := pr_got hpps hrs
      obtain ⟨xr,hxr,hsl0⟩ := pr_got hprx (rowsA_at (row := row) (Nat.le_of_lt hip))
      obtain ⟨asl,xsl,rfl,hsl,hpsl⟩ := hsl0
      have rok := pok rs (List.mem_of_getElem? hrs)
      have rb := rowB i (by first | decide | (first | ((try clear hip); (try clear hlen); (try clear hp4); omega) | omega))
      generalize hsl' : setRow (ps.take i) row = sl at *
      have hxsl : xsl.length = sl.length := pr_len hpsl
      refine ⟨_,rfl,_,rfl,rp,_,(i : Int),_,rfl,congrArg V.int (by first | exact Int.zero_add _ | omega),SqL.of (s1 _ _ hrp),atI_nat hxr,?_⟩
      refine ⟨_,rfl,_,rfl,pp,_,(i : Int),_,rfl,congrArg V.int (by first | exact Int.zero_add _ | omega),SqL.of (s1 _ _ hpp),atI_nat hxi,_,rfl,asl,rfl,⟨_,SqL.of (s1 _ _ hsl)⟩,fun D hD => (let Iv : Nat → List V → L2.St → Hp → Prop := fun j ys τ H' => ∃ a,And4 (τ = [a]) (Same H1 H') (H' D = some (.lst ys)) (ys = iv ((shp sl).take j)); lc_list (xs := xsl) Iv
        ⟨none,rfl,same_new hD,upd_same,rfl⟩ (fun j ys τ H' _ zz1 => by obtain ⟨_,_,s',h',_⟩ := zz1; exact ⟨h',SqL.of ((s1.trans s') _ _ hsl)⟩) ?_ ?_)⟩
      · rintro j x ys τ H' hx ⟨a,rfl,u1,hd1,rfl⟩
        obtain ⟨d,hd,ad,rfl,had⟩ := pr_get hpsl hx
        refine lcN ?_
        have hjl : j < sl.length := (List.getElem?_eq_some_iff.mp hd).1
        refine ⟨_,rfl,ad,_,_,_,rfl,rfl,SqT.of ((s1.trans u1) _ _ had),rfl,hd1,small (by rw [iv_len,List.length_take,shp_len]; (first | ((try clear hip); (try clear hi); (try clear hxl); (try clear hlen); (try clear hp4); omega) | omega)),?_⟩
        exact ⟨_,rfl,same_off u1 hD,upd_same,(shp_take hd).symm⟩
      rintro ys τ H2 ⟨a,rfl,u1,hd1,rfl⟩
      rw [List.take_of_length_le (by rw [shp_len]; (first | ((try clear rb); (try clear hip); (try clear hi); (try clear hxl); (try clear hlen); (try clear hp4); omega) | omega))] at hd1
      have s2 := s1.trans u1
      refine ⟨_,_,rs,shp sl,rfl,hrul.same tR s2,⟨D,rfl,hd1⟩,rok,hr100 rs (List.mem_of_getElem? hrs),by rw [shp_len]; (first | ((try clear hip); (try clear hi); (try clear hxl); (try clear hlen); (try clear hp4); omega) | omega),fun dp dx H3 u2 hdp hdp3 hpd => ?_⟩
      have s3 := s2.trans u2
      have hdl : dx.length = (doer rs (shp sl) 0).length := pr_len hpd
      refine ⟨dp,rfl,⟨_,SqL.of hdp3⟩,(let Sg : (Option V) → (Option V) → (Option V) → (Option V) → (Option V) → L2.St := fun v3 v4 v5 v6 v7 => [some (.ref pp),some (.ref an),some (.ref rp),some (.int (p : Int)),some (.int (0 + (i : Int))),some (.ref asl),v3,v4,v5,v6,v7]; let Iv : Nat → L2.St → Hp → Prop := fun j σ H' => Ex5 fun (v3 v4 v5 v6 v7 : Option V) => And3 (σ = Sg v3 v4 v5 v6 v7) (Same H3 H') (barOf ((((doer rs (shp sl) 0).take j).map (evD rs sl i)).flatten) (p : Int) = none); for_list (xs := dx) Iv
        ⟨v3,v4,v5,v6,v7,rfl,Same.refl _,rfl⟩ (fun j σ H' _ zz1 => by obtain ⟨_,_,_,_,_,_,s',_⟩ := zz1; exact SqL.of (s' _ _ hdp3)) ?_ ?_)⟩
      · rintro j y σ H4 hy ⟨v3,v4,v5,v6,v7,rfl,u3,hno2⟩
        obtain ⟨⟨k,m⟩,hkm,ad,rfl,had⟩ := pr_get hpd hy
        have s4 := s3.trans u3
        have had4 := u3 _ _ had
        obtain ⟨r,hr,q1,q2,q3⟩ := doer_rule (List.mem_of_getElem? hkm)
        rw [shp_len] at q3
        obtain ⟨axr,xrs,rfl,har,hprs⟩ := id hrul
        obtain ⟨xm,hxm,ar,vb,vt,va,vg,rfl,hr4,⟨ab,rfl,hb⟩,⟨at',rfl,ht⟩,⟨aa,rfl,ha⟩,_⟩ := pr_got hprs hr
        have hsa : sl[k - r.b.length]? = some sl[k - r.b.length] := List.getElem?_eq_getElem (by first | decide | (first | ((try clear hdl); (try clear rb); (try clear hip); (try clear hi); (try clear hxl); (try clear hlen); (try clear hp4); omega) | omega))
        have hsz : sl[k + r.t.length + r.a.length - 1]? = some sl[k + r.t.length + r.a.length - 1] := List.getElem?_eq_getElem (by first | decide | (first | ((try clear q1); (try clear hdl); (try clear rb); (try clear hip); (try clear hi); (try clear hxl); (try clear hlen); (try clear hp4); omega) | omega))
        obtain ⟨xa,hxa,aA,rfl,haA⟩ := pr_got hpsl hsa
        obtain ⟨xz,hxz,aZ,rfl,haZ⟩ := pr_got hpsl hsz
        have elo : ruleLo sl k r = slo sl[k - r.b.length] := by unfold ruleLo; rw [hsa]; rfl
        have ehi : ruleHi sl k r = shi sl[k + r.t.length + r.a.length - 1] := by unfold ruleHi; rw [hsz]; rfl
        have hbd := barOf_evD (rules := rs) (slots := sl) (turn := i) (d := (k,m)) (p := (p : Int)) hr
        rw [elo,ehi] at hbd
        refine ⟨_,rfl,_,rfl,pp,_,(i : Int),_,rfl,congrArg V.int (by first | exact Int.zero_add _ | omega),SqL.of (s4 _ _ hpp),atI_nat hxi,_,rfl,ad,_,_,_,rfl,rfl,SqT.of had4,rfl,axr,_,_,_,rfl,rfl,SqL.of (s4 _ _ har),atI_nat hxm,?_⟩
        refine ⟨_,rfl,_,rfl,ad,_,_,_,rfl,rfl,SqT.of had4,rfl,_,rfl,ar,_,_,_,rfl,rfl,SqT.of (s4 _ _ hr4),rfl,ab,_,rfl,.inr (SqT.of (s4 _ _ hb)),_,_,rfl,rfl,asl,_,((k - r.b.length : Nat) : Int),_,rfl,congrArg V.int (by rw [iv_len]; first | decide | (first | ((try clear ehi); (try clear elo); (try clear hdl); (try clear rb); (try clear hip); (try clear hi); (try clear hxl); (try clear hlen); (try clear hp4); omega) | omega)),SqL.of (s4 _ _ hsl),atI_nat hxa,?_⟩
        refine ⟨_,rfl,_,rfl,ad,_,_,_,rfl,rfl,SqT.of had4,rfl,_,rfl,ar,_,_,_,rfl,rfl,SqT.of (s4 _ _ hr4),rfl,at',_,rfl,.inr (SqT.of (s4 _ _ ht)),_,_,rfl,rfl,_,rfl,ar,_,_,_,rfl,rfl,SqT.of (s4 _ _ hr4),rfl,aa,_,rfl,.inr (SqT.of (s4 _ _ ha)),_,_,rfl,rfl,_,_,rfl,rfl,asl,_,((k + r.t.length + r.a.length - 1 : Nat) : Int),_,rfl,congrArg V.int (by rw [iv_len,iv_len]; (first | ((try clear ehi); (try clear elo); (try clear hdl); (try clear rb); (try clear hip); (try clear hi); (try clear hxl); (try clear hlen); (try clear hp4); omega) | omega)),SqL.of (s4 _ _ hsl),atI_nat hxz,?_⟩
        have e1 : sl[k - r.b.length].2.1 = slo sl[k - r.b.length] := rfl
        have e2 : sl[k + r.t.length + r.a.length - 1].2.2 = shi sl[k + r.t.length + r.a.length - 1] := rfl
        have stay : barOf (evD rs sl i (k,m)) (p : Int) = none → barOf ((((doer rs (shp sl) 0).take (j + 1)).map (evD rs sl i)).flatten) (p : Int) = none := fun z => by
          rw [take_snoc hkm,flat_snoc,barOf_app,hno2,z]; rfl
        refine ⟨_,rfl,aA,_,_,_,rfl,rfl,SqT.of (s4 _ _ haA),rfl,_,rfl,_,_,rfl,rfl,_,rfl,?_⟩
        by_cases k1 : sl[k - r.b.length].2.1 < (p : Int)
        · rw [decide_eq_true k1]
          refine iteT ?_
          refine ⟨_,rfl,aZ,_,_,_,rfl,rfl,SqT.of (s4 _ _ haZ),rfl,_,rfl,_,_,rfl,rfl,_,rfl,?_⟩
          by_cases k2 : (p : Int) < sl[k + r.t.length + r.a.length - 1].2.2
          · rw [decide_eq_true k2]
            refine iteT ?_
            refine ⟨_,rfl,_,rfl,ad,_,_,_,rfl,rfl,SqT.of had4,rfl,_,rfl,ad,_,_,_,rfl,rfl,SqT.of had4,rfl,(by show 4 ≤ sizeLine; decide),fun t ht' => ?_⟩
            refine kq _ _ (s4.trans (same_new ht')) ?_
            obtain ⟨rest1,er1⟩ := evR_split (ps := ps) (row := row) (i := i + 1) (by first | decide | (first | ((try clear k2); (try clear k1); (try clear e2); (try clear e1); (try clear ehi); (try clear elo); (try clear hdl); (try clear rb); (try clear hip); (try clear hlen); (try clear hp4); omega) | omega))
            have eb : barOf (evAll ps (nrOf kn) row) (p : Int) = some (Bar.rule i k m) := by
              unfold evAll
              rw [er1,evR_succ hrs,hsl']
              unfold evP
              have esp : doer rs (shp sl) 0 = (doer rs (shp sl) 0).take j ++ (k,m) :: (doer rs (shp sl) 0).drop (j + 1) := by
                conv => lhs; rw [← List.take_append_drop j (doer rs (shp sl) 0)]
                rw [List.drop_eq_getElem_cons (List.getElem?_eq_some_iff.mp hkm).1,(List.getElem?_eq_some_iff.mp hkm).2]
              rw [barOf_app,barOf_app,barOf_app,hno]
              have : barOf (((doer rs (shp sl) 0).map (evD rs sl i)).flatten) (p : Int) = some (Bar.rule i k m) := by
                rw [esp,List.map_append,List.flatten_append,barOf_app,hno2,List.map_cons,List.flatten_cons,barOf_app,hbd,if_pos ⟨k1,k2⟩]; rfl
              rw [this]; rfl
            rw [eb]
            refine ⟨t,rfl,?_⟩
            rw [upd_same,show (0 : Int) + (i : Int) = (i : Int) by (first | ((try clear k2); (try clear k1); (try clear e2); (try clear e1); (try clear ehi); (try clear elo); (try clear hdl); (try clear rb); (try clear hip); (try clear hi); (try clear hxl); (try clear hlen); (try clear hp4); omega) | omega)]
          · rw [decide_eq_false k2]
            refine iteF ?_
            exact ⟨_,_,_,_,_,rfl,u3,stay (by rw [hbd,if_neg (fun z => k2 z.2)])⟩
        · rw [decide_eq_false k1]
          refine iteF ?_
          exact ⟨_,_,_,_,_,rfl,u3,stay (by rw [hbd,if_neg (fun z => k1 z.1)])⟩
      · rintro σ H4 ⟨v3,v4,v5,v6,v7,rfl,u3,hno2⟩
        rw [List.take_of_length_le (by first | decide | (first | ((try clear hxsl); (try clear rb); (try clear hip); (try clear hi); (try clear hxl); (try clear hlen); (try clear hp4); omega) | omega))] at hno2
        refine ⟨_,_,_,_,_,_,_,rfl,s3.trans u3,?_⟩
        rw [evR_succ hrs,barOf_app,hno,hsl']
        exact hno2
    rintro σ H1 ⟨v1,v2,v3,v4,v5,v6,v7,rfl,s1,hno⟩
    rw [hxl] at hno
    obtain ⟨xz,hxz,az,zs,rfl,haz,hpz⟩ := pr_last hprx (rowsA_last ps row)
    have rb := rowB ps.length (Nat.le_refl _)
    rw [List.take_length] at rb
    have hzl : zs.length = (setRow ps row).length := pr_len hpz
    refine ⟨_,rfl,_,rfl,rp,_,_,_,rfl,rfl,SqL.of (s1 _ _ hrp),atI_lastq hxz,?_⟩
    refine ⟨_,rfl,az,_,rfl,.inl (SqL.of (s1 _ _ haz)),_,_,rfl,rfl,_,rfl,by (first | ((try clear hxl); (try clear hlen); (try clear hp4); omega) | omega),by (first | ((try clear hxl); (try clear hlen); (try clear hp4); omega) | omega),(let Sg : (Option V) → (Option V) → (Option V) → (Option V) → (Option V) → (Option V) → L2.St := fun v1 v3 v4 v5 v6 v7 => [some (.ref pp),some (.ref an),some (.ref rp),some (.int (p : Int)),v1,some (.ref az),v3,v4,v5,v6,v7]; let Iv : Nat → L2.St → Hp → Prop := fun i σ H' => Ex6 fun (v1 v3 v4 v5 v6 v7 : Option V) => And3 (σ = Sg v1 v3 v4 v5 v6 v7) (Same H H') (barOf (evN (nrOf kn) (setRow ps row) i) (p : Int) = none); for_range (n := ((zs.length : Int) - 1).toNat) Iv
      ⟨_,_,_,_,_,_,rfl,s1,rfl⟩ ?_ ?_)⟩
    · rintro i σ H2 hi ⟨v1,v3,v4,v5,v6,v7,rfl,s2,hno2⟩
      have hsa : (setRow ps row)[i]? = some (setRow ps row)[i] := List.getElem?_eq_getElem (by first | decide | (first | ((try clear rb); (try clear hxl); (try clear hlen); (try clear hp4); omega) | omega))
      have hsb : (setRow ps row)[i + 1]? = some (setRow ps row)[i + 1] := List.getElem?_eq_getElem (by first | decide | (first | ((try clear rb); (try clear hxl); (try clear hlen); (try clear hp4); omega) | omega))
      obtain ⟨xa,hxa,aA,rfl,haA⟩ := pr_got hpz hsa
      obtain ⟨xb,hxb,aB,rfl,haB⟩ := pr_got hpz hsb
      have haz2 := s2 _ _ haz
      have hA2 := s2 _ _ haA
      have hB2 := s2 _ _ haB
      have esn : evN (nrOf kn) (setRow ps row) (i + 1) = evN (nrOf kn) (setRow ps row) i ++ if nearB (nrOf kn) (setRow ps row)[i] (setRow ps row)[i + 1] = true then [(shi (setRow ps row)[i],Bar.near i)] else [] := by
        unfold evN
        rw [flat_succ]
        congr 1
        unfold nearEv
        rw [hsa,hsb]
      have stay : ¬ ((setRow ps row)[i].2.2 = (p : Int) ∧ nearB (nrOf kn) (setRow ps row)[i] (setRow ps row)[i + 1] = true) → barOf (evN (nrOf kn) (setRow ps row) (i + 1)) (p : Int) = none := fun z => by
        rw [esn,barOf_app,hno2]
        by_cases c : nearB (nrOf kn) (setRow ps row)[i] (setRow ps row)[i + 1] = true
        · rw [if_pos c,barOf_one,if_neg (show ¬ shi (setRow ps row)[i] = (p : Int) from fun e => z ⟨e,c⟩)]; rfl
        · rw [if_neg c]; rfl
      have e1 : shi (setRow ps row)[i] = (setRow ps row)[i].2.2 := rfl
      have e2 : slo (setRow ps row)[i + 1] = (setRow ps row)[i + 1].2.1 := rfl
      refine ⟨_,rfl,_,rfl,az,_,(i : Int),_,rfl,congrArg V.int (by first | exact Int.zero_add _ | omega),SqL.of haz2,atI_nat hxa,aA,_,_,_,rfl,rfl,SqT.of hA2,rfl,_,rfl,rfl,_,rfl,?_⟩
      rw [dec_int]
      by_cases k1 : (setRow ps row)[i].2.2 = (p : Int)
      · rw [beq_iff_eq.mpr k1]
        refine iteT ?_
        refine ⟨_,rfl,_,rfl,_,_,rfl,rfl,az,_,((i + 1 : Nat) : Int),_,rfl,congrArg V.int (by first | exact Int.zero_add _ | (first | ((try clear k1); (try clear e2); (try clear e1); (try clear rb); (try clear hxl); (try clear hlen); (try clear hp4); omega) | omega)),SqL.of haz2,atI_nat hxb,aB,_,_,_,rfl,rfl,SqT.of hB2,rfl,_,rfl,rfl,_,rfl,?_⟩
        rw [dec_int]
        by_cases k2 : (setRow ps row)[i + 1].2.1 = (p : Int)
        · rw [beq_iff_eq.mpr k2]
          refine iteT ?_
          refine ⟨_,rfl,an,rfl,.inr ⟨_,.inl (s2 _ _ han)⟩,_,rfl,_,rfl,az,_,(i : Int),_,rfl,congrArg V.int (by first | exact Int.zero_add _ | omega),SqL.of haz2,atI_nat hxa,aA,_,_,_,rfl,rfl,SqT.of hA2,rfl,_,rfl,_,rfl,_,_,rfl,rfl,az,_,((i + 1 : Nat) : Int),_,rfl,congrArg V.int (by first | exact Int.zero_add _ | (first | ((try clear k2); (try clear k1); (try clear e2); (try clear e1); (try clear rb); (try clear hxl); (try clear hlen); (try clear hp4); omega) | omega)),SqL.of haz2,atI_nat hxb,aB,_,_,_,rfl,rfl,SqT.of hB2,rfl,(by show 2 ≤ sizeLine; decide),fun t ht => ?_⟩
          refine ⟨_,DGet.t (k := [Sum.inl (setRow ps row)[i].1,Sum.inl (setRow ps row)[i + 1].1]) ((same_new ht) _ _ (s2 _ _ han)) upd_same,?_⟩
          rw [intVals_get hin]
          refine ⟨rfl,_,rfl,?_⟩
          have s3 := s2.trans (same_new (o := .tup [.int (setRow ps row)[i].1,.int (setRow ps row)[i + 1].1]) ht)
          by_cases k3 : nrOf kn (setRow ps row)[i].1 (setRow ps row)[i + 1].1 = 0
          · have k3' : vInt ((valV kn [Sum.inl (setRow ps row)[i].1,Sum.inl (setRow ps row)[i + 1].1]).getD (.int 0)) = 0 := k3
            refine iteNS (congrArg V.int k3') ?_
            refine ⟨_,_,_,_,_,_,rfl,s3,stay (fun z => ?_)⟩
            have := z.2
            unfold nearB at this
            rw [Bool.and_eq_true,decide_eq_true_eq,decide_eq_true_eq] at this
            exact this.2 k3
          · rw [show decide (V.int (vInt ((valV kn [Sum.inl (setRow ps row)[i].1,Sum.inl (setRow ps row)[i + 1].1]).getD (.int 0))) = V.int 0) = false from decide_eq_false fun z => k3 (V.int.inj z)]
            refine iteT ?_
            refine ⟨_,rfl,(by show 2 ≤ sizeLine; decide),fun t2 ht2 => ?_⟩
            refine kq _ _ (s3.trans (same_new ht2)) ?_
            obtain ⟨rest,er⟩ := evN_split (nr := nrOf kn) (sl := setRow ps row) (i := i + 1) (n := (setRow ps row).length - 1) (by first | decide | (first | ((try clear k2); (try clear k1); (try clear e2); (try clear e1); (try clear hxl); (try clear hlen); (try clear hp4); omega) | omega))
            have hnb : nearB (nrOf kn) (setRow ps row)[i] (setRow ps row)[i + 1] = true := by
              unfold nearB
              rw [e1,e2,k1,k2,decide_eq_true rfl,decide_eq_true k3]; rfl
            have eb : barOf (evAll ps (nrOf kn) row) (p : Int) = some (Bar.near i) := by
              unfold evAll
              rw [barOf_app,hno,er,barOf_app,esn,barOf_app,hno2,if_pos hnb,barOf_one,if_pos (show shi (setRow ps row)[i] = (p : Int) from k1)]; rfl
            rw [eb]
            refine ⟨t2,rfl,?_⟩
            rw [upd_same,show (0 : Int) + (i : Int) = (i : Int) by (first | ((try clear k3); (try clear k2); (try clear k1); (try clear e2); (try clear e1); (try clear rb); (try clear hxl); (try clear hlen); (try clear hp4); omega) | omega)]
        · rw [beq_eq_false_iff_ne.mpr k2]
          refine iteF ?_
          refine ⟨_,_,_,_,_,_,rfl,s2,stay (fun z => ?_)⟩
          have := z.2
          unfold nearB at this
          rw [Bool.and_eq_true,decide_eq_true_eq] at this
          rw [e1,e2] at this
          (first | ((try clear z); (try clear e2); (try clear e1); (try clear rb); (try clear hxl); (try clear hlen); (try clear hp4); omega) | omega)
      · rw [beq_eq_false_iff_ne.mpr k1]
        refine iteF ?_
        exact ⟨_,_,_,_,_,_,rfl,s2,stay (fun z => k1 z.1)⟩
    · rintro σ H2 ⟨v1,v3,v4,v5,v6,v7,rfl,s2,hno2⟩
      rw [hzl,show (((setRow ps row).length : Int) - 1).toNat = (setRow ps row).length - 1 by (first | ((try clear hxl); (try clear hlen); (try clear hp4); omega) | omega)] at hno2
      refine kq _ H2 s2 ?_
      unfold evAll
      rw [barOf_app,hno,hno2]; rfl
theorem ok_law_begins {f : Addr} {fd : FuncData} (D : Dn K mg "_law_begins" s_law_begins ["widths","nears","row"] f fd) (T : Txt mg) :
    FnOk P w K mg base CX0 1 f fd ["widths","nears","row"] spBegins := by
  refine D.F.ok (k := 0) sc_law_begins (fun vs H Q E h => ?_) (fun cdv A outer s H vs Q E hr h => ?_)
  · obtain ⟨aw,an,vrow,kw,kn,sl,rfl,haw,hiw,han,hin,⟨asl,xsl,rfl,hsl,hpsl⟩,hlen,kq⟩ := h
    rfl
  · obtain ⟨aw,an,vrow,kw,kn,sl,rfl,haw,hiw,han,hin,⟨asl,xsl,rfl,hsl,hpsl⟩,hlen,kq⟩ := h
    refine ⟨_,(pss_cons (ps_set (i := 3) sc_law_begins.nd rfl (by first | exact Or.inl rfl | exact Or.inr rfl) (pe_lst (pa_cons pe_int pa_nil)))
       (pss_cons (ps_for PassesOwn.never rfl (pi_range1 (by rfl) T.n_range (pa_cons (pe_callB call_len_seq0 (by rfl) T.n_len PySem.boot_len (pa_cons (pv 2) pa_nil)) pa_nil)) (pg_name (i := 4) sc_law_begins.nd rfl (by first | exact Or.inl rfl | exact Or.inr rfl))
       (pss_cons (ps_set (i := 5) sc_law_begins.nd rfl (by first | exact Or.inl rfl | exact Or.inr rfl) (pe_dget2 (hu_of hr) (pv 0) (pe_ix ix_tup0 (pe_ix ix_list0 (pv 2) (pv 4) (fun _ _ => rfl)) pe_int (fun _ _ => rfl)) pe_int ⟨rfl,rfl,rfl,rfl⟩))
       (pss_cons (ps_if (pt_cmpR op_lt (pe_op op_add (pv 4) pe_int) (pe_callB call_len_seq0 (by rfl) T.n_len PySem.boot_len (pa_cons (pv 2) pa_nil)) (nomark _))
       (pss_one (ps_set (i := 5) sc_law_begins.nd rfl (by first | exact Or.inl rfl | exact Or.inr rfl) (pe_op op_add (pv 5) (pe_dget2 (hu_of hr) (pv 1) (pe_tup (pa_cons (pe_ix ix_tup0 (pe_ix ix_list0 (pv 2) (pv 4) (fun _ _ => rfl)) pe_int (fun _ _ => rfl)) (pa_cons (pe_ix ix_tup0 (pe_ix ix_list0 (pv 2) (pe_op op_add (pv 4) pe_int) (fun _ _ => rfl)) pe_int (fun _ _ => rfl)) pa_nil))) pe_int ⟨rfl,rfl,rfl,rfl⟩))))
       pss_nil)
       (pss_one (ps_expr (pe_bmZ PySem.F.plainAttrs_list PySem.F.slot_list_append PySem.F.type_list_append mt_append (pv 3) (pa_cons (pe_op op_add (pe_ix ix_list0 (pv 3) (pe_un un_neg pe_int) (fun _ _ => rfl)) (pv 5)) pa_nil)))))))
       (pss_one (ps_ret (pv 3))))),?_⟩
    have hxl : xsl.length = sl.length := pr_len hpsl
    refine ⟨(by show 1 ≤ sizeLine; decide),fun fo hfo => ?_⟩
    have s0 : Same H (upd H fo (.lst [.int 0])) := same_new hfo
    refine ⟨_,rfl,asl,_,rfl,.inl (SqL.of (s0 _ _ hsl)),_,rfl,by omega,by omega,(let Sg : (Option V) → (Option V) → L2.St := fun kv mv => [some (.ref aw),some (.ref an),some (.ref asl),some (.ref fo),kv,mv]; let Iv : Nat → L2.St → Hp → Prop := fun i σ H' => Ex2 fun kv mv => And3 (σ = Sg kv mv) (Same H H') (H' fo = some (.lst (iv ((begsL (wdOf kw) (nrOf kn) (shp sl)).take (i + 1))))); for_range (n := xsl.length) Iv
      ⟨none,none,rfl,s0,?_⟩ ?_ ?_)⟩
    · rw [upd_same,take_snoc (begs_at (Nat.zero_le _)),List.take_zero]
      cases hs : shp sl with
      | nil => rfl
      | cons x r =>
        have : begAt (wdOf kw) (nrOf kn) (x :: r) 0 = 0 := begAt_zero rfl
        rw [if_pos (by simp),this]; rfl
    · rintro i σ H' hi ⟨kv,mv,rfl,s1,hf1⟩
      have hil : i < sl.length := by (first | ((try clear hlen); omega) | omega)
      have hsa : sl[i]? = some sl[i] := List.getElem?_eq_getElem hil
      obtain ⟨xa,hxa,aA,rfl,haA⟩ := pr_got hpsl hsa
      have hsha : (shp sl)[i]? = some sl[i].1 := by unfold shp; rw [List.getElem?_map,hsa]; rfl
      have hlast : ((begsL (wdOf kw) (nrOf kn) (shp sl)).take (i + 1)).getLast? = some (begAt (wdOf kw) (nrOf kn) (shp sl) i) := by
        rw [take_snoc (begs_at (by rw [shp_len]; (first | ((try clear hil); (try clear hlen); omega) | omega))),List.getLast?_append,if_pos (by rw [shp_len]; exact hil)]; rfl
      have hlastV : (iv ((begsL (wdOf kw) (nrOf kn) (shp sl)).take (i + 1))).getLast? = some (.int (begAt (wdOf kw) (nrOf kn) (shp sl) i)) := by
        rw [List.getLast?_map,hlast]; rfl
      have hnext := begs_at (wd := wdOf kw) (nr := nrOf kn) (sh := shp sl) (k := i + 1) (by rw [shp_len]; (first | ((try clear hil); (try clear hlen); omega) | omega))
      have hbl : ((begsL (wdOf kw) (nrOf kn) (shp sl)).take (i + 1)).length ≤ i + 1 := by rw [List.length_take]; (first | ((try clear hil); (try clear hi); (try clear hxl); (try clear hlen); omega) | omega)
      refine ⟨_,rfl,aw,rfl,.inl ⟨_,.inl (s1 _ _ haw)⟩,_,rfl,_,rfl,asl,_,(i : Int),_,rfl,congrArg V.int (by first | exact Int.zero_add _ | omega),SqL.of (s1 _ _ hsl),atI_nat hxa,aA,_,_,_,rfl,rfl,SqT.of (s1 _ _ haA),rfl,_,DGet.k (k := Sum.inl sl[i].1) (s1 _ _ haw),?_⟩
      rw [intVals_get hiw]
      refine ⟨_,rfl,_,_,rfl,rfl,_,rfl,asl,_,rfl,.inl (SqL.of (s1 _ _ hsl)),_,_,rfl,rfl,_,rfl,?_⟩
      refine ite_join (fun σ' H2 => σ' = [some (.ref aw),some (.ref an),some (.ref asl),some (.ref fo),some (.int (0 + (i : Int))),some (.int ((if i + 1 < (shp sl).length then begAt (wdOf kw) (nrOf kn) (shp sl) (i + 1) else wpre (wdOf kw) (nrOf kn) (shp sl) (shp sl).length) - begAt (wdOf kw) (nrOf kn) (shp sl) i))] ∧ Same H' H2) ?_ (fun hk h0 => ?_) (fun h0 => ?_)
      case refine_3 =>
        have hn : ¬ i + 1 < (shp sl).length := by
          have : ¬ (0 + (i : Int)) + 1 < (xsl.length : Int) := by simpa using h0
          rw [shp_len]; (first | ((try clear h0); (try clear hbl); (try clear hil); (try clear hlen); omega) | omega)
        rw [if_neg hn]
        refine ⟨?_,Same.refl _⟩
        have e1 := begAt_wd (wd := wdOf kw) (nr := nrOf kn) hsha
        rw [show i + 1 = (shp sl).length by rw [shp_len] at hn ⊢; (first | ((try clear e1); (try clear h0); (try clear hbl); (try clear hlen); omega) | omega)] at e1
        rw [show wpre (wdOf kw) (nrOf kn) (shp sl) (shp sl).length - begAt (wdOf kw) (nrOf kn) (shp sl) i = wdOf kw sl[i].1 by (first | ((try clear h0); (try clear hbl); (try clear hlen); omega) | omega)]
        rfl
      case refine_2 =>
        have hn : i + 1 < sl.length := by
          have : (0 + (i : Int)) + 1 < (xsl.length : Int) := by simpa using h0
          (first | ((try clear hbl); (try clear hil); (try clear hi); (try clear hlen); omega) | omega)
        have hsb : sl[i + 1]? = some sl[i + 1] := List.getElem?_eq_getElem hn
        obtain ⟨xb,hxb,aB,rfl,haB⟩ := pr_got hpsl hsb
        have hshb : (shp sl)[i + 1]? = some sl[i + 1].1 := by unfold shp; rw [List.getElem?_map,hsb]; rfl
        refine ⟨_,rfl,_,rfl,an,rfl,.inr ⟨_,.inl (s1 _ _ han)⟩,_,rfl,_,rfl,asl,_,(i : Int),_,rfl,congrArg V.int (by first | exact Int.zero_add _ | omega),SqL.of (s1 _ _ hsl),atI_nat hxa,aA,_,_,_,rfl,rfl,SqT.of (s1 _ _ haA),rfl,_,rfl,_,rfl,_,_,rfl,rfl,asl,_,((i + 1 : Nat) : Int),_,rfl,congrArg V.int (by first | exact Int.zero_add _ | (first | ((try clear hn); (try clear hbl); (try clear hil); (try clear hi); (try clear hxl); (try clear hlen); omega) | omega)),SqL.of (s1 _ _ hsl),atI_nat hxb,aB,_,_,_,rfl,rfl,SqT.of (s1 _ _ haB),rfl,(by show 2 ≤ sizeLine; decide),fun t ht => ?_⟩
        refine ⟨_,DGet.t (k := [Sum.inl sl[i].1,Sum.inl sl[i + 1].1]) ((same_new ht) _ _ (s1 _ _ han)) upd_same,?_⟩
        rw [intVals_get hin]
        refine ⟨_,_,rfl,rfl,?_⟩
        refine hk _ _ ⟨?_,same_new ht⟩
        have e1 := begAt_wd (wd := wdOf kw) (nr := nrOf kn) hsha
        have e2 := begAt_succ (wd := wdOf kw) (nr := nrOf kn) hshb hsha
        rw [if_pos (by rw [shp_len]; exact hn),show begAt (wdOf kw) (nrOf kn) (shp sl) (i + 1) - begAt (wdOf kw) (nrOf kn) (shp sl) i = wdOf kw sl[i].1 + nrOf kn sl[i].1 sl[i + 1].1 by (first | ((try clear hbl); (try clear hi); (try clear hxl); (try clear hlen); omega) | omega)]
        rfl
      rintro σ' H2 ⟨rfl,v1⟩
      have hf2 := v1 _ _ hf1
      refine ⟨_,rfl,.inl ⟨rfl,_,SqL.of hf2⟩,_,rfl,_,rfl,fo,_,_,_,rfl,rfl,SqL.of hf2,atI_lastq hlastV,_,rfl,_,_,rfl,rfl,fo,_,_,rfl,rfl,hf2,small (by rw [iv_len]; first | decide | (first | ((try clear hil); omega) | omega)),?_⟩
      refine ⟨_,_,rfl,same_off (s1.trans v1) hfo,?_⟩
      rw [upd_same,take_snoc hnext,iv_app]
      congr 4
      show V.int _ = V.int _
      congr 1
      (first | ((try clear hbl); (try clear hil); (try clear hi); (try clear hxl); (try clear hlen); omega) | omega)
    · rintro σ H' ⟨kv,mv,rfl,s1,hf1⟩
      rw [hxl,List.take_of_length_le (by rw [begs_len,shp_len]; exact Nat.le_refl _)] at hf1
      exact ⟨_,rfl,kq fo H' s1 hfo hf1⟩
theorem ok_law_width {f : Addr} {fd : FuncData} {f_law_begins : Addr} {fd_law_begins : FuncData} {f_law_rows : Addr} {fd_law_rows : FuncData} (D : Dn K mg "_law_width" s_law_width ["passes","widths","nears","letters"] f fd) (T : Txt mg)
    (D_law_begins : Dn K mg "_law_begins" s_law_begins ["widths","nears","row"] f_law_begins fd_law_begins) (G_law_begins : FnOk P w K mg base CX0 1 f_law_begins fd_law_begins ["widths","nears","row"] spBegins)
    (D_law_rows : Dn K mg "_law_rows" s_law_rows ["passes","letters"] f_law_rows fd_law_rows) (G_law_rows : FnOk P w K mg base CX0 4 f_law_rows fd_law_rows ["passes","letters"] spLawRows) :
    FnOk P w K mg base CX0 5 f fd ["passes","widths","nears","letters"] spLawWidth := by
  refine D.F.ok (k := 4) sc_law_width (fun vs H Q E h => ?_) (fun cdv A outer s H vs Q E hr h => ?_)
  · obtain ⟨pp,wp,np,vl,xps,ps,kw,kn,row,rfl,hpp,hpps,hwp,hiw,hnp,hin,⟨al,rfl,hal⟩,pok,hr100,hp4,hlen,kq⟩ := h
    rfl
  · obtain ⟨pp,wp,np,vl,xps,ps,kw,kn,row,rfl,hpp,hpps,hwp,hiw,hnp,hin,⟨al,rfl,hal⟩,pok,hr100,hp4,hlen,kq⟩ := h
    refine ⟨_,(pss_one (ps_ret (pe_ix ix_list0 (pe_call G_law_begins (hr.mono (by decide)) (by rfl) D_law_begins.m D_law_begins.F.kp D_law_begins.b .nil pass0 (pa_cons (pv 1) (pa_cons (pv 2) (pa_cons (pe_ix ix_list0 (pe_call G_law_rows (hr.mono (by decide)) (by rfl) D_law_rows.m D_law_rows.F.kp D_law_rows.b .nil pass0 (pa_cons (pv 0) (pa_cons (pv 3) pa_nil))) (pe_un un_neg pe_int) (fun _ _ => rfl)) pa_nil)))) (pe_un un_neg pe_int) (fun _ _ => rfl)))),?_⟩
    refine ⟨_,rfl,_,rfl,_,rfl,_,rfl,pp,xps,_,ps,row,rfl,hpp,hpps,⟨al,rfl,hal⟩,pok,hr100,hp4,hlen,fun rp rx H6 s6 hrp hrx hprx => ?_⟩
    obtain ⟨xz,hxz,hz1,az,zs,rfl,haz,hz2⟩ := pr_last hprx (rowsA_last ps row)
    have slen := setRow_len pok row ps.length (Nat.le_refl _)
    rw [List.take_length] at slen
    refine ⟨_,rfl,rp,_,_,_,rfl,rfl,SqL.of hrx,atI_lastq hxz,wp,np,_,kw,kn,setRow ps row,rfl,s6 _ _ hwp,hiw,s6 _ _ hnp,hin,⟨az,zs,rfl,haz,hz2⟩,by (first | ((try clear hp4); omega) | omega),fun bp H7 s7 hbp hbp7 => ?_⟩
    have hlast : (iv (begsL (wdOf kw) (nrOf kn) (shp (setRow ps row)))).getLast? = some (.int (widthS (wdOf kw) (nrOf kn) (shp (setRow ps row)))) := by
      rw [List.getLast?_map,List.getLast?_eq_getElem?,begs_len,Nat.add_sub_cancel,begs_at (Nat.le_refl _),if_neg (Nat.lt_irrefl _),wpre_all]; rfl
    exact ⟨_,rfl,bp,_,_,_,rfl,rfl,SqL.of hbp7,atI_lastq hlast,kq _ (s6.trans s7)⟩
theorem ok_law {f : Addr} {fd : FuncData} {f_law_cell_at : Addr} {fd_law_cell_at : FuncData} {f_law_stock : Addr} {fd_law_stock : FuncData} {f_law_passes : Addr} {fd_law_passes : FuncData} {f_law_letters : Addr} {fd_law_letters : FuncData} {f_law_widths : Addr} {fd_law_widths : FuncData} {f_law_nears : Addr} {fd_law_nears : FuncData} {f_law_rows : Addr} {fd_law_rows : FuncData} {f_law_copy : Addr} {fd_law_copy : FuncData} {f_lines : Addr} {fd_lines : FuncData} {f_law_same : Addr} {fd_law_same : FuncData} {f_law_bar : Addr} {fd_law_bar : FuncData} {f_law_width : Addr} {fd_law_width : FuncData} (D : Dn K mg "law" s_law ["script"] f fd) (T : Txt mg)
    (D_law_cell_at : Dn K mg "_law_cell_at" s_law_cell_at ["script","k"] f_law_cell_at fd_law_cell_at) (G_law_cell_at : FnOk P w K mg base CX0 1 f_law_cell_at fd_law_cell_at ["script","k"] (spCellAt K))
    (D_law_stock : Dn K mg "_law_stock" s_law_stock ["cell"] f_law_stock fd_law_stock) (G_law_stock : FnOk P w K mg base CX0 1 f_law_stock fd_law_stock ["cell"] spStock2)
    (D_law_passes : Dn K mg "_law_passes" s_law_passes ["script","start","many","rules","stock"] f_law_passes fd_law_passes) (G_law_passes : FnOk P w K mg base CX0 4 f_law_passes fd_law_passes ["script","start","many","rules","stock"] (spPasses K))
    (D_law_letters : Dn K mg "_law_letters" s_law_letters ["script","start","many","stock"] f_law_letters fd_law_letters) (G_law_letters : FnOk P w K mg base CX0 3 f_law_letters fd_law_letters ["script","start","many","stock"] (spLetters K))
    (D_law_widths : Dn K mg "_law_widths" s_law_widths ["cell","stock"] f_law_widths fd_law_widths) (G_law_widths : FnOk P w K mg base CX0 2 f_law_widths fd_law_widths ["cell","stock"] spWidths2)
    (D_law_nears : Dn K mg "_law_nears" s_law_nears ["cell","stock","rare"] f_law_nears fd_law_nears) (G_law_nears : FnOk P w K mg base CX0 2 f_law_nears fd_law_nears ["cell","stock","rare"] spNears2)
    (D_law_rows : Dn K mg "_law_rows" s_law_rows ["passes","letters"] f_law_rows fd_law_rows) (G_law_rows : FnOk P w K mg base CX0 4 f_law_rows fd_law_rows ["passes","letters"] spLawRows)
    (D_law_copy : Dn K mg "_law_copy" s_law_copy ["case","letters"] f_law_copy fd_law_copy) (G_law_copy : FnOk P w K mg base CX0 1 f_law_copy fd_law_copy ["case","letters"] spCopy)
    (D_lines : Dn K mg "lines" s_lines ["case","row","measure"] f_lines fd_lines) (G_lines : FnOk P w K mg base CX0 9 f_lines fd_lines ["case","row","measure"] spLines)
    (D_law_same : Dn K mg "_law_same" s_law_same ["found","due"] f_law_same fd_law_same) (G_law_same : FnOk P w K mg base CX0 2 f_law_same fd_law_same ["found","due"] spSame)
    (D_law_bar : Dn K mg "_law_bar" s_law_bar ["passes","nears","rows","place"] f_law_bar fd_law_bar) (G_law_bar : FnOk P w K mg base CX0 3 f_law_bar fd_law_bar ["passes","nears","rows","place"] spLawBar)
    (D_law_width : Dn K mg "_law_width" s_law_width ["passes","widths","nears","letters"] f_law_width fd_law_width) (G_law_width : FnOk P w K mg base CX0 5 f_law_width fd_law_width ["passes","widths","nears","letters"] spLawWidth) :
    FnOk P w K mg base CX0 10 f fd ["script"] (spLaw K) := by
  refine D.F.ok (k := 9) sc_law (fun vs H Q E h => ?_) (fun cdv A outer s H vs Q E hr h => ?_)
  · obtain ⟨a,ns,rfl,hS,hlen,kq⟩ := h
    rfl
  · obtain ⟨a,ns,rfl,hS,hlen,kq⟩ := h
    refine ⟨_,(pss_cons (ps_set (i := 1) sc_law.nd rfl (by first | exact Or.inl rfl | exact Or.inr rfl) (pe_call G_law_cell_at (hr.mono (by decide)) (by rfl) D_law_cell_at.m D_law_cell_at.F.kp D_law_cell_at.b .nil pass0 (pa_cons (pv 0) (pa_cons pe_int pa_nil))))
       (pss_cons (ps_set (i := 2) sc_law.nd rfl (by first | exact Or.inl rfl | exact Or.inr rfl) (pe_call G_law_stock (hr.mono (by decide)) (by rfl) D_law_stock.m D_law_stock.F.kp D_law_stock.b .nil pass0 (pa_cons (pv 1) pa_nil)))
       (pss_cons (ps_set (i := 3) sc_law.nd rfl (by first | exact Or.inl rfl | exact Or.inr rfl) (pe_call G_law_passes (hr.mono (by decide)) (by rfl) D_law_passes.m D_law_passes.F.kp D_law_passes.b .nil pass0 (pa_cons (pv 0) (pa_cons pe_int (pa_cons (pe_op op_mod (pe_op op_fdiv (pv 1) pe_int) pe_int) (pa_cons (pe_op op_mod (pe_op op_fdiv (pv 1) pe_int) pe_int) (pa_cons (pv 2) pa_nil)))))))
       (pss_cons (ps_set (i := 4) sc_law.nd rfl (by first | exact Or.inl rfl | exact Or.inr rfl) (pe_call G_law_letters (hr.mono (by decide)) (by rfl) D_law_letters.m D_law_letters.F.kp D_law_letters.b .nil pass0 (pa_cons (pv 0) (pa_cons pe_int (pa_cons (pe_op op_mod (pe_call G_law_cell_at (hr.mono (by decide)) (by rfl) D_law_cell_at.m D_law_cell_at.F.kp D_law_cell_at.b .nil pass0 (pa_cons (pv 0) (pa_cons pe_int pa_nil))) pe_int) (pa_cons (pv 2) pa_nil))))))
       (pss_cons (ps_set (i := 5) sc_law.nd rfl (by first | exact Or.inl rfl | exact Or.inr rfl) (pe_call G_law_widths (hr.mono (by decide)) (by rfl) D_law_widths.m D_law_widths.F.kp D_law_widths.b .nil pass0 (pa_cons (pe_call G_law_cell_at (hr.mono (by decide)) (by rfl) D_law_cell_at.m D_law_cell_at.F.kp D_law_cell_at.b .nil pass0 (pa_cons (pv 0) (pa_cons pe_int pa_nil))) (pa_cons (pv 2) pa_nil))))
       (pss_cons (ps_set (i := 6) sc_law.nd rfl (by first | exact Or.inl rfl | exact Or.inr rfl) (pe_call G_law_nears (hr.mono (by decide)) (by rfl) D_law_nears.m D_law_nears.F.kp D_law_nears.b .nil pass0 (pa_cons (pe_call G_law_cell_at (hr.mono (by decide)) (by rfl) D_law_cell_at.m D_law_cell_at.F.kp D_law_cell_at.b .nil pass0 (pa_cons (pv 0) (pa_cons pe_int pa_nil))) (pa_cons (pv 2) (pa_cons pe_int pa_nil)))))
       (pss_cons (ps_set (i := 7) sc_law.nd rfl (by first | exact Or.inl rfl | exact Or.inr rfl) (pe_op op_add pe_int (pe_op op_mod (pe_op op_fdiv (pe_call G_law_cell_at (hr.mono (by decide)) (by rfl) D_law_cell_at.m D_law_cell_at.F.kp D_law_cell_at.b .nil pass0 (pa_cons (pv 0) (pa_cons pe_int pa_nil))) pe_int) pe_int)))
       (pss_cons (ps_if (pt_cmpR op_eq (pe_op op_mod (pe_call G_law_cell_at (hr.mono (by decide)) (by rfl) D_law_cell_at.m D_law_cell_at.F.kp D_law_cell_at.b .nil pass0 (pa_cons (pv 0) (pa_cons pe_int pa_nil))) pe_int) pe_int (nomark _))
       (pss_one (ps_set (i := 7) sc_law.nd rfl (by first | exact Or.inl rfl | exact Or.inr rfl) (pe_op op_add pe_int (pe_op op_mod (pe_op op_fdiv (pe_call G_law_cell_at (hr.mono (by decide)) (by rfl) D_law_cell_at.m D_law_cell_at.F.kp D_law_cell_at.b .nil pass0 (pa_cons (pv 0) (pa_cons pe_int pa_nil))) pe_int) pe_int))))
       pss_nil)
       (pss_cons (ps_set (i := 8) sc_law.nd rfl (by first | exact Or.inl rfl | exact Or.inr rfl) (pe_call G_law_rows (hr.mono (by decide)) (by rfl) D_law_rows.m D_law_rows.F.kp D_law_rows.b .nil pass0 (pa_cons (pv 3) (pa_cons (pv 4) pa_nil))))
       (pss_cons (ps_setLc (i := 9) ["place"] [3,6,8] sc_law.nd rfl (by first | exact Or.inl rfl | exact Or.inr rfl) rfl (pi_range2 (by rfl) T.n_range (pa_cons pe_int (pa_cons (pe_callB call_len_seq0 (by rfl) T.n_len PySem.boot_len (pa_cons (pv 4) pa_nil)) pa_nil))) (fun _ _ _ _ => ⟨(pg_name (i := 0) (by exact (show (["place","passes","nears","rows"] : List Str).Nodup by decide +kernel)) rfl (by first | exact Or.inl rfl | exact Or.inr rfl)),(pts_one (pt_cmp (pc_isN (pe_call G_law_bar (hr.mono (by decide)) (by rfl) D_law_bar.m D_law_bar.F.kp D_law_bar.b .nil pass0 (pa_cons (pv 1) (pa_cons (pv 2) (pa_cons (pv 3) (pa_cons (pv 0) pa_nil)))))))),(pv 0)⟩))
       (pss_cons (ps_expr (pe_bmZ PySem.F.plainAttrs_list PySem.F.slot_list_append PySem.F.type_list_append mt_append (pv 9) (pa_cons (pe_callB call_len_seq0 (by rfl) T.n_len PySem.boot_len (pa_cons (pv 4) pa_nil)) pa_nil)))
       (pss_cons (ps_set (i := 10) sc_law.nd rfl (by first | exact Or.inl rfl | exact Or.inr rfl) (pe_lst pa_nil))
       (pss_cons (ps_set (i := 11) sc_law.nd rfl (by first | exact Or.inl rfl | exact Or.inr rfl) pe_int)
       (pss_cons (ps_while PassesOwn.never (pt_cmpR op_lt (pv 11) (pe_callB call_len_seq0 (by rfl) T.n_len PySem.boot_len (pa_cons (pv 4) pa_nil)) (nomark _))
       (pss_cons (ps_setLc (i := 12) ["place"] [11] sc_law.nd rfl (by first | exact Or.inl rfl | exact Or.inr rfl) rfl (pi_list0 (pv 9)) (fun _ _ _ _ => ⟨(pg_name (i := 0) (by exact (show (["place","begin"] : List Str).Nodup by decide +kernel)) rfl (by first | exact Or.inl rfl | exact Or.inr rfl)),(pts_one (pt_cmpR op_gt (pv 0) (pv 1) (nomark _))),(pv 0)⟩))
       (pss_cons (ps_set (i := 13) sc_law.nd rfl (by first | exact Or.inl rfl | exact Or.inr rfl) (pe_ix ix_list0 (pv 12) pe_int (fun _ _ => rfl)))
       (pss_cons (ps_for PassesOwn.never rfl (pi_list0 (pv 12)) (pg_name (i := 14) sc_law.nd rfl (by first | exact Or.inl rfl | exact Or.inr rfl))
       (pss_one (ps_if (pt_cmpR op_le (pe_call G_law_width (hr.mono (by decide)) (by rfl) D_law_width.m D_law_width.F.kp D_law_width.b .nil pass0 (pa_cons (pv 3) (pa_cons (pv 5) (pa_cons (pv 6) (pa_cons (pe_slice sl_list0 (pv 4) (po_some (pv 11)) (po_some (pv 14))) pa_nil))))) (pv 7) (nomark _))
       (pss_one (ps_set (i := 13) sc_law.nd rfl (by first | exact Or.inl rfl | exact Or.inr rfl) (pv 14)))
       pss_nil)))
       (pss_cons (ps_expr (pe_bmZ PySem.F.plainAttrs_list PySem.F.slot_list_append PySem.F.type_list_append mt_append (pv 10) (pa_cons (pe_tup (pa_cons (pv 11) (pa_cons (pv 13) pa_nil))) pa_nil)))
       (pss_one (ps_set (i := 11) sc_law.nd rfl (by first | exact Or.inl rfl | exact Or.inr rfl) (pv 13))))))))
       (pss_cons (ps_set (i := 15) sc_law.nd rfl (by first | exact Or.inl rfl | exact Or.inr rfl) (pe_tup (pa_cons (pv 3) (pa_cons (pv 5) (pa_cons (pv 6) pa_nil)))))
       (pss_cons (ps_set (i := 16) sc_law.nd rfl (by first | exact Or.inl rfl | exact Or.inr rfl) (pe_call G_law_copy (hr.mono (by decide)) (by rfl) D_law_copy.m D_law_copy.F.kp D_law_copy.b .nil pass0 (pa_cons (pv 15) (pa_cons (pv 4) pa_nil))))
       (pss_cons (ps_set (i := 17) sc_law.nd rfl (by first | exact Or.inl rfl | exact Or.inr rfl) (pe_call G_lines (hr.mono (by decide)) (by rfl) D_lines.m D_lines.F.kp D_lines.b .nil pass0 (pa_cons (pv 15) (pa_cons (pv 4) (pa_cons (pv 7) pa_nil)))))
       (pss_cons (ps_if (pw_or (pt_not (pt_val (pe_call G_law_same (hr.mono (by decide)) (by rfl) D_law_same.m D_law_same.F.kp D_law_same.b .nil pass0 (pa_cons (pv 17) (pa_cons (pv 10) pa_nil))))) (pw_or1 (pt_cmpR (op_neW (units30 hr)) (pe_call G_law_copy (hr.mono (by decide)) (by rfl) D_law_copy.m D_law_copy.F.kp D_law_copy.b .nil pass0 (pa_cons (pv 15) (pa_cons (pv 4) pa_nil))) (pv 16) (nomark _)))).pt
       (pss_one (ps_ret pe_bl))
       pss_nil)
       (pss_cons (ps_expr (pe_bmZ PySem.F.plainAttrs_list PySem.F.slot_list_append PySem.F.type_list_append mt_append (pv 17) (pa_cons (pe_tup (pa_cons pe_int (pa_cons pe_int pa_nil))) pa_nil)))
       (pss_one (ps_ret (pe_call G_law_same (hr.mono (by decide)) (by rfl) D_law_same.m D_law_same.F.kp D_law_same.b .nil pass0 (pa_cons (pe_call G_lines (hr.mono (by decide)) (by rfl) D_lines.m D_lines.F.kp D_lines.b .nil pass0 (pa_cons (pv 15) (pa_cons (pv 4) (pa_cons (pv 7) pa_nil)))) (pa_cons (pv 10) pa_nil)))))))))))))))))))))))),?_⟩
    generalize (cxOf CX0 P w K mg base ["script","cell","stock","passes","letters","widths","nears","measure","rows","places","due","begin","later","end","place","case","kept","found"] "law" (defScope s_law) f cdv A outer s H E).nox = XX
    refine ⟨_,rfl,a,ns,0,rfl,Int.le_refl _,hS,fun cell => ?_⟩
    refine ⟨_,rfl,cell,rfl,fun sk st H1 s1 hsk hsk1 hst2 hst5 hsto => ?_⟩
    obtain ⟨m,hm⟩ : ∃ m : Nat,cell / 4 % 4 = (m : Int) := Int.eq_ofNat_of_zero_le (by first | decide | (first | ((try clear hst5); (try clear hst2); (try clear hlen); omega) | omega))
    obtain ⟨r,hr'⟩ : ∃ m : Nat,cell / 16 % 5 = (m : Int) := Int.eq_ofNat_of_zero_le (by first | decide | (first | ((try clear hm); (try clear hst5); (try clear hst2); (try clear hlen); omega) | omega))
    have hsn : st ≠ [] := fun q => by rw [q] at hst2; simp at hst2
    refine ⟨_,rfl,_,rfl,_,_,rfl,rfl,⟨(by first | decide | omega),(by first | decide | omega)⟩,_,_,rfl,rfl,(by first | decide | omega),_,rfl,_,_,rfl,rfl,⟨(by first | decide | omega),(by first | decide | omega)⟩,_,_,rfl,rfl,(by first | decide | omega),_,rfl,a,ns,_,st,18,m,r,(by rw [← hm,← hr']; rfl),s1.seq hS,⟨sk,rfl,hsk1⟩,hsn,by (first | ((try clear hr'); (try clear hm); (try clear hlen); omega) | omega),by (first | ((try clear hr'); (try clear hst5); (try clear hst2); (try clear hlen); omega) | omega),by (first | ((try clear hm); (try clear hst5); (try clear hst2); (try clear hlen); omega) | omega),fun pp xs ps H2 s2 hpp hpp2 hpr pok plen prl => ?_⟩
    have s12 := s1.trans s2
    refine ⟨_,rfl,_,rfl,a,ns,1,rfl,by (first | ((try clear plen); (try clear hr'); (try clear hm); (try clear hst5); (try clear hst2); (try clear hlen); omega) | omega),s12.seq hS,fun c1 => ⟨_,_,rfl,rfl,(by first | decide | omega),_,rfl,?_⟩⟩
    obtain ⟨n,hn⟩ : ∃ m : Nat,c1 % 13 = (m : Int) := Int.eq_ofNat_of_zero_le (by first | decide | (first | ((try clear plen); (try clear hr'); (try clear hm); (try clear hst5); (try clear hst2); (try clear hlen); omega) | omega))
    refine ⟨a,ns,_,st,5,n,(by rw [← hn]; rfl),s12.seq hS,⟨sk,rfl,s2 _ _ hsk1⟩,hsn,by (first | ((try clear hn); (try clear plen); (try clear hr'); (try clear hm); (try clear hlen); omega) | omega),by (first | ((try clear plen); (try clear hr'); (try clear hm); (try clear hst5); (try clear hst2); (try clear hlen); omega) | omega),fun lp ls H3 s3 hlp hlp3 hll => ?_⟩
    have s13 := s12.trans s3
    have hpp3 := s3 _ _ hpp2
    have hpr3 : Paired (IsRules H3) xs ps := prR_same (Paired.imp' (fun _ _ q => q.2) hpr) s3
    have hsk3 := s3 _ _ (s2 _ _ hsk1)
    refine ⟨_,rfl,a,ns,2,rfl,by (first | ((try clear hll); (try clear hn); (try clear plen); (try clear hr'); (try clear hm); (try clear hst5); (try clear hst2); (try clear hlen); omega) | omega),s13.seq hS,fun c2 => ⟨_,rfl,c2,_,st,rfl,⟨sk,rfl,hsk3⟩,hst5,fun wp kw H4 s4 hwp hwp4 wok => ?_⟩⟩
    refine ⟨_,rfl,a,ns,2,rfl,by (first | ((try clear hll); (try clear hn); (try clear plen); (try clear hr'); (try clear hm); (try clear hst5); (try clear hst2); (try clear hlen); omega) | omega),(s13.trans s4).seq hS,fun c3 => ⟨_,rfl,c3,_,st,9,rfl,⟨sk,rfl,s4 _ _ hsk3⟩,hst5,by (first | ((try clear hll); (try clear hn); (try clear plen); (try clear hr'); (try clear hm); (try clear hst5); (try clear hst2); (try clear hlen); omega) | omega),fun np kn H5 s5 hnp hnp5 nok => ?_⟩⟩
    have s35 := s4.trans s5
    have hpp5 := s35 _ _ hpp3
    have hlp5 := s35 _ _ hlp3
    have hpr5 := prR_same hpr3 s35
    have hwp5 := s5 _ _ hwp4
    have bnd : ls.length * 3 ^ ps.length ≤ 9000 := by
      have := pow_le (n := ls.length) (show ps.length ≤ 3 by (first | ((try clear hll); (try clear hn); (try clear hr'); (try clear hst5); (try clear hst2); (try clear hlen); omega) | omega))
      (first | ((try clear plen); (try clear hr'); (try clear hm); (try clear hst5); (try clear hst2); (try clear hlen); omega) | omega)
    have slen := setRow_len pok ls ps.length (Nat.le_refl _)
    rw [List.take_length] at slen
    have wiv := allI_int wok.i
    have niv := allI_int nok.i
    have hash := nok.hash hsto
    have nall := nok.all
    have s05 := s13.trans s35
    refine ⟨_,rfl,a,ns,3,rfl,by (first | ((try clear slen); (try clear bnd); (try clear hll); (try clear hn); (try clear plen); (try clear hr'); (try clear hm); (try clear hst5); (try clear hst2); (try clear hlen); omega) | omega),s05.seq hS,fun c4 => ⟨_,_,rfl,rfl,⟨(by first | decide | omega),(by first | decide | omega)⟩,_,_,rfl,rfl,(by first | decide | omega),_,_,rfl,rfl,?_⟩⟩
    refine ⟨_,rfl,a,ns,3,rfl,by (first | ((try clear slen); (try clear bnd); (try clear hll); (try clear hn); (try clear plen); (try clear hr'); (try clear hm); (try clear hst5); (try clear hst2); (try clear hlen); omega) | omega),s05.seq hS,fun c5 => ⟨_,_,rfl,rfl,(by first | decide | omega),rfl,_,rfl,?_⟩⟩
    refine ite_join (fun σ' H' => ∃ ms : Int,σ' = [some (.ref a),some (.int cell),some (.ref sk),some (.ref pp),some (.ref lp),some (.ref wp),some (.ref np),some (.int ms),none,none,none,none,none,none,none,none,none,none] ∧ H5 = H') ?_ (fun hk h0 => ?_) (fun h0 => ?_)
    case refine_3 => exact ⟨_,rfl,rfl⟩
    case refine_2 =>
      refine ⟨_,rfl,a,ns,3,rfl,by (first | ((try clear slen); (try clear bnd); (try clear hll); (try clear hn); (try clear plen); (try clear hr'); (try clear hm); (try clear hst5); (try clear hst2); (try clear hlen); omega) | omega),s05.seq hS,fun c6 => ⟨_,_,rfl,rfl,⟨(by first | decide | omega),(by first | decide | omega)⟩,_,_,rfl,rfl,(by first | decide | omega),_,_,rfl,rfl,?_⟩⟩
      exact hk _ _ ⟨_,rfl,rfl⟩
    rintro σ' H5' ⟨ms,rfl,rfl⟩
    have hr100 : ∀ rs ∈ ps,rs.length ≤ 100 := fun rs h => by rw [prl rs h]; (first | ((try clear slen); (try clear bnd); (try clear hll); (try clear hn); (try clear plen); (try clear hm); (try clear hst5); (try clear hst2); (try clear hlen); omega) | omega)
    refine ⟨_,rfl,_,rfl,pp,xs,_,ps,ls,rfl,hpp5,hpr5,⟨lp,rfl,hlp5⟩,pok,hr100,by (first | ((try clear slen); (try clear bnd); (try clear hll); (try clear hn); (try clear hr'); (try clear hst5); (try clear hst2); (try clear hlen); omega) | omega),bnd,fun rp rx H6 s6 hrp hrx hprx => ?_⟩
    have hprx' : Paired (IsSlots H6) rx (rowsA ps ls) := Paired.imp' (fun _ _ q => q.2) hprx
    have slotsSame : ∀ {H H' : Hp},Paired (IsSlots H) rx (rowsA ps ls) → Same H H' → Paired (IsSlots H') rx (rowsA ps ls) := fun h s => Paired.imp' (fun _ _ q => q.same tS s) h
    refine ⟨_,rfl,lp,_,rfl,.inl (SqL.of (s6 _ _ hlp5)),_,_,rfl,⟨by (first | ((try clear slen); (try clear bnd); (try clear hll); (try clear hn); (try clear plen); (try clear hr'); (try clear hm); (try clear hst5); (try clear hst2); (try clear hlen); omega) | omega),by (first | ((try clear slen); (try clear bnd); (try clear hll); (try clear hn); (try clear plen); (try clear hr'); (try clear hm); (try clear hst5); (try clear hst2); (try clear hlen); omega) | omega),by (first | ((try clear slen); (try clear bnd); (try clear hll); (try clear hn); (try clear plen); (try clear hr'); (try clear hm); (try clear hst5); (try clear hst2); (try clear hlen); omega) | omega),by rw [iv_len]; (first | ((try clear slen); (try clear bnd); (try clear plen); (try clear hr'); (try clear hm); (try clear hst5); (try clear hst2); (try clear hlen); omega) | omega)⟩,fun D hD => (let Iv : Nat → List V → L2.St → Hp → Prop := fun i ys τ H' => ∃ pv,And4 (τ = [pv,some (.ref pp),some (.ref np),some (.ref rp)]) (Same H6 H') (H' D = some (.lst ys)) (ys = iv (nv' (cutsN (evAll ps (nrOf kn) ls) i))); lc_range (lo := 1) (n := (((iv ls).length : Int) - 1).toNat) Iv
      ⟨none,rfl,same_new hD,upd_same,rfl⟩ (fun i ys τ H' _ zz1 => by obtain ⟨_,_,_,h',_⟩ := zz1; exact h') ?_ ?_)⟩
    · rintro i ys τ H' hi ⟨pv,rfl,u1,hd1,rfl⟩
      rw [iv_len] at hi
      have hcl := cuts_len (evAll ps (nrOf kn) ls) i
      have s56 := s6.trans u1
      refine ⟨_,rfl,_,rfl,_,rfl,_,rfl,pp,np,_,xs,kn,ps,ls,rp,rx,1 + i,(by rw [show ((1 + i : Nat) : Int) = 1 + (i : Int) by (first | ((try clear hcl); (try clear hi); (try clear slen); (try clear bnd); (try clear hll); (try clear hn); (try clear plen); (try clear hr'); (try clear hm); (try clear hst5); (try clear hst2); (try clear hlen); omega) | omega)]; rfl),s56 _ _ hpp5,prR_same hpr5 s56,s56 _ _ hnp5,niv,rfl,u1 _ _ hrx,slotsSame hprx' u1,pok,hr100,by (first | ((try clear hcl); (try clear hi); (try clear slen); (try clear bnd); (try clear hll); (try clear hn); (try clear hr'); (try clear hst5); (try clear hst2); (try clear hlen); omega) | omega),bnd,fun v H2' v1 hb => ?_⟩
      have hd2 := v1 _ _ hd1
      have hsucc := cutsN_succ (evAll ps (nrOf kn) ls) i
      refine ⟨_,rfl,?_⟩
      cases e : barOf (evAll ps (nrOf kn) ls) ((1 + i : Nat) : Int) with
      | none =>
        rw [e] at hb hsucc
        have hv : v = .non := hb
        subst hv
        refine iteT ?_
        refine ⟨_,rfl,hd2,small (by rw [ivn_len]; (first | ((try clear slen); (try clear bnd); (try clear plen); (try clear hr'); (try clear hm); (try clear hst5); (try clear hst2); (try clear hlen); omega) | omega)),_,rfl,same_off (u1.trans v1) hD,upd_same,?_⟩
        rw [hsucc]
        show _ = iv (nv' (_ ++ [1 + i]))
        rw [ivn_snoc,show ((1 + i : Nat) : Int) = 1 + (i : Int) by (first | ((try clear hcl); (try clear hi); (try clear slen); (try clear bnd); (try clear hll); (try clear hn); (try clear plen); (try clear hr'); (try clear hm); (try clear hst5); (try clear hst2); (try clear hlen); omega) | omega)]
      | some b =>
        rw [e] at hb hsucc
        have hb' : IsBar H2' v b := hb
        obtain ⟨q,rfl⟩ : ∃ q,v = .ref q := by
          cases b with
          | rule _ _ _ => obtain ⟨q,e,_⟩ := hb'; exact ⟨q,e⟩
          | near _ => obtain ⟨q,e,_⟩ := hb'; exact ⟨q,e⟩
        have hn : decide (V.ref q = V.non) = false := decide_eq_false fun z => by cases z
        rw [hn]
        refine iteF ?_
        refine ⟨_,rfl,u1.trans v1,hd2,?_⟩
        rw [hsucc]
        show _ = iv (nv' (_ ++ []))
        rw [List.append_nil]
    rintro ys τ H7 ⟨pv,rfl,u1,hd7,rfl⟩
    rw [iv_len,show ((ls.length : Int) - 1).toNat = ls.length - 1 by (first | ((try clear hcl); (try clear slen); (try clear bnd); (try clear plen); (try clear hr'); (try clear hm); (try clear hst5); (try clear hst2); (try clear hlen); omega) | omega)] at hd7
    have hcl := cuts_len (evAll ps (nrOf kn) ls) (ls.length - 1)
    have s57 := s6.trans u1
    refine ⟨_,rfl,.inl ⟨rfl,_,SqL.of hd7⟩,_,rfl,lp,_,rfl,.inl (SqL.of (s57 _ _ hlp5)),D,_,_,rfl,rfl,hd7,small (by rw [ivn_len]; (first | ((try clear slen); (try clear bnd); (try clear plen); (try clear hr'); (try clear hm); (try clear hst5); (try clear hst2); (try clear hlen); omega) | omega)),?_⟩
    have hD5 : H6 D = none := hD
    have s58 : Same H6 (upd H7 D (.lst (iv (nv' (cutsN (evAll ps (nrOf kn) ls) (ls.length - 1))) ++ [.int ((iv ls).length : Int)]))) := same_off u1 hD
    have hd8 : (upd H7 D (.lst (iv (nv' (cutsN (evAll ps (nrOf kn) ls) (ls.length - 1))) ++ [.int ((iv ls).length : Int)]))) D = some (.lst (iv (nv' (placesOf ps (nrOf kn) ls)))) := by
      rw [upd_same]; unfold placesOf; rw [ivn_snoc,iv_len]
    generalize (upd H7 D (.lst (iv (nv' (cutsN (evAll ps (nrOf kn) ls) (ls.length - 1))) ++ [.int ((iv ls).length : Int)]))) = H8 at s58 hd8 ⊢
    have plen : (placesOf ps (nrOf kn) ls).length ≤ ls.length + 1 := by unfold placesOf; rw [List.length_append,List.length_singleton]; (first | ((try clear slen); (try clear bnd); (try clear plen); (try clear hr'); (try clear hm); (try clear hst5); (try clear hst2); (try clear hlen); omega) | omega)
    have s08 := s6.trans s58
    refine ⟨Nat.zero_le _,fun dp hdp => ?_⟩
    have s9 : Same H8 (upd H8 dp (.lst [])) := same_new hdp
    let Wv : Nat → L2.St → Hp → Prop := fun k τ H' => Ex6 fun (b : Nat) (lv ev qv : Option V) (ys : List V) (acc : List (Nat × Nat)) => And9 (τ = [some (.ref a),some (.int cell),some (.ref sk),some (.ref pp),some (.ref lp),some (.ref wp),some (.ref np),some (.int ms),some (.ref rp),some (.ref D),some (.ref dp),some (.int (b : Int)),lv,ev,qv,none,none,none]) (k = ls.length - b) (SameX dp H8 H') (H' dp = some (.lst ys)) (Paired (IsP H') ys acc) (okPlace ps (nrOf kn) ls b) (b ≤ ls.length) (acc.length ≤ b) ((∀ l,LinesAre (wTo ps (wdOf kw) (nrOf kn) ls) (placesOf ps (nrOf kn) ls) ls.length ms b l → LinesAre (wTo ps (wdOf kw) (nrOf kn) ls) (placesOf ps (nrOf kn) ls) ls.length ms 0 (acc ++ l)))
    refine ⟨Wv,⟨_,0,none,none,none,[],[],rfl,rfl,.of s9,upd_same,.nil,.inl rfl,Nat.zero_le _,Nat.le_refl _,fun l h => h⟩,?_⟩
    rintro k τ H9 ⟨b,lv,ev,qv,ys,acc,rfl,rfl,sx,ht9,hpy,okb,hbl,hal,hlin⟩
    have sH9 : Same H8 H9 := sx.same (Same.refl _) hdp
    have s59 := s08.trans sH9
    refine ⟨_,rfl,_,rfl,lp,_,rfl,.inl (SqL.of (s59 _ _ hlp5)),_,_,rfl,rfl,_,rfl,?_⟩
    refine ite2 (fun h0 => ⟨_,fun _ _ h => h,?_⟩) (fun h0 => ?_)
    · have hb : b < ls.length := by
        have : (b : Int) < ((iv ls).length : Int) := by simpa using h0
        rw [iv_len] at this; (first | ((try clear hal); (try clear hbl); (try clear plen); (try clear hcl); (try clear slen); (try clear bnd); (try clear hll); (try clear hn); (try clear hr'); (try clear hm); (try clear hst5); (try clear hst2); (try clear hlen); omega) | omega)
      have hd9 := sH9 _ _ hd8
      refine ⟨_,rfl,D,rfl,⟨_,SqL.of hd9⟩,fun L hL => (let Iv : Nat → List V → L2.St → Hp → Prop := fun i zs τ H' => ∃ pv,And4 (τ = [pv,some (.int (b : Int))]) (Same H9 H') (H' L = some (.lst zs)) (zs = iv (nv' (((placesOf ps (nrOf kn) ls).take i).filter fun q => decide (b < q)))); lc_list (xs := iv (nv' (placesOf ps (nrOf kn) ls))) Iv
        ⟨none,rfl,same_new hL,upd_same,rfl⟩ (fun i zs τ H' _ zz1 => by obtain ⟨_,_,s',h',_⟩ := zz1; exact ⟨h',SqL.of (s' _ _ hd9)⟩) ?_ ?_)⟩
      · rintro i x zs τ H' hx ⟨pv,rfl,v1,hd1,rfl⟩
        obtain ⟨q,hqn,rfl⟩ := at_ivn hx
        have hil := (List.getElem?_eq_some_iff.mp hqn).1
        have hfl : (((placesOf ps (nrOf kn) ls).take i).filter fun q => decide (b < q)).length ≤ i := Nat.le_trans (List.length_filter_le _ _) (by rw [List.length_take]; (first | ((try clear hb); (try clear hal); (try clear hbl); (try clear plen); (try clear hcl); (try clear slen); (try clear bnd); (try clear hll); (try clear hn); (try clear hr'); (try clear hm); (try clear hst5); (try clear hst2); (try clear hlen); omega) | omega))
        refine ⟨_,rfl,_,rfl,_,_,rfl,rfl,_,rfl,?_⟩
        by_cases c : b < q
        · rw [show decide ((b : Int) < (q : Int)) = true from decide_eq_true (by first | decide | (first | ((try clear hfl); (try clear hil); (try clear hb); (try clear hal); (try clear hbl); (try clear plen); (try clear hcl); (try clear slen); (try clear bnd); (try clear hll); (try clear hn); (try clear hr'); (try clear hm); (try clear hst5); (try clear hst2); (try clear hlen); omega) | omega))]
          refine iteT ?_
          refine ⟨_,rfl,hd1,small (by rw [ivn_len]; (first | ((try clear c); (try clear hb); (try clear hal); (try clear hbl); (try clear hcl); (try clear slen); (try clear bnd); (try clear hr'); (try clear hm); (try clear hst5); (try clear hst2); (try clear hlen); omega) | omega)),_,rfl,same_off v1 hL,upd_same,?_⟩
          rw [take_snoc hqn,List.filter_append,List.filter_cons_of_pos (p := fun q => decide (b < q)) (decide_eq_true c),List.filter_nil,ivn_snoc]
        · rw [show decide ((b : Int) < (q : Int)) = false from decide_eq_false (by first | decide | (first | ((try clear hfl); (try clear hil); (try clear hb); (try clear hal); (try clear hbl); (try clear plen); (try clear hcl); (try clear slen); (try clear bnd); (try clear hll); (try clear hn); (try clear hr'); (try clear hm); (try clear hst5); (try clear hst2); (try clear hlen); omega) | omega))]
          refine iteF ?_
          refine ⟨_,rfl,v1,hd1,?_⟩
          rw [take_snoc hqn,List.filter_append,List.filter_cons_of_neg (p := fun q => decide (b < q)) (by rw [decide_eq_false c]; exact Bool.false_ne_true),List.filter_nil,List.append_nil]
      rintro zs τ H10 ⟨pv,rfl,v1,hL10,rfl⟩
      rw [ivn_len,List.take_length] at hL10
      generalize hlat : (placesOf ps (nrOf kn) ls).filter (fun q => decide (b < q)) = later at hL10
      have hmemf : ∀ q ∈ later,q ∈ placesOf ps (nrOf kn) ls ∧ b < q := fun q hq => by
        rw [← hlat,List.mem_filter] at hq; exact ⟨hq.1,of_decide_eq_true hq.2⟩
      have hnmem : ls.length ∈ later := by
        rw [← hlat]; exact List.mem_filter.mpr ⟨by unfold placesOf; exact List.mem_append_right _ (List.mem_singleton.mpr rfl),decide_eq_true hb⟩
      have hris : later.Pairwise (fun a b => a ≤ b) := by rw [← hlat]; exact List.Pairwise.filter _ (places_rising ps (nrOf kn) ls)
      have hllen : later.length ≤ ls.length + 1 := by rw [← hlat]; exact Nat.le_trans (List.length_filter_le _ _) plen
      obtain ⟨e0,he0⟩ := exHead (l := later) (fun q => by rw [q] at hnmem; cases hnmem)
      have he00 : (iv (nv' later))[0]? = some (.int (e0 : Int)) := by rw [← List.head?_eq_getElem?,List.head?_map,List.head?_map,he0]; rfl
      refine ⟨_,rfl,L,_,((0 : Nat) : Int),_,rfl,rfl,SqL.of hL10,atI_nat he00,?_⟩
      refine ⟨_,rfl,L,rfl,⟨_,SqL.of hL10⟩,(let Sg : (Nat) → (Option V) → L2.St := fun e qv => [some (.ref a),some (.int cell),some (.ref sk),some (.ref pp),some (.ref lp),some (.ref wp),some (.ref np),some (.int ms),some (.ref rp),some (.ref D),some (.ref dp),some (.int (b : Int)),some (.ref L),some (.int (e : Int)),qv,none,none,none]; let Iv : Nat → L2.St → Hp → Prop := fun i σ H' => Ex2 fun (e : Nat) (qv : Option V) => And3 (σ = Sg e qv) (Same H10 H') (((e ∈ later.take i ∧ wTo ps (wdOf kw) (nrOf kn) ls e - wTo ps (wdOf kw) (nrOf kn) ls b ≤ ms ∧ ∀ q ∈ later.take i,wTo ps (wdOf kw) (nrOf kn) ls q - wTo ps (wdOf kw) (nrOf kn) ls b ≤ ms → q ≤ e) ∨ ((∀ q ∈ later.take i,¬ wTo ps (wdOf kw) (nrOf kn) ls q - wTo ps (wdOf kw) (nrOf kn) ls b ≤ ms) ∧ e = e0))); for_list (xs := iv (nv' later)) Iv
        ⟨e0,qv,rfl,Same.refl _,.inr ⟨(fun q hq => by rw [List.take_zero] at hq; cases hq),rfl⟩⟩ (fun i σ H' _ zz1 => by obtain ⟨_,_,_,s',_⟩ := zz1; exact SqL.of (s' _ _ hL10)) ?_ ?_)⟩
      · rintro i x σ H' hx ⟨e,qv,rfl,v2,hor⟩
        obtain ⟨q,hqn,rfl⟩ := at_ivn hx
        obtain ⟨hq1,hq2⟩ := hmemf q (List.mem_of_getElem? hqn)
        obtain ⟨okq,hql⟩ := placesOf_ok q hq1
        have lw := line_width (wd := wdOf kw) pok okb okq hq2 hql
        have s511 := s59.trans (v1.trans v2)
        refine ⟨_,rfl,_,rfl,_,rfl,_,rfl,_,rfl,_,rfl,_,rfl,_,rfl,lp,_,rfl,SqL.of (s511 _ _ hlp5),fun y hy => ?_⟩
        rw [cutV_nn,← iv_drop,← iv_take]
        have v3 : Same H' (upd H' y (.lst (iv ((ls.drop b).take (q - b))))) := same_new hy
        have pl : ((ls.drop b).take (q - b)).length ≤ ls.length := by rw [List.length_take,List.length_drop]; (first | ((try clear lw); (try clear hor); (try clear hllen); (try clear hbl); (try clear plen); (try clear hcl); (try clear slen); (try clear bnd); (try clear hll); (try clear hn); (try clear hr'); (try clear hm); (try clear hst5); (try clear hst2); (try clear hlen); omega) | omega)
        have s512 := s511.trans v3
        refine ⟨pp,wp,np,_,xs,ps,kw,kn,_,rfl,s512 _ _ hpp5,prR_same hpr5 s512,s512 _ _ hwp5,wiv,s512 _ _ hnp5,niv,⟨y,rfl,upd_same⟩,pok,hr100,by (first | ((try clear pl); (try clear lw); (try clear hql); (try clear hq2); (try clear hor); (try clear hllen); (try clear hb); (try clear hal); (try clear hbl); (try clear hcl); (try clear slen); (try clear bnd); (try clear hll); (try clear hn); (try clear hr'); (try clear hst5); (try clear hst2); (try clear hlen); omega) | omega),Nat.le_trans (Nat.mul_le_mul_right _ pl) bnd,fun H3' v4 => ⟨_,rfl,_,_,rfl,rfl,_,rfl,?_⟩⟩
        rw [← lw]
        have v24 := (v2.trans v3).trans v4
        have hpre : ∀ z ∈ later.take i,z ≤ q := fun z hz => by
          obtain ⟨k1,hk1,hz'⟩ := List.getElem_of_mem hz
          rw [List.length_take] at hk1
          have hki : k1 < i := by (first | ((try clear hz'); (try clear pl); (try clear lw); (try clear hql); (try clear hq2); (try clear hor); (try clear hllen); (try clear hb); (try clear hal); (try clear hbl); (try clear plen); (try clear hcl); (try clear slen); (try clear bnd); (try clear hll); (try clear hn); (try clear hr'); (try clear hm); (try clear hst5); (try clear hst2); (try clear hlen); omega) | omega)
          have hqi := (List.getElem?_eq_some_iff.mp hqn)
          have := List.pairwise_iff_getElem.mp hris k1 i (by first | decide | (first | ((try clear hki); (try clear hz'); (try clear pl); (try clear lw); (try clear hql); (try clear hq2); (try clear hor); (try clear hllen); (try clear hb); (try clear hal); (try clear hbl); (try clear plen); (try clear hcl); (try clear slen); (try clear bnd); (try clear hll); (try clear hn); (try clear hr'); (try clear hm); (try clear hst5); (try clear hst2); (try clear hlen); omega) | omega)) hqi.1 hki
          rw [hqi.2] at this
          rw [← hz',List.getElem_take]; exact this
        refine ite2 (fun h1 => ?_) (fun h1 => ?_)
        · have hfit : wTo ps (wdOf kw) (nrOf kn) ls q - wTo ps (wdOf kw) (nrOf kn) ls b ≤ ms := by simpa using h1
          refine ⟨_,rfl,q,_,rfl,v24,.inl ⟨by rw [take_snoc hqn]; exact List.mem_append_right _ (List.mem_singleton.mpr rfl),hfit,fun z hz hz2 => ?_⟩⟩
          rw [take_snoc hqn] at hz
          rcases List.mem_append.mp hz with hz | hz
          · exact hpre z hz
          · rw [List.mem_singleton.mp hz]; exact Nat.le_refl _
        · have hfit : ¬ wTo ps (wdOf kw) (nrOf kn) ls q - wTo ps (wdOf kw) (nrOf kn) ls b ≤ ms := by simpa using h1
          refine ⟨e,_,rfl,v24,?_⟩
          rw [take_snoc hqn]
          rcases hor with ⟨o1,o2,o3⟩ | ⟨o1,o2⟩
          · refine .inl ⟨List.mem_append_left _ o1,o2,fun z hz hz2 => ?_⟩
            rcases List.mem_append.mp hz with hz | hz
            · exact o3 z hz hz2
            · rw [List.mem_singleton.mp hz] at hz2; exact absurd hz2 hfit
          · refine .inr ⟨fun z hz => ?_,o2⟩
            rcases List.mem_append.mp hz with hz | hz
            · exact o1 z hz
            · rw [List.mem_singleton.mp hz]; exact hfit
      rintro σ H11 ⟨e,qv,rfl,v2,hor⟩
      rw [ivn_len,List.take_length] at hor
      have hend : IsEnd (wTo ps (wdOf kw) (nrOf kn) ls) ((placesOf ps (nrOf kn) ls).filter fun q => decide (b < q)) b ms e := by
        rw [hlat]
        rcases hor with ⟨o1,o2,o3⟩ | ⟨o1,o2⟩
        · exact .inl ⟨o1,o2,o3⟩
        · exact .inr ⟨o1,by rw [o2]; exact he0⟩
      have hein : e ∈ later := by
        rcases hor with ⟨o1,_⟩ | ⟨_,o2⟩
        · exact o1
        · rw [o2]; exact headMem he0
      obtain ⟨he1,he2⟩ := hmemf e hein
      obtain ⟨oke,hel⟩ := placesOf_ok e he1
      have v12 := v1.trans v2
      have ht11 := v12 _ _ ht9
      refine ⟨_,rfl,.inl ⟨rfl,_,SqL.of ht11⟩,_,rfl,_,rfl,(by show 2 ≤ sizeLine; decide),fun t ht => ?_⟩
      have ntt : dp ≠ t := ne_of_none ht11 ht
      have hyl : ys.length = acc.length := pr_len hpy
      have ht11' : (upd H11 t (.tup [.int (b : Int),.int (e : Int)])) dp = some (.lst ys) := by rw [upd_ne ntt]; exact ht11
      refine ⟨dp,ys,_,rfl,rfl,ht11',small (by first | decide | (first | ((try clear hor); (try clear hllen); (try clear hb); (try clear hbl); (try clear plen); (try clear hcl); (try clear slen); (try clear bnd); (try clear hr'); (try clear hm); (try clear hst5); (try clear hst2); (try clear hlen); omega) | omega)),?_⟩
      refine ⟨_,rfl,ls.length - e,by (first | ((try clear hyl); (try clear hor); (try clear hllen); (try clear hal); (try clear hbl); (try clear plen); (try clear hcl); (try clear slen); (try clear bnd); (try clear hll); (try clear hn); (try clear hr'); (try clear hm); (try clear hst5); (try clear hst2); (try clear hlen); omega) | omega),e,_,_,_,_,acc ++ [(b,e)],rfl,rfl,(sx.trans (.of (v12.trans (same_new ht)))).trans .upd,upd_same,?_,oke,hel,by rw [List.length_append,List.length_singleton]; (first | ((try clear hel); (try clear hor); (try clear hllen); (try clear hb); (try clear hbl); (try clear plen); (try clear hcl); (try clear slen); (try clear bnd); (try clear hll); (try clear hn); (try clear hr'); (try clear hm); (try clear hst5); (try clear hst2); (try clear hlen); omega) | omega),fun l hl => ?_⟩
      · refine pr_app (pr_tps tP hpy (((tps_of v12).trans (Tps.new ht)).trans (Tps.lst ht11'))) (.cons ⟨t,rfl,?_⟩ .nil)
        rw [upd_ne ntt.symm,upd_same]
      · rw [List.append_assoc]
        exact hlin _ (.cons hb he2 hel hend hl)
    have hb : ls.length ≤ b := by
      have : ¬ (b : Int) < ((iv ls).length : Int) := by simpa using h0
      rw [iv_len] at this; (first | ((try clear h0); (try clear hal); (try clear plen); (try clear hcl); (try clear slen); (try clear bnd); (try clear hll); (try clear hn); (try clear hr'); (try clear hm); (try clear hst5); (try clear hst2); (try clear hlen); omega) | omega)
    have hdue := hlin [] (.nil hb)
    rw [List.append_nil] at hdue
    refine ⟨_,rfl,_,rfl,_,rfl,(by show 3 ≤ sizeLine; decide),fun tc htc => ?_⟩
    have s8' : Same H9 (upd H9 tc (.tup [.ref pp,.ref wp,.ref np])) := same_new htc
    have s5C := s59.trans s8'
    have htc8 : (upd H9 tc (.tup [.ref pp,.ref wp,.ref np])) tc = some (.tup [.ref pp,.ref wp,.ref np]) := upd_same
    have hdpC := s8' _ _ ht9
    have hpyC := pr_tps tP hpy (tps_of s8')
    generalize (upd H9 tc (.tup [.ref pp,.ref wp,.ref np])) = C at s8' s5C htc8 hdpC hpyC ⊢
    have hpr8 := prR_same hpr5 s5C
    obtain ⟨zss,hct⟩ := conts_of hpr8
    have hxl : xs.length = ps.length := pr_len hpr5
    have cs8 : IsCase C (.ref tc) ps kw kn := ⟨.ref wp,.ref np,⟨tc,_,pp,xs,rfl,htc8,rfl,s5C _ _ hpp5,hpr8⟩,⟨wp,rfl,s5C _ _ hwp5,wiv⟩,⟨np,rfl,s5C _ _ hnp5,niv⟩⟩
    have cok : CaseOk ps ls := ⟨pok,by (first | ((try clear hb); (try clear h0); (try clear hal); (try clear hbl); (try clear hcl); (try clear slen); (try clear bnd); (try clear hll); (try clear hn); (try clear hr'); (try clear hst5); (try clear hst2); (try clear hlen); omega) | omega),by (first | ((try clear hxl); (try clear h0); (try clear hal); (try clear plen); (try clear hcl); (try clear slen); (try clear bnd); (try clear hr'); (try clear hm); (try clear hst5); (try clear hst2); (try clear hlen); omega) | omega),by (first | ((try clear hxl); (try clear hb); (try clear h0); (try clear hal); (try clear hbl); (try clear plen); (try clear hcl); (try clear slen); (try clear hll); (try clear hn); (try clear hr'); (try clear hm); (try clear hst5); (try clear hst2); (try clear hlen); omega) | omega)⟩
    have dL : (acc.map fun d => [(d.1 : Int),(d.2 : Int)]).length ≤ 10000 := by rw [List.length_map]; (first | ((try clear hxl); (try clear h0); (try clear plen); (try clear hcl); (try clear slen); (try clear bnd); (try clear hr'); (try clear hm); (try clear hst5); (try clear hst2); (try clear hlen); omega) | omega)
    have dE : ∀ t ∈ acc.map (fun d => [(d.1 : Int),(d.2 : Int)]),t.length ≤ 100 := fun t h => by
      obtain ⟨d,_,rfl⟩ := List.mem_map.mp h
      show 2 ≤ 100; decide
    have dT : ∀ H',Same C H' → LstOf IsT H' (.ref dp) (acc.map fun d => [(d.1 : Int),(d.2 : Int)]) := fun H' s => ⟨dp,ys,rfl,s _ _ hdpC,pr_map (fun x d q => q.t) (pr_tps tP hpyC (tps_of s))⟩
    refine ⟨_,rfl,_,rfl,tc,pp,wp,np,lp,xs,zss,kw,kn,ls,rfl,htc8,s5C _ _ hpp5,hct,by (first | ((try clear dL); (try clear hb); (try clear h0); (try clear hal); (try clear hbl); (try clear hcl); (try clear slen); (try clear bnd); (try clear hll); (try clear hn); (try clear hr'); (try clear hst5); (try clear hst2); (try clear hlen); omega) | omega),s5C _ _ hwp5,s5C _ _ hnp5,nall,hash,s5C _ _ hlp5,fun kp C1 t1 hkp ck => ?_⟩
    refine ⟨_,rfl,_,rfl,_,rfl,_,_,ps,kw,kn,ls,ms,rfl,cs8.same t1,⟨lp,rfl,(s5C.trans t1) _ _ hlp5⟩,cok,fun fp fx lns C2 t2 hfp hfp2 hpf hlns hll' => ?_⟩
    have el := lines_one hlns hdue
    subst el
    have t12 := t1.trans t2
    refine ⟨_,rfl,_,rfl,_,_,_,rfl,⟨fp,fx,rfl,hfp2,pr_map (fun x d q => q.t) hpf⟩,dT C2 t12,dL,dE,_,rfl,?_⟩
    refine iteF ?_
    refine ⟨_,rfl,_,rfl,tc,pp,wp,np,lp,xs,zss,kw,kn,ls,rfl,t12 _ _ htc8,(s5C.trans t12) _ _ hpp5,hct.same t12,by (first | ((try clear dL); (try clear hal); (try clear hll'); (try clear hb); (try clear h0); (try clear hbl); (try clear hcl); (try clear slen); (try clear bnd); (try clear hll); (try clear hn); (try clear hr'); (try clear hst5); (try clear hst2); (try clear hlen); omega) | omega),(s5C.trans t12) _ _ hwp5,(s5C.trans t12) _ _ hnp5,nall,hash,(s5C.trans t12) _ _ hlp5,fun kp2 C3 t3 hkp2 ck2 => ?_⟩
    obtain ⟨xs',ys',e1,e2,e3,e4⟩ := copy_like (X := XX) (ck.same t2) t3 ck2 wok ⟨nok.i,nall⟩
    refine ⟨_,rfl,kp2,kp,xs',ys',rfl,rfl,e1,e2,e3,e4,_,rfl,?_⟩
    refine iteF ?_
    have t13 := t12.trans t3
    have hfp3 := t3 _ _ hfp2
    have hfl : fx.length = lns.length := pr_len hpf
    refine ⟨_,rfl,.inl ⟨rfl,_,SqL.of hfp3⟩,(by show 2 ≤ sizeLine; decide),fun tt htt => ?_⟩
    have nft : fp ≠ tt := ne_of_none hfp3 htt
    refine ⟨fp,fx,_,rfl,rfl,(by rw [upd_ne nft]; exact hfp3),small (by first | decide | (first | ((try clear e3); (try clear dL); (try clear hal); (try clear hxl); (try clear h0); (try clear plen); (try clear hcl); (try clear slen); (try clear bnd); (try clear hr'); (try clear hm); (try clear hst5); (try clear hst2); (try clear hlen); omega) | omega)),?_⟩
    have t05 : Same C (upd (upd C3 tt (.tup [.int 0,.int 1])) fp (.lst (fx ++ [.ref tt]))) := same_off (t13.trans (same_new htt)) (t1.free hfp)
    refine ⟨_,rfl,_,rfl,_,rfl,_,_,ps,kw,kn,ls,ms,rfl,cs8.same t05,⟨lp,rfl,(s5C.trans t05) _ _ hlp5⟩,cok,fun gp gx lns2 C6 t6 hgp hgp6 hpg hlns2 _ => ?_⟩
    have el2 := lines_one hlns2 hdue
    subst el2
    exact ⟨_,rfl,_,_,_,rfl,⟨gp,gx,rfl,hgp6,pr_map (fun x d q => q.t) hpg⟩,dT C6 (t05.trans t6),dL,dE,kq _⟩
end
end W
namespace W
open PySem PySem.Spec PyProof.Rows L2 Ink
theorem len1 {us : List Value} (h : us.length = 1) : ∃ a0,us = [a0] := by
  cases us with
  | nil => cases h
  | cons a0 us =>
    cases us with
    | nil => exact ⟨a0,rfl⟩
    | cons b us => cases h
theorem len2 {us : List Value} (h : us.length = 2) : ∃ a0 a1,us = [a0,a1] := by
  cases us with
  | nil => cases h
  | cons a0 us =>
    cases us with
    | nil => cases h
    | cons a1 us =>
      cases us with
      | nil => exact ⟨a0,a1,rfl⟩
      | cons b us => cases h
theorem len3 {us : List Value} (h : us.length = 3) : ∃ a0 a1 a2,us = [a0,a1,a2] := by
  cases us with
  | nil => cases h
  | cons a0 us =>
    cases us with
    | nil => cases h
    | cons a1 us =>
      cases us with
      | nil => cases h
      | cons a2 us =>
        cases us with
        | nil => exact ⟨a0,a1,a2,rfl⟩
        | cons b us => cases h
theorem len4 {us : List Value} (h : us.length = 4) : ∃ a0 a1 a2 a3,us = [a0,a1,a2,a3] := by
  cases us with
  | nil => cases h
  | cons a0 us =>
    cases us with
    | nil => cases h
    | cons a1 us =>
      cases us with
      | nil => cases h
      | cons a2 us =>
        cases us with
        | nil => cases h
        | cons a3 us =>
          cases us with
          | nil => exact ⟨a0,a1,a2,a3,rfl⟩
          | cons b us => cases h
theorem len5 {us : List Value} (h : us.length = 5) : ∃ a0 a1 a2 a3 a4,us = [a0,a1,a2,a3,a4] := by
  cases us with
  | nil => cases h
  | cons a0 us =>
    cases us with
    | nil => cases h
    | cons a1 us =>
      cases us with
      | nil => cases h
      | cons a2 us =>
        cases us with
        | nil => cases h
        | cons a3 us =>
          cases us with
          | nil => cases h
          | cons a4 us =>
            cases us with
            | nil => exact ⟨a0,a1,a2,a3,a4,rfl⟩
            | cons b us => cases h
theorem dnG {K : PySem.W.Frag} {h : Heap} {mg : Str → Option Value} {x : Str} {st : Stmt} {ps : List Str} (hb : ∀ (kV doc pm : Value) (an : Option Addr) (cdv ct : Value) (us : List Value),us.length = ps.length → bindArgs (PySem.W.fnOf x x (defArgs st) (defBody st) (defScope st) .none kV doc pm an cdv ct) ⟨us,[]⟩ = pure (ps.zip us)) (X : K.In h) (G : h.Ns mainGlobals mg) {f : Addr} {oc : Value} {od an : Option Addr} {sl : Array (Option Value)} {kV dc pm cd ct : Value} (a : PySem.W.nsIn K mainGlobals x = some (some (.ref f))) (l : K.lookup f = some ⟨oc,od,.func (PySem.W.fnOf x x (defArgs st) (defBody st) (defScope st) .none kV dc pm an cd ct),sl⟩) (c : PySem.W.codeIn K cd x = true) (k : PySem.W.keepIn K (.ref f) = true) : Dn K mg x st ps f (PySem.W.fnOf x x (defArgs st) (defBody st) (defScope st) .none kV dc pm an cd ct) := by
  have F := fun_mk (st := st) l c k
  exact ⟨F,F.binds (ps := ps) hb,PySem.W.mg_of X G a⟩
theorem all_mk {l : PySem.W.OpenLaw} {w : World} {K : PySem.W.Frag} {h : Heap} {mg : Str → Option Value} {fa : Addr} (X : K.In h) (G : h.Ns mainGlobals mg) (hfa : mg "law" = some (.ref fa))
    {f0 : Addr} {oc0 : Value} {od0 an0 : Option Addr} {sl0 : Array (Option Value)} {kV0 dc0 pm0 cd0 ct0 : Value} (a0 : PySem.W.nsIn K mainGlobals "_law_cell_at" = some (some (.ref f0))) (l0 : K.lookup f0 = some ⟨oc0,od0,.func (PySem.W.fnOf "_law_cell_at" "_law_cell_at" (defArgs s_law_cell_at) (defBody s_law_cell_at) (defScope s_law_cell_at) .none kV0 dc0 pm0 an0 cd0 ct0),sl0⟩) (c0 : PySem.W.codeIn K cd0 "_law_cell_at" = true) (k0 : PySem.W.keepIn K (.ref f0) = true)
    {f1 : Addr} {oc1 : Value} {od1 an1 : Option Addr} {sl1 : Array (Option Value)} {kV1 dc1 pm1 cd1 ct1 : Value} (a1 : PySem.W.nsIn K mainGlobals "_law_stock" = some (some (.ref f1))) (l1 : K.lookup f1 = some ⟨oc1,od1,.func (PySem.W.fnOf "_law_stock" "_law_stock" (defArgs s_law_stock) (defBody s_law_stock) (defScope s_law_stock) .none kV1 dc1 pm1 an1 cd1 ct1),sl1⟩) (c1 : PySem.W.codeIn K cd1 "_law_stock" = true) (k1 : PySem.W.keepIn K (.ref f1) = true)
    {f2 : Addr} {oc2 : Value} {od2 an2 : Option Addr} {sl2 : Array (Option Value)} {kV2 dc2 pm2 cd2 ct2 : Value} (a2 : PySem.W.nsIn K mainGlobals "_law_mix" = some (some (.ref f2))) (l2 : K.lookup f2 = some ⟨oc2,od2,.func (PySem.W.fnOf "_law_mix" "_law_mix" (defArgs s_law_mix) (defBody s_law_mix) (defScope s_law_mix) .none kV2 dc2 pm2 an2 cd2 ct2),sl2⟩) (c2 : PySem.W.codeIn K cd2 "_law_mix" = true) (k2 : PySem.W.keepIn K (.ref f2) = true)
    {f3 : Addr} {oc3 : Value} {od3 an3 : Option Addr} {sl3 : Array (Option Value)} {kV3 dc3 pm3 cd3 ct3 : Value} (a3 : PySem.W.nsIn K mainGlobals "_law_part" = some (some (.ref f3))) (l3 : K.lookup f3 = some ⟨oc3,od3,.func (PySem.W.fnOf "_law_part" "_law_part" (defArgs s_law_part) (defBody s_law_part) (defScope s_law_part) .none kV3 dc3 pm3 an3 cd3 ct3),sl3⟩) (c3 : PySem.W.codeIn K cd3 "_law_part" = true) (k3 : PySem.W.keepIn K (.ref f3) = true)
    {f4 : Addr} {oc4 : Value} {od4 an4 : Option Addr} {sl4 : Array (Option Value)} {kV4 dc4 pm4 cd4 ct4 : Value} (a4 : PySem.W.nsIn K mainGlobals "_law_rule" = some (some (.ref f4))) (l4 : K.lookup f4 = some ⟨oc4,od4,.func (PySem.W.fnOf "_law_rule" "_law_rule" (defArgs s_law_rule) (defBody s_law_rule) (defScope s_law_rule) .none kV4 dc4 pm4 an4 cd4 ct4),sl4⟩) (c4 : PySem.W.codeIn K cd4 "_law_rule" = true) (k4 : PySem.W.keepIn K (.ref f4) = true)
    {f5 : Addr} {oc5 : Value} {od5 an5 : Option Addr} {sl5 : Array (Option Value)} {kV5 dc5 pm5 cd5 ct5 : Value} (a5 : PySem.W.nsIn K mainGlobals "_law_pick" = some (some (.ref f5))) (l5 : K.lookup f5 = some ⟨oc5,od5,.func (PySem.W.fnOf "_law_pick" "_law_pick" (defArgs s_law_pick) (defBody s_law_pick) (defScope s_law_pick) .none kV5 dc5 pm5 an5 cd5 ct5),sl5⟩) (c5 : PySem.W.codeIn K cd5 "_law_pick" = true) (k5 : PySem.W.keepIn K (.ref f5) = true)
    {f6 : Addr} {oc6 : Value} {od6 an6 : Option Addr} {sl6 : Array (Option Value)} {kV6 dc6 pm6 cd6 ct6 : Value} (a6 : PySem.W.nsIn K mainGlobals "_law_passes" = some (some (.ref f6))) (l6 : K.lookup f6 = some ⟨oc6,od6,.func (PySem.W.fnOf "_law_passes" "_law_passes" (defArgs s_law_passes) (defBody s_law_passes) (defScope s_law_passes) .none kV6 dc6 pm6 an6 cd6 ct6),sl6⟩) (c6 : PySem.W.codeIn K cd6 "_law_passes" = true) (k6 : PySem.W.keepIn K (.ref f6) = true)
    {f7 : Addr} {oc7 : Value} {od7 an7 : Option Addr} {sl7 : Array (Option Value)} {kV7 dc7 pm7 cd7 ct7 : Value} (a7 : PySem.W.nsIn K mainGlobals "_law_letters" = some (some (.ref f7))) (l7 : K.lookup f7 = some ⟨oc7,od7,.func (PySem.W.fnOf "_law_letters" "_law_letters" (defArgs s_law_letters) (defBody s_law_letters) (defScope s_law_letters) .none kV7 dc7 pm7 an7 cd7 ct7),sl7⟩) (c7 : PySem.W.codeIn K cd7 "_law_letters" = true) (k7 : PySem.W.keepIn K (.ref f7) = true)
    {f8 : Addr} {oc8 : Value} {od8 an8 : Option Addr} {sl8 : Array (Option Value)} {kV8 dc8 pm8 cd8 ct8 : Value} (a8 : PySem.W.nsIn K mainGlobals "_law_widths" = some (some (.ref f8))) (l8 : K.lookup f8 = some ⟨oc8,od8,.func (PySem.W.fnOf "_law_widths" "_law_widths" (defArgs s_law_widths) (defBody s_law_widths) (defScope s_law_widths) .none kV8 dc8 pm8 an8 cd8 ct8),sl8⟩) (c8 : PySem.W.codeIn K cd8 "_law_widths" = true) (k8 : PySem.W.keepIn K (.ref f8) = true)
    {f9 : Addr} {oc9 : Value} {od9 an9 : Option Addr} {sl9 : Array (Option Value)} {kV9 dc9 pm9 cd9 ct9 : Value} (a9 : PySem.W.nsIn K mainGlobals "_law_nears" = some (some (.ref f9))) (l9 : K.lookup f9 = some ⟨oc9,od9,.func (PySem.W.fnOf "_law_nears" "_law_nears" (defArgs s_law_nears) (defBody s_law_nears) (defScope s_law_nears) .none kV9 dc9 pm9 an9 cd9 ct9),sl9⟩) (c9 : PySem.W.codeIn K cd9 "_law_nears" = true) (k9 : PySem.W.keepIn K (.ref f9) = true)
    {f10 : Addr} {oc10 : Value} {od10 an10 : Option Addr} {sl10 : Array (Option Value)} {kV10 dc10 pm10 cd10 ct10 : Value} (a10 : PySem.W.nsIn K mainGlobals "_law_bundled" = some (some (.ref f10))) (l10 : K.lookup f10 = some ⟨oc10,od10,.func (PySem.W.fnOf "_law_bundled" "_law_bundled" (defArgs s_law_bundled) (defBody s_law_bundled) (defScope s_law_bundled) .none kV10 dc10 pm10 an10 cd10 ct10),sl10⟩) (c10 : PySem.W.codeIn K cd10 "_law_bundled" = true) (k10 : PySem.W.keepIn K (.ref f10) = true)
    {f11 : Addr} {oc11 : Value} {od11 an11 : Option Addr} {sl11 : Array (Option Value)} {kV11 dc11 pm11 cd11 ct11 : Value} (a11 : PySem.W.nsIn K mainGlobals "_law_fits" = some (some (.ref f11))) (l11 : K.lookup f11 = some ⟨oc11,od11,.func (PySem.W.fnOf "_law_fits" "_law_fits" (defArgs s_law_fits) (defBody s_law_fits) (defScope s_law_fits) .none kV11 dc11 pm11 an11 cd11 ct11),sl11⟩) (c11 : PySem.W.codeIn K cd11 "_law_fits" = true) (k11 : PySem.W.keepIn K (.ref f11) = true)
    {f12 : Addr} {oc12 : Value} {od12 an12 : Option Addr} {sl12 : Array (Option Value)} {kV12 dc12 pm12 cd12 ct12 : Value} (a12 : PySem.W.nsIn K mainGlobals "_law_doings" = some (some (.ref f12))) (l12 : K.lookup f12 = some ⟨oc12,od12,.func (PySem.W.fnOf "_law_doings" "_law_doings" (defArgs s_law_doings) (defBody s_law_doings) (defScope s_law_doings) .none kV12 dc12 pm12 an12 cd12 ct12),sl12⟩) (c12 : PySem.W.codeIn K cd12 "_law_doings" = true) (k12 : PySem.W.keepIn K (.ref f12) = true)
    {f13 : Addr} {oc13 : Value} {od13 an13 : Option Addr} {sl13 : Array (Option Value)} {kV13 dc13 pm13 cd13 ct13 : Value} (a13 : PySem.W.nsIn K mainGlobals "_law_next_row" = some (some (.ref f13))) (l13 : K.lookup f13 = some ⟨oc13,od13,.func (PySem.W.fnOf "_law_next_row" "_law_next_row" (defArgs s_law_next_row) (defBody s_law_next_row) (defScope s_law_next_row) .none kV13 dc13 pm13 an13 cd13 ct13),sl13⟩) (c13 : PySem.W.codeIn K cd13 "_law_next_row" = true) (k13 : PySem.W.keepIn K (.ref f13) = true)
    {f14 : Addr} {oc14 : Value} {od14 an14 : Option Addr} {sl14 : Array (Option Value)} {kV14 dc14 pm14 cd14 ct14 : Value} (a14 : PySem.W.nsIn K mainGlobals "_law_rows" = some (some (.ref f14))) (l14 : K.lookup f14 = some ⟨oc14,od14,.func (PySem.W.fnOf "_law_rows" "_law_rows" (defArgs s_law_rows) (defBody s_law_rows) (defScope s_law_rows) .none kV14 dc14 pm14 an14 cd14 ct14),sl14⟩) (c14 : PySem.W.codeIn K cd14 "_law_rows" = true) (k14 : PySem.W.keepIn K (.ref f14) = true)
    {f15 : Addr} {oc15 : Value} {od15 an15 : Option Addr} {sl15 : Array (Option Value)} {kV15 dc15 pm15 cd15 ct15 : Value} (a15 : PySem.W.nsIn K mainGlobals "_law_copy" = some (some (.ref f15))) (l15 : K.lookup f15 = some ⟨oc15,od15,.func (PySem.W.fnOf "_law_copy" "_law_copy" (defArgs s_law_copy) (defBody s_law_copy) (defScope s_law_copy) .none kV15 dc15 pm15 an15 cd15 ct15),sl15⟩) (c15 : PySem.W.codeIn K cd15 "_law_copy" = true) (k15 : PySem.W.keepIn K (.ref f15) = true)
    {f16 : Addr} {oc16 : Value} {od16 an16 : Option Addr} {sl16 : Array (Option Value)} {kV16 dc16 pm16 cd16 ct16 : Value} (a16 : PySem.W.nsIn K mainGlobals "first_slots" = some (some (.ref f16))) (l16 : K.lookup f16 = some ⟨oc16,od16,.func (PySem.W.fnOf "first_slots" "first_slots" (defArgs s_first_slots) (defBody s_first_slots) (defScope s_first_slots) .none kV16 dc16 pm16 an16 cd16 ct16),sl16⟩) (c16 : PySem.W.codeIn K cd16 "first_slots" = true) (k16 : PySem.W.keepIn K (.ref f16) = true)
    {f17 : Addr} {oc17 : Value} {od17 an17 : Option Addr} {sl17 : Array (Option Value)} {kV17 dc17 pm17 cd17 ct17 : Value} (a17 : PySem.W.nsIn K mainGlobals "chains" = some (some (.ref f17))) (l17 : K.lookup f17 = some ⟨oc17,od17,.func (PySem.W.fnOf "chains" "chains" (defArgs s_chains) (defBody s_chains) (defScope s_chains) .none kV17 dc17 pm17 an17 cd17 ct17),sl17⟩) (c17 : PySem.W.codeIn K cd17 "chains" = true) (k17 : PySem.W.keepIn K (.ref f17) = true)
    {f18 : Addr} {oc18 : Value} {od18 an18 : Option Addr} {sl18 : Array (Option Value)} {kV18 dc18 pm18 cd18 ct18 : Value} (a18 : PySem.W.nsIn K mainGlobals "all_of" = some (some (.ref f18))) (l18 : K.lookup f18 = some ⟨oc18,od18,.func (PySem.W.fnOf "all_of" "all_of" (defArgs s_all_of) (defBody s_all_of) (defScope s_all_of) .none kV18 dc18 pm18 an18 cd18 ct18),sl18⟩) (c18 : PySem.W.codeIn K cd18 "all_of" = true) (k18 : PySem.W.keepIn K (.ref f18) = true)
    {f19 : Addr} {oc19 : Value} {od19 an19 : Option Addr} {sl19 : Array (Option Value)} {kV19 dc19 pm19 cd19 ct19 : Value} (a19 : PySem.W.nsIn K mainGlobals "shapes_of" = some (some (.ref f19))) (l19 : K.lookup f19 = some ⟨oc19,od19,.func (PySem.W.fnOf "shapes_of" "shapes_of" (defArgs s_shapes_of) (defBody s_shapes_of) (defScope s_shapes_of) .none kV19 dc19 pm19 an19 cd19 ct19),sl19⟩) (c19 : PySem.W.codeIn K cd19 "shapes_of" = true) (k19 : PySem.W.keepIn K (.ref f19) = true)
    {f20 : Addr} {oc20 : Value} {od20 an20 : Option Addr} {sl20 : Array (Option Value)} {kV20 dc20 pm20 cd20 ct20 : Value} (a20 : PySem.W.nsIn K mainGlobals "melted" = some (some (.ref f20))) (l20 : K.lookup f20 = some ⟨oc20,od20,.func (PySem.W.fnOf "melted" "melted" (defArgs s_melted) (defBody s_melted) (defScope s_melted) .none kV20 dc20 pm20 an20 cd20 ct20),sl20⟩) (c20 : PySem.W.codeIn K cd20 "melted" = true) (k20 : PySem.W.keepIn K (.ref f20) = true)
    {f21 : Addr} {oc21 : Value} {od21 an21 : Option Addr} {sl21 : Array (Option Value)} {kV21 dc21 pm21 cd21 ct21 : Value} (a21 : PySem.W.nsIn K mainGlobals "stands" = some (some (.ref f21))) (l21 : K.lookup f21 = some ⟨oc21,od21,.func (PySem.W.fnOf "stands" "stands" (defArgs s_stands) (defBody s_stands) (defScope s_stands) .none kV21 dc21 pm21 an21 cd21 ct21),sl21⟩) (c21 : PySem.W.codeIn K cd21 "stands" = true) (k21 : PySem.W.keepIn K (.ref f21) = true)
    {f22 : Addr} {oc22 : Value} {od22 an22 : Option Addr} {sl22 : Array (Option Value)} {kV22 dc22 pm22 cd22 ct22 : Value} (a22 : PySem.W.nsIn K mainGlobals "fits" = some (some (.ref f22))) (l22 : K.lookup f22 = some ⟨oc22,od22,.func (PySem.W.fnOf "fits" "fits" (defArgs s_fits) (defBody s_fits) (defScope s_fits) .none kV22 dc22 pm22 an22 cd22 ct22),sl22⟩) (c22 : PySem.W.codeIn K cd22 "fits" = true) (k22 : PySem.W.keepIn K (.ref f22) = true)
    {f23 : Addr} {oc23 : Value} {od23 an23 : Option Addr} {sl23 : Array (Option Value)} {kV23 dc23 pm23 cd23 ct23 : Value} (a23 : PySem.W.nsIn K mainGlobals "first_that_fits" = some (some (.ref f23))) (l23 : K.lookup f23 = some ⟨oc23,od23,.func (PySem.W.fnOf "first_that_fits" "first_that_fits" (defArgs s_first_that_fits) (defBody s_first_that_fits) (defScope s_first_that_fits) .none kV23 dc23 pm23 an23 cd23 ct23),sl23⟩) (c23 : PySem.W.codeIn K cd23 "first_that_fits" = true) (k23 : PySem.W.keepIn K (.ref f23) = true)
    {f24 : Addr} {oc24 : Value} {od24 an24 : Option Addr} {sl24 : Array (Option Value)} {kV24 dc24 pm24 cd24 ct24 : Value} (a24 : PySem.W.nsIn K mainGlobals "doings" = some (some (.ref f24))) (l24 : K.lookup f24 = some ⟨oc24,od24,.func (PySem.W.fnOf "doings" "doings" (defArgs s_doings) (defBody s_doings) (defScope s_doings) .none kV24 dc24 pm24 an24 cd24 ct24),sl24⟩) (c24 : PySem.W.codeIn K cd24 "doings" = true) (k24 : PySem.W.keepIn K (.ref f24) = true)
    {f25 : Addr} {oc25 : Value} {od25 an25 : Option Addr} {sl25 : Array (Option Value)} {kV25 dc25 pm25 cd25 ct25 : Value} (a25 : PySem.W.nsIn K mainGlobals "passed_slots" = some (some (.ref f25))) (l25 : K.lookup f25 = some ⟨oc25,od25,.func (PySem.W.fnOf "passed_slots" "passed_slots" (defArgs s_passed_slots) (defBody s_passed_slots) (defScope s_passed_slots) .none kV25 dc25 pm25 an25 cd25 ct25),sl25⟩) (c25 : PySem.W.codeIn K cd25 "passed_slots" = true) (k25 : PySem.W.keepIn K (.ref f25) = true)
    {f26 : Addr} {oc26 : Value} {od26 an26 : Option Addr} {sl26 : Array (Option Value)} {kV26 dc26 pm26 cd26 ct26 : Value} (a26 : PySem.W.nsIn K mainGlobals "rows_along" = some (some (.ref f26))) (l26 : K.lookup f26 = some ⟨oc26,od26,.func (PySem.W.fnOf "rows_along" "rows_along" (defArgs s_rows_along) (defBody s_rows_along) (defScope s_rows_along) .none kV26 dc26 pm26 an26 cd26 ct26),sl26⟩) (c26 : PySem.W.codeIn K cd26 "rows_along" = true) (k26 : PySem.W.keepIn K (.ref f26) = true)
    {f27 : Addr} {oc27 : Value} {od27 an27 : Option Addr} {sl27 : Array (Option Value)} {kV27 dc27 pm27 cd27 ct27 : Value} (a27 : PySem.W.nsIn K mainGlobals "set_row" = some (some (.ref f27))) (l27 : K.lookup f27 = some ⟨oc27,od27,.func (PySem.W.fnOf "set_row" "set_row" (defArgs s_set_row) (defBody s_set_row) (defScope s_set_row) .none kV27 dc27 pm27 an27 cd27 ct27),sl27⟩) (c27 : PySem.W.codeIn K cd27 "set_row" = true) (k27 : PySem.W.keepIn K (.ref f27) = true)
    {f28 : Addr} {oc28 : Value} {od28 an28 : Option Addr} {sl28 : Array (Option Value)} {kV28 dc28 pm28 cd28 ct28 : Value} (a28 : PySem.W.nsIn K mainGlobals "near_of" = some (some (.ref f28))) (l28 : K.lookup f28 = some ⟨oc28,od28,.func (PySem.W.fnOf "near_of" "near_of" (defArgs s_near_of) (defBody s_near_of) (defScope s_near_of) .none kV28 dc28 pm28 an28 cd28 ct28),sl28⟩) (c28 : PySem.W.codeIn K cd28 "near_of" = true) (k28 : PySem.W.keepIn K (.ref f28) = true)
    {f29 : Addr} {oc29 : Value} {od29 an29 : Option Addr} {sl29 : Array (Option Value)} {kV29 dc29 pm29 cd29 ct29 : Value} (a29 : PySem.W.nsIn K mainGlobals "width_of" = some (some (.ref f29))) (l29 : K.lookup f29 = some ⟨oc29,od29,.func (PySem.W.fnOf "width_of" "width_of" (defArgs s_width_of) (defBody s_width_of) (defScope s_width_of) .none kV29 dc29 pm29 an29 cd29 ct29),sl29⟩) (c29 : PySem.W.codeIn K cd29 "width_of" = true) (k29 : PySem.W.keepIn K (.ref f29) = true)
    {f30 : Addr} {oc30 : Value} {od30 an30 : Option Addr} {sl30 : Array (Option Value)} {kV30 dc30 pm30 cd30 ct30 : Value} (a30 : PySem.W.nsIn K mainGlobals "spans" = some (some (.ref f30))) (l30 : K.lookup f30 = some ⟨oc30,od30,.func (PySem.W.fnOf "spans" "spans" (defArgs s_spans) (defBody s_spans) (defScope s_spans) .none kV30 dc30 pm30 an30 cd30 ct30),sl30⟩) (c30 : PySem.W.codeIn K cd30 "spans" = true) (k30 : PySem.W.keepIn K (.ref f30) = true)
    {f31 : Addr} {oc31 : Value} {od31 an31 : Option Addr} {sl31 : Array (Option Value)} {kV31 dc31 pm31 cd31 ct31 : Value} (a31 : PySem.W.nsIn K mainGlobals "whole_width" = some (some (.ref f31))) (l31 : K.lookup f31 = some ⟨oc31,od31,.func (PySem.W.fnOf "whole_width" "whole_width" (defArgs s_whole_width) (defBody s_whole_width) (defScope s_whole_width) .none kV31 dc31 pm31 an31 cd31 ct31),sl31⟩) (c31 : PySem.W.codeIn K cd31 "whole_width" = true) (k31 : PySem.W.keepIn K (.ref f31) = true)
    {f32 : Addr} {oc32 : Value} {od32 an32 : Option Addr} {sl32 : Array (Option Value)} {kV32 dc32 pm32 cd32 ct32 : Value} (a32 : PySem.W.nsIn K mainGlobals "shares" = some (some (.ref f32))) (l32 : K.lookup f32 = some ⟨oc32,od32,.func (PySem.W.fnOf "shares" "shares" (defArgs s_shares) (defBody s_shares) (defScope s_shares) .none kV32 dc32 pm32 an32 cd32 ct32),sl32⟩) (c32 : PySem.W.codeIn K cd32 "shares" = true) (k32 : PySem.W.keepIn K (.ref f32) = true)
    {f33 : Addr} {oc33 : Value} {od33 an33 : Option Addr} {sl33 : Array (Option Value)} {kV33 dc33 pm33 cd33 ct33 : Value} (a33 : PySem.W.nsIn K mainGlobals "carets" = some (some (.ref f33))) (l33 : K.lookup f33 = some ⟨oc33,od33,.func (PySem.W.fnOf "carets" "carets" (defArgs s_carets) (defBody s_carets) (defScope s_carets) .none kV33 dc33 pm33 an33 cd33 ct33),sl33⟩) (c33 : PySem.W.codeIn K cd33 "carets" = true) (k33 : PySem.W.keepIn K (.ref f33) = true)
    {f34 : Addr} {oc34 : Value} {od34 an34 : Option Addr} {sl34 : Array (Option Value)} {kV34 dc34 pm34 cd34 ct34 : Value} (a34 : PySem.W.nsIn K mainGlobals "is_near_across" = some (some (.ref f34))) (l34 : K.lookup f34 = some ⟨oc34,od34,.func (PySem.W.fnOf "is_near_across" "is_near_across" (defArgs s_is_near_across) (defBody s_is_near_across) (defScope s_is_near_across) .none kV34 dc34 pm34 an34 cd34 ct34),sl34⟩) (c34 : PySem.W.codeIn K cd34 "is_near_across" = true) (k34 : PySem.W.keepIn K (.ref f34) = true)
    {f35 : Addr} {oc35 : Value} {od35 an35 : Option Addr} {sl35 : Array (Option Value)} {kV35 dc35 pm35 cd35 ct35 : Value} (a35 : PySem.W.nsIn K mainGlobals "places_across" = some (some (.ref f35))) (l35 : K.lookup f35 = some ⟨oc35,od35,.func (PySem.W.fnOf "places_across" "places_across" (defArgs s_places_across) (defBody s_places_across) (defScope s_places_across) .none kV35 dc35 pm35 an35 cd35 ct35),sl35⟩) (c35 : PySem.W.codeIn K cd35 "places_across" = true) (k35 : PySem.W.keepIn K (.ref f35) = true)
    {f36 : Addr} {oc36 : Value} {od36 an36 : Option Addr} {sl36 : Array (Option Value)} {kV36 dc36 pm36 cd36 ct36 : Value} (a36 : PySem.W.nsIn K mainGlobals "bars" = some (some (.ref f36))) (l36 : K.lookup f36 = some ⟨oc36,od36,.func (PySem.W.fnOf "bars" "bars" (defArgs s_bars) (defBody s_bars) (defScope s_bars) .none kV36 dc36 pm36 an36 cd36 ct36),sl36⟩) (c36 : PySem.W.codeIn K cd36 "bars" = true) (k36 : PySem.W.keepIn K (.ref f36) = true)
    {f37 : Addr} {oc37 : Value} {od37 an37 : Option Addr} {sl37 : Array (Option Value)} {kV37 dc37 pm37 cd37 ct37 : Value} (a37 : PySem.W.nsIn K mainGlobals "cuts" = some (some (.ref f37))) (l37 : K.lookup f37 = some ⟨oc37,od37,.func (PySem.W.fnOf "cuts" "cuts" (defArgs s_cuts) (defBody s_cuts) (defScope s_cuts) .none kV37 dc37 pm37 an37 cd37 ct37),sl37⟩) (c37 : PySem.W.codeIn K cd37 "cuts" = true) (k37 : PySem.W.keepIn K (.ref f37) = true)
    {f38 : Addr} {oc38 : Value} {od38 an38 : Option Addr} {sl38 : Array (Option Value)} {kV38 dc38 pm38 cd38 ct38 : Value} (a38 : PySem.W.nsIn K mainGlobals "line_end" = some (some (.ref f38))) (l38 : K.lookup f38 = some ⟨oc38,od38,.func (PySem.W.fnOf "line_end" "line_end" (defArgs s_line_end) (defBody s_line_end) (defScope s_line_end) .none kV38 dc38 pm38 an38 cd38 ct38),sl38⟩) (c38 : PySem.W.codeIn K cd38 "line_end" = true) (k38 : PySem.W.keepIn K (.ref f38) = true)
    {f39 : Addr} {oc39 : Value} {od39 an39 : Option Addr} {sl39 : Array (Option Value)} {kV39 dc39 pm39 cd39 ct39 : Value} (a39 : PySem.W.nsIn K mainGlobals "lines" = some (some (.ref f39))) (l39 : K.lookup f39 = some ⟨oc39,od39,.func (PySem.W.fnOf "lines" "lines" (defArgs s_lines) (defBody s_lines) (defScope s_lines) .none kV39 dc39 pm39 an39 cd39 ct39),sl39⟩) (c39 : PySem.W.codeIn K cd39 "lines" = true) (k39 : PySem.W.keepIn K (.ref f39) = true)
    {f40 : Addr} {oc40 : Value} {od40 an40 : Option Addr} {sl40 : Array (Option Value)} {kV40 dc40 pm40 cd40 ct40 : Value} (a40 : PySem.W.nsIn K mainGlobals "_law_whole" = some (some (.ref f40))) (l40 : K.lookup f40 = some ⟨oc40,od40,.func (PySem.W.fnOf "_law_whole" "_law_whole" (defArgs s_law_whole) (defBody s_law_whole) (defScope s_law_whole) .none kV40 dc40 pm40 an40 cd40 ct40),sl40⟩) (c40 : PySem.W.codeIn K cd40 "_law_whole" = true) (k40 : PySem.W.keepIn K (.ref f40) = true)
    {f41 : Addr} {oc41 : Value} {od41 an41 : Option Addr} {sl41 : Array (Option Value)} {kV41 dc41 pm41 cd41 ct41 : Value} (a41 : PySem.W.nsIn K mainGlobals "_law_same" = some (some (.ref f41))) (l41 : K.lookup f41 = some ⟨oc41,od41,.func (PySem.W.fnOf "_law_same" "_law_same" (defArgs s_law_same) (defBody s_law_same) (defScope s_law_same) .none kV41 dc41 pm41 an41 cd41 ct41),sl41⟩) (c41 : PySem.W.codeIn K cd41 "_law_same" = true) (k41 : PySem.W.keepIn K (.ref f41) = true)
    {f42 : Addr} {oc42 : Value} {od42 an42 : Option Addr} {sl42 : Array (Option Value)} {kV42 dc42 pm42 cd42 ct42 : Value} (a42 : PySem.W.nsIn K mainGlobals "_law_bar" = some (some (.ref f42))) (l42 : K.lookup f42 = some ⟨oc42,od42,.func (PySem.W.fnOf "_law_bar" "_law_bar" (defArgs s_law_bar) (defBody s_law_bar) (defScope s_law_bar) .none kV42 dc42 pm42 an42 cd42 ct42),sl42⟩) (c42 : PySem.W.codeIn K cd42 "_law_bar" = true) (k42 : PySem.W.keepIn K (.ref f42) = true)
    {f43 : Addr} {oc43 : Value} {od43 an43 : Option Addr} {sl43 : Array (Option Value)} {kV43 dc43 pm43 cd43 ct43 : Value} (a43 : PySem.W.nsIn K mainGlobals "_law_begins" = some (some (.ref f43))) (l43 : K.lookup f43 = some ⟨oc43,od43,.func (PySem.W.fnOf "_law_begins" "_law_begins" (defArgs s_law_begins) (defBody s_law_begins) (defScope s_law_begins) .none kV43 dc43 pm43 an43 cd43 ct43),sl43⟩) (c43 : PySem.W.codeIn K cd43 "_law_begins" = true) (k43 : PySem.W.keepIn K (.ref f43) = true)
    {f44 : Addr} {oc44 : Value} {od44 an44 : Option Addr} {sl44 : Array (Option Value)} {kV44 dc44 pm44 cd44 ct44 : Value} (a44 : PySem.W.nsIn K mainGlobals "_law_width" = some (some (.ref f44))) (l44 : K.lookup f44 = some ⟨oc44,od44,.func (PySem.W.fnOf "_law_width" "_law_width" (defArgs s_law_width) (defBody s_law_width) (defScope s_law_width) .none kV44 dc44 pm44 an44 cd44 ct44),sl44⟩) (c44 : PySem.W.codeIn K cd44 "_law_width" = true) (k44 : PySem.W.keepIn K (.ref f44) = true)
    {f45 : Addr} {oc45 : Value} {od45 an45 : Option Addr} {sl45 : Array (Option Value)} {kV45 dc45 pm45 cd45 ct45 : Value} (a45 : PySem.W.nsIn K mainGlobals "law" = some (some (.ref f45))) (l45 : K.lookup f45 = some ⟨oc45,od45,.func (PySem.W.fnOf "law" "law" (defArgs s_law) (defBody s_law) (defScope s_law) .none kV45 dc45 pm45 an45 cd45 ct45),sl45⟩) (c45 : PySem.W.codeIn K cd45 "law" = true) (k45 : PySem.W.keepIn K (.ref f45) = true)
    {t_PASSES : _} (x_PASSES : PySem.W.nsIn K mainGlobals "PASSES" = some (some (.int 0 t_PASSES)))
    {t_WIDTHS : _} (x_WIDTHS : PySem.W.nsIn K mainGlobals "WIDTHS" = some (some (.int 1 t_WIDTHS)))
    {t_NEARS : _} (x_NEARS : PySem.W.nsIn K mainGlobals "NEARS" = some (some (.int 2 t_NEARS)))
    {t_BEHIND : _} (x_BEHIND : PySem.W.nsIn K mainGlobals "BEHIND" = some (some (.int 0 t_BEHIND)))
    {t_TAKE : _} (x_TAKE : PySem.W.nsIn K mainGlobals "TAKE" = some (some (.int 1 t_TAKE)))
    {t_AHEAD : _} (x_AHEAD : PySem.W.nsIn K mainGlobals "AHEAD" = some (some (.int 2 t_AHEAD)))
    {t_GIVE : _} (x_GIVE : PySem.W.nsIn K mainGlobals "GIVE" = some (some (.int 3 t_GIVE)))
    {t_SHAPE : _} (x_SHAPE : PySem.W.nsIn K mainGlobals "SHAPE" = some (some (.int 0 t_SHAPE)))
    {t_FROM : _} (x_FROM : PySem.W.nsIn K mainGlobals "FROM" = some (some (.int 1 t_FROM)))
    {t_TO : _} (x_TO : PySem.W.nsIn K mainGlobals "TO" = some (some (.int 2 t_TO)))
    {t_USUAL_WIDTH : _} (x_USUAL_WIDTH : PySem.W.nsIn K mainGlobals "USUAL_WIDTH" = some (some (.int 10 t_USUAL_WIDTH)))
    {t_BEGIN : _} (x_BEGIN : PySem.W.nsIn K mainGlobals "BEGIN" = some (some (.int 0 t_BEGIN)))
    {t_END : _} (x_END : PySem.W.nsIn K mainGlobals "END" = some (some (.int 1 t_END)))
    (z_bool : PySem.W.nsIn K mainGlobals "bool" = some none)
    (z_dict : PySem.W.nsIn K mainGlobals "dict" = some none)
    (z_enumerate : PySem.W.nsIn K mainGlobals "enumerate" = some none)
    (z_int : PySem.W.nsIn K mainGlobals "int" = some none)
    (z_isinstance : PySem.W.nsIn K mainGlobals "isinstance" = some none)
    (z_len : PySem.W.nsIn K mainGlobals "len" = some none)
    (z_list : PySem.W.nsIn K mainGlobals "list" = some none)
    (z_max : PySem.W.nsIn K mainGlobals "max" = some none)
    (z_range : PySem.W.nsIn K mainGlobals "range" = some none)
    (z_tuple : PySem.W.nsIn K mainGlobals "tuple" = some none) :
    ∃ fd : FuncData,(∀ (s : Shared) (v : Value),BindsTo s fd ⟨[v],[]⟩ [("script",v)]) ∧ ∀ base : Heap,K.In base → base.Ns mainGlobals mg → FnOk l.prog w K mg base CX0 10 fa fd ["script"] (spLaw K) := by
  have e := hfa.symm.trans (PySem.W.mg_of X G a45)
  cases e
  have T : Txt mg := ⟨⟨_,PySem.W.mg_of X G x_PASSES⟩,⟨_,PySem.W.mg_of X G x_WIDTHS⟩,⟨_,PySem.W.mg_of X G x_NEARS⟩,⟨_,PySem.W.mg_of X G x_BEHIND⟩,⟨_,PySem.W.mg_of X G x_TAKE⟩,⟨_,PySem.W.mg_of X G x_AHEAD⟩,⟨_,PySem.W.mg_of X G x_GIVE⟩,⟨_,PySem.W.mg_of X G x_SHAPE⟩,⟨_,PySem.W.mg_of X G x_FROM⟩,⟨_,PySem.W.mg_of X G x_TO⟩,⟨_,PySem.W.mg_of X G x_USUAL_WIDTH⟩,⟨_,PySem.W.mg_of X G x_BEGIN⟩,⟨_,PySem.W.mg_of X G x_END⟩,PySem.W.mg_none_of X G z_bool,PySem.W.mg_none_of X G z_dict,PySem.W.mg_none_of X G z_enumerate,PySem.W.mg_none_of X G z_int,PySem.W.mg_none_of X G z_isinstance,PySem.W.mg_none_of X G z_len,PySem.W.mg_none_of X G z_list,PySem.W.mg_none_of X G z_max,PySem.W.mg_none_of X G z_range,PySem.W.mg_none_of X G z_tuple⟩
  have D0 := dnG (x := "_law_cell_at") (st := s_law_cell_at) (ps := ["script","k"]) (fun _ _ _ _ _ _ us hl => (by obtain ⟨a0,a1,rfl⟩ := len2 hl; rfl)) X G a0 l0 c0 k0
  have D1 := dnG (x := "_law_stock") (st := s_law_stock) (ps := ["cell"]) (fun _ _ _ _ _ _ us hl => (by obtain ⟨a0,rfl⟩ := len1 hl; rfl)) X G a1 l1 c1 k1
  have D2 := dnG (x := "_law_mix") (st := s_law_mix) (ps := ["cell","k"]) (fun _ _ _ _ _ _ us hl => (by obtain ⟨a0,a1,rfl⟩ := len2 hl; rfl)) X G a2 l2 c2 k2
  have D3 := dnG (x := "_law_part") (st := s_law_part) (ps := ["cell","k","sizes","stock"]) (fun _ _ _ _ _ _ us hl => (by obtain ⟨a0,a1,a2,a3,rfl⟩ := len4 hl; rfl)) X G a3 l3 c3 k3
  have D4 := dnG (x := "_law_rule") (st := s_law_rule) (ps := ["cell","stock"]) (fun _ _ _ _ _ _ us hl => (by obtain ⟨a0,a1,rfl⟩ := len2 hl; rfl)) X G a4 l4 c4 k4
  have D5 := dnG (x := "_law_pick") (st := s_law_pick) (ps := ["script","k"]) (fun _ _ _ _ _ _ us hl => (by obtain ⟨a0,a1,rfl⟩ := len2 hl; rfl)) X G a5 l5 c5 k5
  have D6 := dnG (x := "_law_passes") (st := s_law_passes) (ps := ["script","start","many","rules","stock"]) (fun _ _ _ _ _ _ us hl => (by obtain ⟨a0,a1,a2,a3,a4,rfl⟩ := len5 hl; rfl)) X G a6 l6 c6 k6
  have D7 := dnG (x := "_law_letters") (st := s_law_letters) (ps := ["script","start","many","stock"]) (fun _ _ _ _ _ _ us hl => (by obtain ⟨a0,a1,a2,a3,rfl⟩ := len4 hl; rfl)) X G a7 l7 c7 k7
  have D8 := dnG (x := "_law_widths") (st := s_law_widths) (ps := ["cell","stock"]) (fun _ _ _ _ _ _ us hl => (by obtain ⟨a0,a1,rfl⟩ := len2 hl; rfl)) X G a8 l8 c8 k8
  have D9 := dnG (x := "_law_nears") (st := s_law_nears) (ps := ["cell","stock","rare"]) (fun _ _ _ _ _ _ us hl => (by obtain ⟨a0,a1,a2,rfl⟩ := len3 hl; rfl)) X G a9 l9 c9 k9
  have D10 := dnG (x := "_law_bundled") (st := s_law_bundled) (ps := ["row","many"]) (fun _ _ _ _ _ _ us hl => (by obtain ⟨a0,a1,rfl⟩ := len2 hl; rfl)) X G a10 l10 c10 k10
  have D11 := dnG (x := "_law_fits") (st := s_law_fits) (ps := ["rule","shapes","at"]) (fun _ _ _ _ _ _ us hl => (by obtain ⟨a0,a1,a2,rfl⟩ := len3 hl; rfl)) X G a11 l11 c11 k11
  have D12 := dnG (x := "_law_doings") (st := s_law_doings) (ps := ["rules","shapes"]) (fun _ _ _ _ _ _ us hl => (by obtain ⟨a0,a1,rfl⟩ := len2 hl; rfl)) X G a12 l12 c12 k12
  have D13 := dnG (x := "_law_next_row") (st := s_law_next_row) (ps := ["rules","row","many"]) (fun _ _ _ _ _ _ us hl => (by obtain ⟨a0,a1,a2,rfl⟩ := len3 hl; rfl)) X G a13 l13 c13 k13
  have D14 := dnG (x := "_law_rows") (st := s_law_rows) (ps := ["passes","letters"]) (fun _ _ _ _ _ _ us hl => (by obtain ⟨a0,a1,rfl⟩ := len2 hl; rfl)) X G a14 l14 c14 k14
  have D15 := dnG (x := "_law_copy") (st := s_law_copy) (ps := ["case","letters"]) (fun _ _ _ _ _ _ us hl => (by obtain ⟨a0,a1,rfl⟩ := len2 hl; rfl)) X G a15 l15 c15 k15
  have D16 := dnG (x := "first_slots") (st := s_first_slots) (ps := ["row"]) (fun _ _ _ _ _ _ us hl => (by obtain ⟨a0,rfl⟩ := len1 hl; rfl)) X G a16 l16 c16 k16
  have D17 := dnG (x := "chains") (st := s_chains) (ps := ["slots"]) (fun _ _ _ _ _ _ us hl => (by obtain ⟨a0,rfl⟩ := len1 hl; rfl)) X G a17 l17 c17 k17
  have D18 := dnG (x := "all_of") (st := s_all_of) (ps := ["shapes","slots"]) (fun _ _ _ _ _ _ us hl => (by obtain ⟨a0,a1,rfl⟩ := len2 hl; rfl)) X G a18 l18 c18 k18
  have D19 := dnG (x := "shapes_of") (st := s_shapes_of) (ps := ["slots"]) (fun _ _ _ _ _ _ us hl => (by obtain ⟨a0,rfl⟩ := len1 hl; rfl)) X G a19 l19 c19 k19
  have D20 := dnG (x := "melted") (st := s_melted) (ps := ["slots"]) (fun _ _ _ _ _ _ us hl => (by obtain ⟨a0,rfl⟩ := len1 hl; rfl)) X G a20 l20 c20 k20
  have D21 := dnG (x := "stands") (st := s_stands) (ps := ["part","shapes","at"]) (fun _ _ _ _ _ _ us hl => (by obtain ⟨a0,a1,a2,rfl⟩ := len3 hl; rfl)) X G a21 l21 c21 k21
  have D22 := dnG (x := "fits") (st := s_fits) (ps := ["rule","shapes","at"]) (fun _ _ _ _ _ _ us hl => (by obtain ⟨a0,a1,a2,rfl⟩ := len3 hl; rfl)) X G a22 l22 c22 k22
  have D23 := dnG (x := "first_that_fits") (st := s_first_that_fits) (ps := ["rules","shapes","at"]) (fun _ _ _ _ _ _ us hl => (by obtain ⟨a0,a1,a2,rfl⟩ := len3 hl; rfl)) X G a23 l23 c23 k23
  have D24 := dnG (x := "doings") (st := s_doings) (ps := ["rules","shapes"]) (fun _ _ _ _ _ _ us hl => (by obtain ⟨a0,a1,rfl⟩ := len2 hl; rfl)) X G a24 l24 c24 k24
  have D25 := dnG (x := "passed_slots") (st := s_passed_slots) (ps := ["rules","slots"]) (fun _ _ _ _ _ _ us hl => (by obtain ⟨a0,a1,rfl⟩ := len2 hl; rfl)) X G a25 l25 c25 k25
  have D26 := dnG (x := "rows_along") (st := s_rows_along) (ps := ["case","row"]) (fun _ _ _ _ _ _ us hl => (by obtain ⟨a0,a1,rfl⟩ := len2 hl; rfl)) X G a26 l26 c26 k26
  have D27 := dnG (x := "set_row") (st := s_set_row) (ps := ["case","row"]) (fun _ _ _ _ _ _ us hl => (by obtain ⟨a0,a1,rfl⟩ := len2 hl; rfl)) X G a27 l27 c27 k27
  have D28 := dnG (x := "near_of") (st := s_near_of) (ps := ["case","shape","follower"]) (fun _ _ _ _ _ _ us hl => (by obtain ⟨a0,a1,a2,rfl⟩ := len3 hl; rfl)) X G a28 l28 c28 k28
  have D29 := dnG (x := "width_of") (st := s_width_of) (ps := ["case","shape"]) (fun _ _ _ _ _ _ us hl => (by obtain ⟨a0,a1,rfl⟩ := len2 hl; rfl)) X G a29 l29 c29 k29
  have D30 := dnG (x := "spans") (st := s_spans) (ps := ["case","slots"]) (fun _ _ _ _ _ _ us hl => (by obtain ⟨a0,a1,rfl⟩ := len2 hl; rfl)) X G a30 l30 c30 k30
  have D31 := dnG (x := "whole_width") (st := s_whole_width) (ps := ["found"]) (fun _ _ _ _ _ _ us hl => (by obtain ⟨a0,rfl⟩ := len1 hl; rfl)) X G a31 l31 c31 k31
  have D32 := dnG (x := "shares") (st := s_shares) (ps := ["begin","end","letters"]) (fun _ _ _ _ _ _ us hl => (by obtain ⟨a0,a1,a2,rfl⟩ := len3 hl; rfl)) X G a32 l32 c32 k32
  have D33 := dnG (x := "carets") (st := s_carets) (ps := ["case","row"]) (fun _ _ _ _ _ _ us hl => (by obtain ⟨a0,a1,rfl⟩ := len2 hl; rfl)) X G a33 l33 c33 k33
  have D34 := dnG (x := "is_near_across") (st := s_is_near_across) (ps := ["case","slot","follower"]) (fun _ _ _ _ _ _ us hl => (by obtain ⟨a0,a1,a2,rfl⟩ := len3 hl; rfl)) X G a34 l34 c34 k34
  have D35 := dnG (x := "places_across") (st := s_places_across) (ps := ["rule","slots","at"]) (fun _ _ _ _ _ _ us hl => (by obtain ⟨a0,a1,a2,rfl⟩ := len3 hl; rfl)) X G a35 l35 c35 k35
  have D36 := dnG (x := "bars") (st := s_bars) (ps := ["case","row"]) (fun _ _ _ _ _ _ us hl => (by obtain ⟨a0,a1,rfl⟩ := len2 hl; rfl)) X G a36 l36 c36 k36
  have D37 := dnG (x := "cuts") (st := s_cuts) (ps := ["case","row"]) (fun _ _ _ _ _ _ us hl => (by obtain ⟨a0,a1,rfl⟩ := len2 hl; rfl)) X G a37 l37 c37 k37
  have D38 := dnG (x := "line_end") (st := s_line_end) (ps := ["far","places","begin","measure"]) (fun _ _ _ _ _ _ us hl => (by obtain ⟨a0,a1,a2,a3,rfl⟩ := len4 hl; rfl)) X G a38 l38 c38 k38
  have D39 := dnG (x := "lines") (st := s_lines) (ps := ["case","row","measure"]) (fun _ _ _ _ _ _ us hl => (by obtain ⟨a0,a1,a2,rfl⟩ := len3 hl; rfl)) X G a39 l39 c39 k39
  have D40 := dnG (x := "_law_whole") (st := s_law_whole) (ps := ["x"]) (fun _ _ _ _ _ _ us hl => (by obtain ⟨a0,rfl⟩ := len1 hl; rfl)) X G a40 l40 c40 k40
  have D41 := dnG (x := "_law_same") (st := s_law_same) (ps := ["found","due"]) (fun _ _ _ _ _ _ us hl => (by obtain ⟨a0,a1,rfl⟩ := len2 hl; rfl)) X G a41 l41 c41 k41
  have D42 := dnG (x := "_law_bar") (st := s_law_bar) (ps := ["passes","nears","rows","place"]) (fun _ _ _ _ _ _ us hl => (by obtain ⟨a0,a1,a2,a3,rfl⟩ := len4 hl; rfl)) X G a42 l42 c42 k42
  have D43 := dnG (x := "_law_begins") (st := s_law_begins) (ps := ["widths","nears","row"]) (fun _ _ _ _ _ _ us hl => (by obtain ⟨a0,a1,a2,rfl⟩ := len3 hl; rfl)) X G a43 l43 c43 k43
  have D44 := dnG (x := "_law_width") (st := s_law_width) (ps := ["passes","widths","nears","letters"]) (fun _ _ _ _ _ _ us hl => (by obtain ⟨a0,a1,a2,a3,rfl⟩ := len4 hl; rfl)) X G a44 l44 c44 k44
  have D45 := dnG (x := "law") (st := s_law) (ps := ["script"]) (fun _ _ _ _ _ _ us hl => (by obtain ⟨a0,rfl⟩ := len1 hl; rfl)) X G a45 l45 c45 k45
  refine ⟨PySem.W.fnOf "law" "law" (defArgs s_law) (defBody s_law) (defScope s_law) .none kV45 dc45 pm45 an45 cd45 ct45,fun s v => .of_eq rfl,fun base _ _ => ?_⟩
  have G0 := ok_law_cell_at (P := l.prog) (w := w) (base := base) D0 T 
  have G1 := ok_law_stock (P := l.prog) (w := w) (base := base) D1 T 
  have G2 := ok_law_mix (P := l.prog) (w := w) (base := base) D2 T 
  have G3 := ok_law_part (P := l.prog) (w := w) (base := base) D3 T D2 G2
  have G4 := ok_law_rule (P := l.prog) (w := w) (base := base) D4 T D3 G3
  have G5 := ok_law_pick (P := l.prog) (w := w) (base := base) D5 T D0 G0
  have G6 := ok_law_passes (P := l.prog) (w := w) (base := base) D6 T D4 G4 D5 G5
  have G7 := ok_law_letters (P := l.prog) (w := w) (base := base) D7 T D2 G2 D5 G5
  have G8 := ok_law_widths (P := l.prog) (w := w) (base := base) D8 T D2 G2
  have G9 := ok_law_nears (P := l.prog) (w := w) (base := base) D9 T D2 G2
  have G10 := ok_law_bundled (P := l.prog) (w := w) (base := base) D10 T 
  have G11 := ok_law_fits (P := l.prog) (w := w) (base := base) D11 T 
  have G12 := ok_law_doings (P := l.prog) (w := w) (base := base) D12 T D11 G11
  have G13 := ok_law_next_row (P := l.prog) (w := w) (base := base) D13 T D10 G10 D12 G12
  have G14 := ok_law_rows (P := l.prog) (w := w) (base := base) D14 T D13 G13
  have G15 := ok_law_copy (P := l.prog) (w := w) (base := base) D15 T 
  have G16 := ok_first_slots (P := l.prog) (w := w) (base := base) D16 T 
  have G17 := ok_chains (P := l.prog) (w := w) (base := base) D17 T 
  have G18 := ok_all_of (P := l.prog) (w := w) (base := base) D18 T 
  have G19 := ok_shapes_of (P := l.prog) (w := w) (base := base) D19 T 
  have G20 := ok_melted (P := l.prog) (w := w) (base := base) D20 T D17 G17 D18 G18 D19 G19
  have G21 := ok_stands (P := l.prog) (w := w) (base := base) D21 T 
  have G22 := ok_fits (P := l.prog) (w := w) (base := base) D22 T D21 G21
  have G23 := ok_first_that_fits (P := l.prog) (w := w) (base := base) D23 T D22 G22
  have G24 := ok_doings (P := l.prog) (w := w) (base := base) D24 T D23 G23
  have G25 := ok_passed_slots (P := l.prog) (w := w) (base := base) D25 T D24 G24 D19 G19 D18 G18
  have G26 := ok_rows_along (P := l.prog) (w := w) (base := base) D26 T D16 G16 D20 G20 D25 G25
  have G27 := ok_set_row (P := l.prog) (w := w) (base := base) D27 T D26 G26
  have G28 := ok_near_of (P := l.prog) (w := w) (base := base) D28 T 
  have G29 := ok_width_of (P := l.prog) (w := w) (base := base) D29 T 
  have G30 := ok_spans (P := l.prog) (w := w) (base := base) D30 T D19 G19 D28 G28 D29 G29
  have G31 := ok_whole_width (P := l.prog) (w := w) (base := base) D31 T 
  have G32 := ok_shares (P := l.prog) (w := w) (base := base) D32 T 
  have G33 := ok_carets (P := l.prog) (w := w) (base := base) D33 T D27 G27 D30 G30 D17 G17 D31 G31 D32 G32
  have G34 := ok_is_near_across (P := l.prog) (w := w) (base := base) D34 T D28 G28
  have G35 := ok_places_across (P := l.prog) (w := w) (base := base) D35 T 
  have G36 := ok_bars (P := l.prog) (w := w) (base := base) D36 T D26 G26 D24 G24 D34 G34 D19 G19 D35 G35
  have G37 := ok_cuts (P := l.prog) (w := w) (base := base) D37 T D36 G36
  have G38 := ok_line_end (P := l.prog) (w := w) (base := base) D38 T 
  have G39 := ok_lines (P := l.prog) (w := w) (base := base) D39 T D33 G33 D37 G37 D38 G38
  have G40 := ok_law_whole (P := l.prog) (w := w) (base := base) D40 T 
  have G41 := ok_law_same (P := l.prog) (w := w) (base := base) D41 T D40 G40
  have G42 := ok_law_bar (P := l.prog) (w := w) (base := base) D42 T D12 G12
  have G43 := ok_law_begins (P := l.prog) (w := w) (base := base) D43 T 
  have G44 := ok_law_width (P := l.prog) (w := w) (base := base) D44 T D43 G43 D14 G14
  have G45 := ok_law (P := l.prog) (w := w) (base := base) D45 T D0 G0 D1 G1 D6 G6 D7 G7 D8 G8 D9 G9 D14 G14 D15 G15 D39 G39 D41 G41 D42 G42 D44 G44
  exact G45
theorem walkX {q : Program} {loose : List Str} {XP : (Str → Option Value) → Heap → Prop} {r : PySem.W.RowW} {d : DefRec} {kwd : List (Str × Expr)} {run : Value → List Value → Sem Value} {K : Params → PySem.W.Frag} {as : List Addr} {n t : Nat} (keys : ∀ P,as = (K P).map (·.1))
    (h : PySem.W.WalkO q loose XP (fun w h => (K w.params).In h) r d kwd run) : PySem.W.WalkX q loose XP (PySem.W.X.obsZ as) (PySem.W.X.valZ K n t) r d kwd run :=
  fun w s₀ s₁ mg mb G Y a o pm cd doc dV kV h1 h2 h3 h4 h5 h6 args vals as' L => h w s₀ s₁ mg mb G (PySem.W.InK.keeps w _ _ (PySem.W.X.z_facts keys Y).2.1 L.keeps) a o pm cd doc dV kV h1 h2 h3 h4 h5 h6 args vals as'
theorem walk {l : PySem.W.OpenLaw} {q : Program} {loose : List Str} {XP : (Str → Option Value) → Heap → Prop} {YP : World → Heap → Prop} {d : DefRec} {K : Params → PySem.W.Frag} (hn : l.most = some 63) (hdf : d.params.defaults = [])
    (hY : ∀ (w : World) (h : Heap),YP w h → (K w.params).In h)
    (F : ∀ (w : World) (mg : Str → Option Value) (fa : Addr) (h : Heap),(K w.params).In h → h.Ns mainGlobals mg → mg d.name = some (.ref fa) →
      ∃ fd : FuncData,(∀ (s : Shared) (u : Value),BindsTo s fd ⟨[u],[]⟩ [("script",u)]) ∧ ∀ base : Heap,(K w.params).In base → base.Ns mainGlobals mg → FnOk l.prog w (K w.params) mg base CX0 10 fa fd ["script"] (spLaw (K w.params))) :
    PySem.W.WalkO q loose XP YP l.row.toRowW d [] (fun f vs => PySem.call f vs) :=
  L2.walk_of (n := 63) (k := 10) (x := "script") (CX := fun _ => CX0) (sp := fun w => spLaw (K w.params)) hn (by decide) hdf ⟨rfl,by decide,by decide⟩ hY F (fun _ _ a ns hl _ hS => ⟨a,ns,rfl,hS,hl,fun _ => rfl⟩) fun _ _ _ _ _ z => z
end W
noncomputable def PySem.W.Fast.tw5531819814524588779 : PySem.Program := PySem.Challenge.pw_inkmelt_k11_lines
theorem PySem.W.Fast.te5531819814524588779 : PySem.Challenge.pw_inkmelt_k11_lines = PySem.W.Fast.tw5531819814524588779 := rfl
open PySem PySem.W PyProof.Rows
set_option maxRecDepth 100000 in
set_option maxHeartbeats 0 in
theorem PySem.Challenge.cw_inkmelt_k11_lines_holds : PySem.Challenge.rw_inkmelt_k11_lines.Holds := by
  w_on; o_law; z_head; (case hw => w_witness2)
  refine W.walkX (fun P => rfl) ?_
  refine W.walk (l := PySem.Challenge.rw_inkmelt_k11_lines) (K := _) rfl rfl (fun w h Y => Y) ?F
  case F =>
    intro w mg fa h KX G hmg
    refine' W.all_mk KX G hmg ?a0 ?l0 ?c0 ?k0 ?a1 ?l1 ?c1 ?k1 ?a2 ?l2 ?c2 ?k2 ?a3 ?l3 ?c3 ?k3 ?a4 ?l4 ?c4 ?k4 ?a5 ?l5 ?c5 ?k5 ?a6 ?l6 ?c6 ?k6 ?a7 ?l7 ?c7 ?k7 ?a8 ?l8 ?c8 ?k8 ?a9 ?l9 ?c9 ?k9 ?a10 ?l10 ?c10 ?k10 ?a11 ?l11 ?c11 ?k11 ?a12 ?l12 ?c12 ?k12 ?a13 ?l13 ?c13 ?k13 ?a14 ?l14 ?c14 ?k14 ?a15 ?l15 ?c15 ?k15 ?a16 ?l16 ?c16 ?k16 ?a17 ?l17 ?c17 ?k17 ?a18 ?l18 ?c18 ?k18 ?a19 ?l19 ?c19 ?k19 ?a20 ?l20 ?c20 ?k20 ?a21 ?l21 ?c21 ?k21 ?a22 ?l22 ?c22 ?k22 ?a23 ?l23 ?c23 ?k23 ?a24 ?l24 ?c24 ?k24 ?a25 ?l25 ?c25 ?k25 ?a26 ?l26 ?c26 ?k26 ?a27 ?l27 ?c27 ?k27 ?a28 ?l28 ?c28 ?k28 ?a29 ?l29 ?c29 ?k29 ?a30 ?l30 ?c30 ?k30 ?a31 ?l31 ?c31 ?k31 ?a32 ?l32 ?c32 ?k32 ?a33 ?l33 ?c33 ?k33 ?a34 ?l34 ?c34 ?k34 ?a35 ?l35 ?c35 ?k35 ?a36 ?l36 ?c36 ?k36 ?a37 ?l37 ?c37 ?k37 ?a38 ?l38 ?c38 ?k38 ?a39 ?l39 ?c39 ?k39 ?a40 ?l40 ?c40 ?k40 ?a41 ?l41 ?c41 ?k41 ?a42 ?l42 ?c42 ?k42 ?a43 ?l43 ?c43 ?k43 ?a44 ?l44 ?c44 ?k44 ?a45 ?l45 ?c45 ?k45 ?x_PASSES ?x_WIDTHS ?x_NEARS ?x_BEHIND ?x_TAKE ?x_AHEAD ?x_GIVE ?x_SHAPE ?x_FROM ?x_TO ?x_USUAL_WIDTH ?x_BEGIN ?x_END ?z_bool ?z_dict ?z_enumerate ?z_int ?z_isinstance ?z_len ?z_list ?z_max ?z_range ?z_tuple
    (case a0 => k_is)
    (case l0 => k_is)
    (case c0 => k_is)
    (case k0 => k_is)
    (case a1 => k_is)
    (case l1 => k_is)
    (case c1 => k_is)
    (case k1 => k_is)
    (case a2 => k_is)
    (case l2 => k_is)
    (case c2 => k_is)
    (case k2 => k_is)
    (case a3 => k_is)
    (case l3 => k_is)
    (case c3 => k_is)
    (case k3 => k_is)
    (case a4 => k_is)
    (case l4 => k_is)
    (case c4 => k_is)
    (case k4 => k_is)
    (case a5 => k_is)
    (case l5 => k_is)
    (case c5 => k_is)
    (case k5 => k_is)
    (case a6 => k_is)
    (case l6 => k_is)
    (case c6 => k_is)
    (case k6 => k_is)
    (case a7 => k_is)
    (case l7 => k_is)
    (case c7 => k_is)
    (case k7 => k_is)
    (case a8 => k_is)
    (case l8 => k_is)
    (case c8 => k_is)
    (case k8 => k_is)
    (case a9 => k_is)
    (case l9 => k_is)
    (case c9 => k_is)
    (case k9 => k_is)
    (case a10 => k_is)
    (case l10 => k_is)
    (case c10 => k_is)
    (case k10 => k_is)
    (case a11 => k_is)
    (case l11 => k_is)
    (case c11 => k_is)
    (case k11 => k_is)
    (case a12 => k_is)
    (case l12 => k_is)
    (case c12 => k_is)
    (case k12 => k_is)
    (case a13 => k_is)
    (case l13 => k_is)
    (case c13 => k_is)
    (case k13 => k_is)
    (case a14 => k_is)
    (case l14 => k_is)
    (case c14 => k_is)
    (case k14 => k_is)
    (case a15 => k_is)
    (case l15 => k_is)
    (case c15 => k_is)
    (case k15 => k_is)
    (case a16 => k_is)
    (case l16 => k_is)
    (case c16 => k_is)
    (case k16 => k_is)
    (case a17 => k_is)
    (case l17 => k_is)
    (case c17 => k_is)
    (case k17 => k_is)
    (case a18 => k_is)
    (case l18 => k_is)
    (case c18 => k_is)
    (case k18 => k_is)
    (case a19 => k_is)
    (case l19 => k_is)
    (case c19 => k_is)
    (case k19 => k_is)
    (case a20 => k_is)
    (case l20 => k_is)
    (case c20 => k_is)
    (case k20 => k_is)
    (case a21 => k_is)
    (case l21 => k_is)
    (case c21 => k_is)
    (case k21 => k_is)
    (case a22 => k_is)
    (case l22 => k_is)
    (case c22 => k_is)
    (case k22 => k_is)
    (case a23 => k_is)
    (case l23 => k_is)
    (case c23 => k_is)
    (case k23 => k_is)
    (case a24 => k_is)
    (case l24 => k_is)
    (case c24 => k_is)
    (case k24 => k_is)
    (case a25 => k_is)
    (case l25 => k_is)
    (case c25 => k_is)
    (case k25 => k_is)
    (case a26 => k_is)
    (case l26 => k_is)
    (case c26 => k_is)
    (case k26 => k_is)
    (case a27 => k_is)
    (case l27 => k_is)
    (case c27 => k_is)
    (case k27 => k_is)
    (case a28 => k_is)
    (case l28 => k_is)
    (case c28 => k_is)
    (case k28 => k_is)
    (case a29 => k_is)
    (case l29 => k_is)
    (case c29 => k_is)
    (case k29 => k_is)
    (case a30 => k_is)
    (case l30 => k_is)
    (case c30 => k_is)
    (case k30 => k_is)
    (case a31 => k_is)
    (case l31 => k_is)
    (case c31 => k_is)
    (case k31 => k_is)
    (case a32 => k_is)
    (case l32 => k_is)
    (case c32 => k_is)
    (case k32 => k_is)
    (case a33 => k_is)
    (case l33 => k_is)
    (case c33 => k_is)
    (case k33 => k_is)
    (case a34 => k_is)
    (case l34 => k_is)
    (case c34 => k_is)
    (case k34 => k_is)
    (case a35 => k_is)
    (case l35 => k_is)
    (case c35 => k_is)
    (case k35 => k_is)
    (case a36 => k_is)
    (case l36 => k_is)
    (case c36 => k_is)
    (case k36 => k_is)
    (case a37 => k_is)
    (case l37 => k_is)
    (case c37 => k_is)
    (case k37 => k_is)
    (case a38 => k_is)
    (case l38 => k_is)
    (case c38 => k_is)
    (case k38 => k_is)
    (case a39 => k_is)
    (case l39 => k_is)
    (case c39 => k_is)
    (case k39 => k_is)
    (case a40 => k_is)
    (case l40 => k_is)
    (case c40 => k_is)
    (case k40 => k_is)
    (case a41 => k_is)
    (case l41 => k_is)
    (case c41 => k_is)
    (case k41 => k_is)
    (case a42 => k_is)
    (case l42 => k_is)
    (case c42 => k_is)
    (case k42 => k_is)
    (case a43 => k_is)
    (case l43 => k_is)
    (case c43 => k_is)
    (case k43 => k_is)
    (case a44 => k_is)
    (case l44 => k_is)
    (case c44 => k_is)
    (case k44 => k_is)
    (case a45 => k_is)
    (case l45 => k_is)
    (case c45 => k_is)
    (case k45 => k_is)
    (case x_PASSES => k_is)
    (case x_WIDTHS => k_is)
    (case x_NEARS => k_is)
    (case x_BEHIND => k_is)
    (case x_TAKE => k_is)
    (case x_AHEAD => k_is)
    (case x_GIVE => k_is)
    (case x_SHAPE => k_is)
    (case x_FROM => k_is)
    (case x_TO => k_is)
    (case x_USUAL_WIDTH => k_is)
    (case x_BEGIN => k_is)
    (case x_END => k_is)
    (case z_bool => k_is)
    (case z_dict => k_is)
    (case z_enumerate => k_is)
    (case z_int => k_is)
    (case z_isinstance => k_is)
    (case z_len => k_is)
    (case z_list => k_is)
    (case z_max => k_is)
    (case z_range => k_is)
    (case z_tuple => k_is)
