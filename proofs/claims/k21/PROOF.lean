import PyProof.Rows.All
import Wide.All
import OpenK.AllK
import Wide.FinOn
import Lean
import PyProof.EqAt
import PyProof.EqKinds
import PyProof.TupleCall
import KE.KLam
import PySem.Challenge.RW_stairrooms_k21_known_walks
set_option Elab.async false
set_option linter.all false
set_option maxRecDepth 100000
namespace L2
open PySem PySem.Spec PyProof.Rows
noncomputable abbrev Key := Sum Int Str
noncomputable def keyIs : Key → Value → Bool
  | .inl k, v => Value.isInt k v
  | .inr x, v => Value.isStrOf x v
noncomputable def keyH (w : World) : Key → Int
  | .inl k => hashInt k
  | .inr x => hashStr w x
theorem keyIs_shape : ∀ {k : Key} {v : Value}, keyIs k v = true → (∃ i t, k = Sum.inl i ∧ v = Value.int i t) ∨ (∃ x t, k = Sum.inr x ∧ v = Value.str x t)
  | .inl i, v, h => by
    obtain ⟨t, e⟩ := Value.isInt_shape (k := i) (v := v) h
    exact .inl ⟨i, t, rfl, e⟩
  | .inr x, v, h => by
    obtain ⟨t, e⟩ := Value.isStrOf_shape (x := x) (v := v) h
    exact .inr ⟨x, t, rfl, e⟩
theorem keyIs_int (i : Int) (t : Tok) : keyIs (.inl i) (.int i t) = true := by simp [keyIs, Value.isInt]
theorem keyIs_str (x : Str) (t : Tok) : keyIs (.inr x) (.str x t) = true := by simp [keyIs, Value.isStrOf]
theorem key_ll (a b : Int) : decide ((Sum.inl a : Key) = Sum.inl b) = (a == b) := by
  by_cases e : a = b
  · subst e; simp
  · have h : ¬ (Sum.inl a : Key) = Sum.inl b := fun q => e (Sum.inl.inj q)
    rw [decide_eq_false h]
    exact (beq_eq_false_iff_ne.mpr e).symm
theorem key_rr (a b : Str) : decide ((Sum.inr a : Key) = Sum.inr b) = decide (a = b) := by
  by_cases e : a = b
  · subst e; simp
  · have h : ¬ (Sum.inr a : Key) = Sum.inr b := fun q => e (Sum.inr.inj q)
    rw [decide_eq_false h, decide_eq_false e]
theorem key_lr (a : Int) (b : Str) : decide ((Sum.inl a : Key) = Sum.inr b) = false := decide_eq_false (fun q => nomatch q)
theorem key_rl (a : Str) (b : Int) : decide ((Sum.inr a : Key) = Sum.inl b) = false := decide_eq_false (fun q => nomatch q)
noncomputable def mixKind (prog : Program) (w : World) : PySem.KeyKind prog w Key where
  is := keyIs
  hash := keyH w
  inj := fun v a b ha hb => by
    rcases keyIs_shape ha with ⟨i, t, rfl, rfl⟩ | ⟨x, t, rfl, rfl⟩
    · rcases keyIs_shape hb with ⟨j, u, rfl, e⟩ | ⟨y, u, rfl, e⟩
      · injection e with e1 _; rw [e1]
      · exact nomatch e
    · rcases keyIs_shape hb with ⟨j, u, rfl, e⟩ | ⟨y, u, rfl, e⟩
      · exact nomatch e
      · injection e with e1 _; rw [e1]
  byValue := fun k v h => by
    rcases keyIs_shape h with ⟨i, t, rfl, rfl⟩ | ⟨x, t, rfl, rfl⟩ <;> rfl
  pyHash := fun hv h => by
    rcases keyIs_shape hv with ⟨i, t, rfl, rfl⟩ | ⟨x, t, rfl, rfl⟩
    · exact wpAny_pyHash_int h
    · exact wpAny_pyHash_str h
  eqBool := fun hu hv h => by
    rcases keyIs_shape hu with ⟨i, t, rfl, rfl⟩ | ⟨x, t, rfl, rfl⟩
    · rcases keyIs_shape hv with ⟨j, u, rfl, rfl⟩ | ⟨y, u, rfl, rfl⟩
      · rw [key_ll] at h; exact wpAny_eqBool_int h
      · rw [key_lr] at h; exact SeqAt.EqAt.int_str i t y u _ _ _ _ h
    · rcases keyIs_shape hv with ⟨j, u, rfl, rfl⟩ | ⟨y, u, rfl, rfl⟩
      · rw [key_rl] at h; exact SeqAt.EqAt.str_int x t j u _ _ _ _ h
      · rw [key_rr] at h; exact wpAny_eqBool_str h
  «strs» := fun k x t v h => by
    rcases keyIs_shape h with ⟨i, u, rfl, e⟩ | ⟨y, u, rfl, e⟩
    · exact nomatch e
    · injection e with e1 _
      subst e1
      cases v <;> rfl
theorem mixKind_int (prog : Program) (w : World) (i : Int) (t : Tok) : (mixKind prog w).is (.inl i) (.int i t) = true := keyIs_int i t
theorem mixKind_str (prog : Program) (w : World) (x : Str) (t : Tok) : (mixKind prog w).is (.inr x) (.str x t) = true := keyIs_str x t
end L2
namespace L2
open PySem PySem.Spec PyProof.Rows
inductive V where
  | non | bl (b : Bool) | int (i : Int) | str (x : Str) | byt (b : Array UInt8) | flt (b : UInt64) | ref (a : Addr) | ty (n : String)
  deriving DecidableEq
noncomputable def RelV : V → Value → Prop
  | .non, u => u = Value.none
  | .bl b, u => u = Value.bool b
  | .int i, u => ∃ t, u = Value.int i t
  | .str x, u => ∃ t, u = Value.str x t
  | .byt b, u => ∃ t, u = Value.bytes b t
  | .flt b, u => ∃ t, u = Value.float b t
  | .ref a, u => u = Value.ref a
  | .ty n, u => u = Value.type n
noncomputable abbrev Vals : List V → List Value → Prop := Paired RelV
theorem Vals.length {xs : List V} {us : List Value} (r : Vals xs us) : xs.length = us.length := Paired.length r
theorem Vals.get : ∀ {xs : List V} {us : List Value} {i : Nat} {x : V}, Vals xs us → xs[i]? = some x → ∃ u, us[i]? = some u ∧ RelV x u
  | _, _, _, _, .nil, e => by simp at e
  | _, _, 0, _, .cons r _, e => by simp at e; subst e; exact ⟨_, rfl, r⟩
  | _, _, i + 1, x, .cons _ t, e => by
    obtain ⟨u, h1, h2⟩ := Vals.get (i := i) (x := x) t (by simpa using e)
    exact ⟨u, by simpa using h1, h2⟩
theorem Vals.append : ∀ {xs ys : List V} {us ws : List Value}, Vals xs us → Vals ys ws → Vals (xs ++ ys) (us ++ ws)
  | _, _, _, _, .nil, s => s
  | _, _, _, _, .cons r t, s => .cons r (Vals.append t s)
theorem Vals.take : ∀ {xs : List V} {us : List Value} (n : Nat), Vals xs us → Vals (xs.take n) (us.take n)
  | _, _, 0, _ => .nil
  | _, _, _ + 1, .nil => .nil
  | _, _, n + 1, .cons r t => .cons r (Vals.take n t)
theorem Vals.drop : ∀ {xs : List V} {us : List Value} (n : Nat), Vals xs us → Vals (xs.drop n) (us.drop n)
  | _, _, 0, r => r
  | _, _, _ + 1, .nil => .nil
  | _, _, n + 1, .cons _ t => Vals.drop n t
noncomputable def RelO : Option V → Option Value → Prop
  | some v, some u => RelV v u
  | none, none => True
  | _, _ => False
noncomputable def KV {κ : Type} : List (κ × V) → List (κ × Value) → Prop := Paired fun (p : κ × V) (q : κ × Value) => p.1 = q.1 ∧ RelV p.2 q.2
noncomputable def kV : Key → V
  | .inl i => .int i
  | .inr x => .str x
inductive HO where
  /-- a list -/
  | lst (xs : List V)
  /-- a tuple (never changes) -/
  | tup (xs : List V)
  /-- a dict whose keys are ints and texts; one whose keys are tuples of ints and texts (the empty one is both) -/
  | dK (kvs : List (Key × V)) | dT (kvs : List (List Key × V))
  /-- a set of ints: its members, its size -/
  | set (S : Int → Bool) (n : Nat)
  /-- an instance of the class at C, its dict at dx, its attributes -/
  | ins (C dx : Addr) (fs : List (Str × V))
  /-- the dict of the instance at x -/
  | own (x : Addr)
  /-- the dict of an exception -/
  | xd (fs : List (Str × V))
  /-- a bound method, f of x -/
  | met (f x : Addr)
  /-- a range object lo, lo + 1, .. below hi -/
  | rng (lo hi : Int)
  /-- a thing that is known to the object (the script; a dict while a loop walks it): read, never written while it is so -/
  | frz (o : Obj) (u : HO)
  /-- a code object's table -/
  | tbl (ps : Array Value)
  /-- any other thing, by what is true of its one object (a def of one's own: SetO a S n := HO.ext fun h => ..) -/
  | ext (φ : Heap → Prop)
noncomputable abbrev Hp := Addr → Option HO
noncomputable def upd (H : Hp) (a : Addr) (o : HO) : Hp := fun b => if b = a then some o else H b
theorem upd_same {H : Hp} {a : Addr} {o : HO} : upd H a o a = some o := by unfold upd; rw [if_pos rfl]
theorem upd_ne {H : Hp} {a b : Addr} {o : HO} (h : b ≠ a) : upd H a o b = H b := by unfold upd; rw [if_neg h]
theorem ne_of {H : Hp} {a b : Addr} {o u : HO} (h : H a = some o) (h' : H b = some u) (d : o ≠ u) : a ≠ b := by
  intro e; subst e; rw [h] at h'; exact d (Option.some.inj h')
theorem ne_of_none {H : Hp} {a b : Addr} {o : HO} (h : H a = some o) (h' : H b = none) : a ≠ b := by
  intro e; subst e; rw [h] at h'; cases h'
section
variable (P : Program) (w : World)
noncomputable def ObjOk (H : Hp) (h : Heap) (a : Addr) : HO → Prop
  | .lst xs => xs.length ≤ sizeLine ∧ ∃ (its : List Value) (n : Nat), Vals xs its ∧ h.get? a = some { cls := .type "list", data := .seq its.toArray n }
  | .tup xs => xs.length ≤ sizeLine ∧ ∃ its : List Value, Vals xs its ∧ IsTup h a its.toArray
  | .dK kvs => kvs.length ≤ sizeLine ∧ (a == sysModules) = false ∧ ∃ vs, KV kvs vs ∧ h.DictOf (mixKind P w) a vs
  | .dT kvs => kvs.length ≤ sizeLine ∧ (a == sysModules) = false ∧ ∃ xs : List (List Key × Addr × Value),
      Paired (fun (p : List Key × V) (q : List Key × Addr × Value) => p.1 = q.1 ∧ H q.2.1 = some (.tup (p.1.map kV)) ∧ RelV p.2 q.2.2) kvs xs ∧
      ∃ o es ep, h.get? a = some o ∧ o.ExactDict ∧ o.data = .dict es ep ∧ es.toList = xs.map (entryOfKey (tupleKind (mixKind P w))) ∧ (xs.map (·.1)).Nodup
  | .set S n => h.SetOf (intKind P w) a S n
  | .ins C dx fs => H dx = some (.own a) ∧ fs.length ≤ 1000 ∧ dx ≠ a ∧ h.get? a = some (PySem.W.instObj C dx) ∧
      ∃ mA, h.Ns1 dx mA ∧ (∀ f, RelO (fs.lookup f) (mA f)) ∧ PySem.Within mA (fs.map (·.1))
  | .own _ => ∃ o, h.get? a = some o
  | .xd fs => ∃ mA, h.Ns1 a mA ∧ ∀ f, RelO (fs.lookup f) (mA f)
  | .rng lo hi => ∃ t u v, h.get? a = some { cls := .type "range", data := .fields #[.int lo t, .int hi u, .int 1 v] }
  | .frz o u => h.get? a = some o ∧ ObjOk H h a u
  | .tbl ps => h.get? a = some { cls := .none, data := .fields ps }
  | .met f x => h.get? a = some (PySem.W.methodObj (.ref f) (.ref x))
  | .ext φ => φ h ∧ (∃ o, h.get? a = some o) ∧ ∀ h1 h2 : Heap, φ h1 → (∀ o, h1.get? a = some o → h2.get? a = some o) → φ h2
noncomputable def HOk (H : Hp) (h : Heap) : Prop := ∀ a o, H a = some o → ObjOk P w H h a o
end
section
variable {P : Program} {w : World} {H H' : Hp} {h h' : Heap} {a : Addr} {o : HO}
theorem ObjOk.lt (x : ObjOk P w H h a o) : a < h.objs.size := by
  cases o with
  | lst xs => obtain ⟨_, _, _, _, e⟩ := x; exact Heap.lt_size e
  | tup xs => obtain ⟨_, _, _, p⟩ := x; exact p.lt
  | dK kvs => obtain ⟨_, _, _, _, o, _, _, e, _⟩ := x; exact Heap.lt_size e
  | dT kvs => obtain ⟨_, _, _, _, o, _, _, e, _⟩ := x; exact Heap.lt_size e
  | set S n => obtain ⟨o, _, _, _, e, _⟩ := x; exact Heap.lt_size e
  | ins C dx fs => obtain ⟨_, _, _, e, _⟩ := x; exact Heap.lt_size e
  | own y => obtain ⟨_, e⟩ := x; exact Heap.lt_size e
  | xd fs => obtain ⟨_, ⟨_, _, _, e, _⟩, _⟩ := x; exact Heap.lt_size e
  | rng lo hi => obtain ⟨_, _, _, e⟩ := x; exact Heap.lt_size e
  | frz ob u => obtain ⟨e, _⟩ := x; exact Heap.lt_size e
  | tbl ps => exact Heap.lt_size (show h.get? a = some _ from x)
  | met f y => exact Heap.lt_size (show h.get? a = some _ from x)
  | ext φ => obtain ⟨_, ⟨_, e⟩, _⟩ := x; exact Heap.lt_size e
theorem Paired.mapP {α β : Type} {F G : α → β → Prop} : ∀ {l₁ : List α} {l₂ : List β}, Paired F l₁ l₂ → (∀ a b, F a b → G a b) → Paired G l₁ l₂
  | _, _, .nil, _ => .nil
  | _, _, .cons r t, f => .cons (f _ _ r) (Paired.mapP t f)
theorem ObjOk.stay (x : ObjOk P w H h a o) (k : ∀ b u, (b = a ∨ H b = some (.own a)) → h.get? b = some u → h'.get? b = some u)
    (ho : ∀ b, H b = some (.own a) → H' b = some (.own a)) (ht : ∀ b xs, H b = some (.tup xs) → H' b = some (.tup xs)) : ObjOk P w H' h' a o := by
  induction o with
  | lst xs => obtain ⟨z, its, n, r, e⟩ := x; exact ⟨z, its, n, r, k _ _ (.inl rfl) e⟩
  | tup xs => obtain ⟨z, its, r, ob, e, c⟩ := x; exact ⟨z, its, r, ob, k _ _ (.inl rfl) e, c⟩
  | dK kvs => obtain ⟨z, y, vs, r, ob, es, ep, e, c⟩ := x; exact ⟨z, y, vs, r, ob, es, ep, k _ _ (.inl rfl) e, c⟩
  | dT kvs =>
    obtain ⟨z, y, xs, r, ob, es, ep, e, c⟩ := x
    exact ⟨z, y, xs, Paired.mapP r fun p q z => ⟨z.1, ht _ _ z.2.1, z.2.2⟩, ob, es, ep, k _ _ (.inl rfl) e, c⟩
  | set S n => obtain ⟨ob, es, ep, t, e, c⟩ := x; exact ⟨ob, es, ep, t, k _ _ (.inl rfl) e, c⟩
  | ins C dx fs =>
    obtain ⟨d, z, ne, e, mA, ⟨od, es, ep, e2, c⟩, r⟩ := x
    exact ⟨ho _ d, z, ne, k _ _ (.inl rfl) e, mA, ⟨od, es, ep, k _ _ (.inr d) e2, c⟩, r⟩
  | own y => obtain ⟨ob, e⟩ := x; exact ⟨ob, k _ _ (.inl rfl) e⟩
  | xd fs => obtain ⟨mA, ⟨od, es, ep, e, c⟩, r⟩ := x; exact ⟨mA, ⟨od, es, ep, k _ _ (.inl rfl) e, c⟩, r⟩
  | rng lo hi => obtain ⟨t, u, v, e⟩ := x; exact ⟨t, u, v, k _ _ (.inl rfl) e⟩
  | frz ob u ih => obtain ⟨e, q⟩ := x; exact ⟨k _ _ (.inl rfl) e, ih q⟩
  | tbl ps =>
    have e : h.get? a = some { cls := .none, data := .fields ps } := x
    show h'.get? a = some { cls := .none, data := .fields ps }
    exact k a _ (.inl rfl) e
  | met f y =>
    have e : h.get? a = some (PySem.W.methodObj (.ref f) (.ref y)) := x
    show h'.get? a = some (PySem.W.methodObj (.ref f) (.ref y))
    exact k a _ (.inl rfl) e
  | ext φ => obtain ⟨p, ⟨o, e⟩, st⟩ := x; exact ⟨st _ _ p fun o q => k _ _ (.inl rfl) q, ⟨o, k _ _ (.inl rfl) e⟩, st⟩
theorem HOk.lt (x : HOk P w H h) (e : H a = some o) : a < h.objs.size := (x a o e).lt
theorem HOk.fresh (x : HOk P w H h) (e : h.objs.size ≤ a) : H a = none := by
  cases q : H a with
  | none => rfl
  | some u => exact absurd (Nat.lt_of_lt_of_le (x.lt q) e) (Nat.lt_irrefl _)
theorem HOk.kept (x : HOk P w H h) (k : ∀ b u, h.get? b = some u → h'.get? b = some u) : HOk P w H h' := fun a o e =>
  (x a o e).stay (fun b u _ q => k b u q) (fun _ q => q) fun _ _ q => q
theorem HOk.laid (x : HOk P w H h) (k : ∀ b u, h.get? b = some u → h'.get? b = some u) (hp : h.objs.size ≤ a) (new : ObjOk P w (upd H a o) h' a o) : HOk P w (upd H a o) h' := fun b u e => by
  have hn := x.fresh hp
  by_cases hb : b = a
  · subst hb; rw [upd_same] at e; cases e; exact new
  · rw [upd_ne hb] at e
    exact (x b u e).stay (fun c v _ q => k c v q) (fun c q => by rw [upd_ne (ne_of_none q hn)]; exact q) fun c xs q => by rw [upd_ne (ne_of_none q hn)]; exact q
end
noncomputable def Rd (H : Hp) (a : Addr) (u : HO) : Prop := H a = some u ∨ ∃ o, H a = some (.frz o u)
theorem Rd.ok {P : Program} {w : World} {H : Hp} {h : Heap} {a : Addr} {u : HO} (r : Rd H a u) (x : HOk P w H h) : ObjOk P w H h a u := by
  rcases r with r | ⟨o, r⟩
  · exact x a u r
  · obtain ⟨_, q⟩ := x a _ r
    exact q
noncomputable def Mut : Option HO → Prop
  | some (.lst _) => True
  | some (.dK _) => True
  | some (.dT _) => True
  | some (.set _ _) => True
  | some (.ins _ _ _) => True
  | some (.ext _) => True
  | _ => False
section
variable {P : Program} {w : World} {H : Hp} {h h' : Heap} {x e : Addr} {o' : HO}
theorem HOk.write (ok : HOk P w H h) (mu : Mut (H x)) (he : e = x ∨ H e = some (.own x)) (k : ∀ b u, b ≠ e → h.get? b = some u → h'.get? b = some u) (heo : ∃ u, h'.get? e = some u)
    (new : ObjOk P w (upd H x o') h' x o') : HOk P w (upd H x o') h' := fun b u q => by
  have nown : ∀ c y, H c = some (.own y) → c ≠ x := fun c y r z => by subst z; rw [r] at mu; exact mu
  have ntup : ∀ c xs, H c = some (.tup xs) → c ≠ x := fun c xs r z => by subst z; rw [r] at mu; exact mu
  by_cases hb : b = x
  · subst hb; rw [upd_same] at q; cases q; exact new
  · rw [upd_ne hb] at q
    by_cases hbe : b = e
    · have q' : H b = some (.own x) := by
        rcases he with z | z
        · exact absurd (hbe.trans z) hb
        · rw [hbe]; exact z
      rw [q] at q'; cases q'
      obtain ⟨v, hv⟩ := heo
      exact ⟨v, by rw [hbe]; exact hv⟩
    · refine (ok b u q).stay (fun c v hc r => k c v ?_ r) (fun c r => by rw [upd_ne (nown c b r)]; exact r) fun c xs r => by rw [upd_ne (ntup c xs r)]; exact r
      rcases hc with rfl | hc
      · exact hbe
      · rintro rfl
        rcases he with z | z
        · exact nown c b hc z
        · rw [hc] at z; cases z; exact hb rfl
end
structure Un (fs ex : List Addr) (H H' : Hp) (h h' : Heap) : Prop where
  keep : ∀ b o, h.get? b = some o → H b = none → b ∉ fs → b ∉ ex → h'.get? b = some o
  slot : ∀ b o, h.get? b = some o → H b = none → b ∈ fs → b ∉ ex → ∃ sl, h'.get? b = some { o with slots := sl }
  free : ∀ b o, h.get? b = some o → H b = none → b ∉ ex → H' b = none
  there : ∀ b o, h.get? b = some o → b ∉ ex → ∃ o', h'.get? b = some o'
  tups : ∀ b xs, H b = some (.tup xs) → H' b = some (.tup xs)
  frzs : ∀ b o u, H b = some (.frz o u) → H' b = some (.frz o u)
  tbls : ∀ b ps, H b = some (.tbl ps) → ∃ more, H' b = some (.tbl (ps ++ more))
section
variable {fs fs' ex ex' : List Addr} {H H1 H2 : Hp} {h h1 h2 h' : Heap} {a x e : Addr} {o : HO}
theorem Un.any (u : Un fs ex H H1 h h1) {b : Addr} {ob : Obj} (q : h.get? b = some ob) (n : H b = none) (hx : b ∉ ex) : ∃ sl, h1.get? b = some { ob with slots := sl } := by
  by_cases hb : b ∈ fs
  · exact u.slot b ob q n hb hx
  · exact ⟨ob.slots, u.keep b ob q n hb hx⟩
theorem Un.kept (k : ∀ b u, h.get? b = some u → h'.get? b = some u) : Un fs ex H H h h' :=
  ⟨fun b ob q _ _ _ => k b ob q, fun b ob q _ _ _ => ⟨ob.slots, k b ob q⟩, fun _ _ _ n _ => n, fun b ob q _ => ⟨ob, k b ob q⟩, fun _ _ q => q, fun _ _ _ q => q, fun _ ps q => ⟨#[], by rw [q]; simp⟩⟩
theorem Un.refl : Un fs ex H H h h := Un.kept fun _ _ q => q
theorem Un.laid (k : ∀ b u, h.get? b = some u → h'.get? b = some u) (hp : h.objs.size ≤ a) (hn : H a = none) : Un fs ex H (upd H a o) h h' where
  keep := fun b u q _ _ _ => k b u q
  slot := fun b u q _ _ _ => ⟨u.slots, k b u q⟩
  free := fun b u q n _ => by rw [upd_ne (Nat.ne_of_lt (Nat.lt_of_lt_of_le (Heap.lt_size q) hp))]; exact n
  there := fun b u q _ => ⟨u, k b u q⟩
  tups := fun b xs q => by rw [upd_ne (ne_of_none q hn)]; exact q
  frzs := fun b u xs q => by rw [upd_ne (ne_of_none q hn)]; exact q
  tbls := fun b ps q => ⟨#[], by rw [upd_ne (ne_of_none q hn), q]; simp⟩
theorem Un.write (mu : Mut (H x)) (he : e = x ∨ H e = some (.own x)) (k : ∀ b u, b ≠ e → h.get? b = some u → h'.get? b = some u) (heo : ∃ u, h'.get? e = some u) : Un fs ex H (upd H x o) h h' := by
  have hx : ∀ b, H b = none → b ≠ x := fun b n z => by subst z; rw [n] at mu; exact mu
  have hb : ∀ b, H b = none → b ≠ e := fun b n z => by
    subst z
    rcases he with r | r
    · exact hx b n r
    · rw [n] at r; cases r
  have hm : ∀ b u, H b = some u → ¬ Mut (some u) → b ≠ x := fun b u q nm z => by subst z; rw [q] at mu; exact nm mu
  refine ⟨fun b u q n _ _ => k b u (hb b n) q, fun b u q n _ _ => ⟨u.slots, k b u (hb b n) q⟩, fun b u q n _ => by rw [upd_ne (hx b n)]; exact n, fun b u q _ => ?_,
    fun b xs q => by rw [upd_ne (hm b _ q fun z => z)]; exact q, fun b u xs q => by rw [upd_ne (hm b _ q fun z => z)]; exact q, fun b ps q => ⟨#[], by rw [upd_ne (hm b _ q fun z => z), q]; simp⟩⟩
  by_cases hbe : b = e
  · subst hbe; exact heo
  · exact ⟨u, k b u hbe q⟩
end
noncomputable def trk (h : Heap) (H : Hp) : List Addr := (List.range h.objs.size).filter fun a => (H a).isSome
noncomputable def hidT (h : Heap) (H : Hp) : Heap := PySem.W.hideAll h (trk h H)
theorem hidT_size (h : Heap) (H : Hp) : (hidT h H).objs.size = h.objs.size := PySem.W.hideAll_size _ _
theorem hidT_get {h : Heap} {H : Hp} {b : Addr} {o : Obj} (e : h.get? b = some o) (n : H b = none) : (hidT h H).get? b = some o :=
  PySem.W.hideAll_get _ e fun hm => by
    have q : (H b).isSome = true := (List.mem_filter.mp hm).2
    rw [n] at q; simp at q
theorem of_hidT {h : Heap} {H : Hp} {b : Addr} {o : Obj} (e : (hidT h H).get? b = some o) : h.get? b = some o ∧ H b = none := by
  have e' : h.get? b = some o := PySem.W.of_hideAll (trk h H) e
  refine ⟨e', ?_⟩
  cases q : H b with
  | none => rfl
  | some x =>
    have hm : b ∈ trk h H := List.mem_filter.mpr ⟨List.mem_range.mpr (Heap.lt_size e'), by simp [q]⟩
    have z : (hidT h H).get? b = none := PySem.W.hideAll_none (trk h H) hm
    rw [z] at e; cases e
end L2
namespace L2
open PySem PySem.Spec PyProof.Rows
structure Mod (K : PySem.W.Frag) (mg : Str → Option Value) (base : Heap) : Prop where
  kin : K.In base
  glob : base.Ns mainGlobals mg
  blt : ∃ mb, base.Ns builtinsNs mb ∧ ∀ x : Str, x ≠ "__name__" → mb x = bootBuiltins x
  nolimit : base.NoLimit
structure Cx where
  prog : Program
  w : World
  K : PySem.W.Frag
  mg : Str → Option Value
  base : Heap
  A : Around
  N : List Str
  s₀ : Shared
  H₀ : Hp
  env : Env
  outer : List Env
  stack : List Env
  ex : List Addr
  fn : Str → Bool
  calm : Bool
  pn : List (Addr × Obj)
  xe : Value → Shared → Prop
noncomputable def frs (l : List Env) : List Addr := l.filterMap (·.frame)
noncomputable abbrev Cx.fs (X : Cx) : List Addr := frs X.outer
noncomputable def Vis (sc : Scope) (x : Str) : Prop := sc.names.lookup x = some .local ∨ sc.names.lookup x = some .cell ∨ sc.names.lookup x = some .free
noncomputable def Loc (sc : Scope) (x : Str) : Prop := sc.names.lookup x = some .local ∨ sc.names.lookup x = some .cell
noncomputable def Look (env : Env) (h : Heap) (m : Str → Option Value) (x : Str) (u : Value) : Prop :=
  (env.kindOf x = some .local ∧ m x = some u) ∨ ((env.kindOf x = some .cell ∨ env.kindOf x = some .free) ∧ ∃ c, env.cells.lookup x = some c ∧ h.IsCell c (some u))
structure Cx.Ok (X : Cx) : Prop where
  mod : Mod X.K X.mg X.base
  kind : X.env.scope.kind = .function
  glob : X.env.globals = mainGlobals
  blt : X.env.builtins = builtinsNs
  above : X.s₀.heap.objs.size ≤ X.env.locals
  inj : ∀ x y c, X.env.cells.lookup x = some c → X.env.cells.lookup y = some c → x = y
  has : ∀ x, (X.env.kindOf x = some .cell ∨ X.env.kindOf x = some .free) → ∃ c, X.env.cells.lookup x = some c
  cab : ∀ x c, X.fn x = true → X.env.cells.lookup x = some c → X.s₀.heap.objs.size ≤ c
  hd : X.calm = true → X.A.handled = none
  frames : X.A.frames = some X.stack
  stk : X.stack = X.outer ∨ (X.stack = X.env :: X.outer ∧ X.env.frame = some X.env.locals)
  exf : ∀ b ∈ X.ex, b ≠ X.env.locals ∧ ∀ x c, X.env.cells.lookup x = some c → c ≠ b
  bs : ∀ b o, X.base.get? b = some o → X.s₀.heap.get? b = some o ∧ X.H₀ b = none
  bsz : X.base.objs.size ≤ X.s₀.heap.objs.size
  noex : ∀ b o, X.base.get? b = some o → b ∉ X.ex
  exfs : ∀ b ∈ X.ex, b ∉ X.fs
  funs : X.s₀.heap.FunFrames X.base X.outer
  frf : ∀ b ∈ X.fs, X.H₀ b = none
structure Inv (X : Cx) (pins : List (Addr × Obj)) (σ : List (Option V)) (H : Hp) (s : Shared) : Prop where
  ok : X.Ok
  os : s.os = X.s₀.os
  bare : AllBare s.gens
  base : Un X.fs X.ex X.H₀ H X.s₀.heap s.heap
  loc : ∃ m, s.heap.Ns X.env.locals m ∧ ∀ (i : Nat) (x : Str) (v : V), X.N[i]? = some x → σ[i]? = some (some v) → Vis X.env.scope x → ∃ u, RelV v u ∧ Look X.env s.heap m x u
  cell : ∀ x c, X.env.cells.lookup x = some c → ∃ v, s.heap.IsCell c v
  free : H X.env.locals = none
  freeC : ∀ x c, X.env.cells.lookup x = some c → H c = none
  pin : ∀ p ∈ X.pn ++ pins, s.heap.get? p.1 = some p.2 ∧ H p.1 = none ∧ p.1 ≠ X.env.locals ∧ p.1 ∉ X.fs ∧ ∀ v, p.2.data ≠ .cell v
  hok : HOk X.prog X.w H s.heap
  len : σ.length = X.N.length
section
variable {X : Cx} {pins : List (Addr × Obj)} {σ : List (Option V)} {H H' : Hp} {s : Shared} {h' : Heap}
theorem Cx.Ok.nofr (ok : X.Ok) {b : Addr} {o : Obj} (e : X.base.get? b = some o) : b ∉ X.fs := fun hb => by
  have := (ok.funs.mem hb).1
  rw [e] at this; cases this
theorem Inv.bs (I : Inv X pins σ H s) : ∀ b o, X.base.get? b = some o → s.heap.get? b = some o ∧ H b = none := fun b o e =>
  ⟨I.base.keep b o (I.ok.bs b o e).1 (I.ok.bs b o e).2 (I.ok.nofr e) (I.ok.noex b o e), I.base.free b o (I.ok.bs b o e).1 (I.ok.bs b o e).2 (I.ok.noex b o e)⟩
theorem Inv.bk (I : Inv X pins σ H s) : ∀ b o, X.base.get? b = some o → s.heap.get? b = some o := fun b o e => (I.bs b o e).1
theorem Inv.mod (I : Inv X pins σ H s) : Mod X.K X.mg X.base := I.ok.mod
theorem Inv.kIn (I : Inv X pins σ H s) : X.K.In s.heap := I.ok.mod.kin.keeps I.bk
theorem Inv.lt (I : Inv X pins σ H s) : X.env.locals < s.heap.objs.size := let ⟨_, hn, _⟩ := I.loc; hn.lt
theorem Inv.sz (I : Inv X pins σ H s) : X.s₀.heap.objs.size ≤ s.heap.objs.size := Nat.le_trans I.ok.above (Nat.le_of_lt I.lt)
theorem Inv.nofs (I : Inv X pins σ H s) {a : Addr} (h : s.heap.objs.size ≤ a) : a ∉ X.fs := fun hb => by
  obtain ⟨_, o, ho, _⟩ := I.ok.funs.mem hb
  exact absurd (Nat.lt_of_lt_of_le (Heap.lt_size ho) (Nat.le_trans I.sz h)) (Nat.lt_irrefl _)
theorem Inv.cne (I : Inv X pins σ H s) : ∀ x c, X.env.cells.lookup x = some c → c ≠ X.env.locals := fun x c e z => by
  obtain ⟨v, o, ho, hd⟩ := I.cell x c e
  obtain ⟨m, ⟨o', es, ep, ho', hd', _⟩, _⟩ := I.loc
  rw [z, ho'] at ho; cases ho; rw [hd'] at hd; cases hd
theorem Inv.funs (I : Inv X pins σ H s) : s.heap.FunFrames X.base X.outer := by
  have all : ∀ (l : List Env), (∀ b ∈ frs l, b ∈ X.fs) → X.s₀.heap.FunFrames X.base l → s.heap.FunFrames X.base l := by
    intro l
    induction l with
    | nil => intro _ _; trivial
    | cons env r ih =>
      intro hs hl
      obtain ⟨hk, ⟨L, o, hf, hn, ho, hd⟩, hr⟩ := hl
      have hL : L ∈ X.fs := hs L (by unfold frs; rw [List.filterMap_cons, hf]; exact List.mem_cons_self)
      obtain ⟨sl, e⟩ := I.base.slot L o ho (I.ok.frf L hL) hL fun z => I.ok.exfs L z hL
      exact ⟨hk, ⟨L, _, hf, hn, e, hd⟩, ih (fun b hb => hs b (by unfold frs; rw [List.filterMap_cons, hf]; exact List.mem_cons_of_mem _ hb)) hr⟩
  exact all X.outer (fun _ hb => hb) I.ok.funs
theorem Inv.stack (I : Inv X pins σ H s) : s.heap.FunFrames X.base X.stack := by
  rcases I.ok.stk with e | ⟨e, hf⟩
  · rw [e]; exact I.funs
  · rw [e]
    obtain ⟨m, hn, _⟩ := I.loc
    refine .cons (by rw [I.ok.kind]; decide) hf hn ?_ I.funs
    exact Heap.get?_none_of_le (Nat.le_trans I.ok.bsz I.ok.above)
theorem Inv.stkSub (I : Inv X pins σ H s) : ∀ b ∈ frs X.stack, b ∈ X.env.locals :: X.fs := fun b hb => by
  rcases I.ok.stk with e | ⟨e, hf⟩
  · rw [e] at hb; exact List.mem_cons_of_mem _ hb
  · rw [e] at hb
    unfold frs at hb
    rw [List.filterMap_cons, hf] at hb
    exact hb
theorem Inv.stkFree (I : Inv X pins σ H s) : ∀ b ∈ frs X.stack, H b = none := fun b hb => by
  rcases List.mem_cons.mp (I.stkSub b hb) with e | hb
  · rw [e]; exact I.free
  · obtain ⟨_, o, ho, _⟩ := I.ok.funs.mem hb
    exact I.base.free b o ho (I.ok.frf b hb) fun z => I.ok.exfs b z hb
theorem Inv.step {g' : Array GenState} {t' : Nat} {d' : Drawn} {ch : List Addr} (I : Inv X pins σ H s)
    (hch : ∀ b ∈ ch, (b ∈ X.ex ∨ X.s₀.heap.objs.size ≤ b) ∧ b ≠ X.env.locals ∧ (∀ x c, X.env.cells.lookup x = some c → c ≠ b) ∧ ∀ p ∈ X.pn ++ pins, p.1 ≠ b)
    (keep : ∀ b o, b ≠ X.env.locals → b ∉ X.fs → b ∉ ch → s.heap.get? b = some o → H b = none → h'.get? b = some o)
    (slot : ∀ b o, b ≠ X.env.locals → b ∈ X.fs → b ∉ ch → s.heap.get? b = some o → H b = none → ∃ sl, h'.get? b = some { o with slots := sl }) (free : ∀ b o, b ∉ ch → s.heap.get? b = some o → H b = none → H' b = none)
    (there : ∀ b o, b ∉ ch → s.heap.get? b = some o → ∃ o', h'.get? b = some o')
    (tups : ∀ b xs, H b = some (.tup xs) → H' b = some (.tup xs)) (frzs : ∀ b o u, H b = some (.frz o u) → H' b = some (.frz o u)) (tbls : ∀ b ps, H b = some (.tbl ps) → ∃ more, H' b = some (.tbl (ps ++ more)))
    (ns : ∀ m, s.heap.Ns X.env.locals m → h'.Ns X.env.locals m) (hok : HOk X.prog X.w H' h') (hg : AllBare g') :
    Inv X pins σ H' { s with heap := h', gens := g', drawn := d', toks := t' } := by
  have neL : ∀ b o, X.s₀.heap.get? b = some o → b ≠ X.env.locals := fun b o e => Nat.ne_of_lt (Nat.lt_of_lt_of_le (Heap.lt_size e) I.ok.above)
  have neC : ∀ b o, X.s₀.heap.get? b = some o → b ∉ X.ex → b ∉ ch := fun b o e hx hb => by
    rcases (hch b hb).1 with z | z
    · exact hx z
    · exact absurd (Nat.lt_of_lt_of_le (Heap.lt_size e) z) (Nat.lt_irrefl _)
  have cellK : ∀ x c, X.env.cells.lookup x = some c → ∀ v, s.heap.IsCell c v → h'.IsCell c v := fun x c e v ⟨o, ho, hd⟩ => by
    have nch : c ∉ ch := fun z => (hch c z).2.2.1 x c e rfl
    by_cases hc : c ∈ X.fs
    · obtain ⟨sl, q⟩ := slot c o (I.cne x c e) hc nch ho (I.freeC x c e)
      exact ⟨_, q, hd⟩
    · exact ⟨o, keep c o (I.cne x c e) hc nch ho (I.freeC x c e), hd⟩
  refine ⟨I.ok, I.os, hg, ⟨fun b o e n hb hx => ?_, fun b o e n hb hx => ?_, fun b o e n hx => ?_, fun b o e hx => ?_, fun b xs e => tups b xs (I.base.tups b xs e), fun b o xs e => frzs b o xs (I.base.frzs b o xs e), fun b ps e => ?_⟩, ?_, fun x c e => ?_, ?_, fun x c e => ?_, fun p hp => ?_, hok, I.len⟩
  · exact keep b o (neL b o e) hb (neC b o e hx) (I.base.keep b o e n hb hx) (I.base.free b o e n hx)
  · obtain ⟨sl, e1⟩ := I.base.slot b o e n hb hx
    obtain ⟨sl', e2⟩ := slot b _ (neL b o e) hb (neC b o e hx) e1 (I.base.free b o e n hx)
    exact ⟨sl', e2⟩
  · obtain ⟨o', e1⟩ := I.base.there b o e hx
    exact free b o' (neC b o e hx) e1 (I.base.free b o e n hx)
  · obtain ⟨o', e1⟩ := I.base.there b o e hx
    exact there b o' (neC b o e hx) e1
  · obtain ⟨m1, e1⟩ := I.base.tbls b ps e
    obtain ⟨m2, e2⟩ := tbls b _ e1
    exact ⟨m1 ++ m2, by rw [e2, Array.append_assoc]⟩
  · obtain ⟨m, hn, hl⟩ := I.loc
    refine ⟨m, ns m hn, fun i x v e1 e2 e3 => ?_⟩
    obtain ⟨u, r, l⟩ := hl i x v e1 e2 e3
    refine ⟨u, r, ?_⟩
    rcases l with l | ⟨k, c, e, z⟩
    · exact .inl l
    · exact .inr ⟨k, c, e, cellK x c e _ z⟩
  · obtain ⟨v, z⟩ := I.cell x c e
    exact ⟨v, cellK x c e v z⟩
  · obtain ⟨m, ⟨o, _, _, ho, _⟩, _⟩ := I.loc
    exact free _ o (fun z => (hch _ z).2.1 rfl) ho I.free
  · obtain ⟨v, o, ho, hd⟩ := I.cell x c e
    exact free c o (fun z => (hch c z).2.2.1 x c e rfl) ho (I.freeC x c e)
  · obtain ⟨e, n, ne, nf, d⟩ := I.pin p hp
    have nch : p.1 ∉ ch := fun z => (hch p.1 z).2.2.2 p hp rfl
    exact ⟨keep p.1 p.2 ne nf nch e n, free p.1 p.2 nch e n, ne, nf, d⟩
theorem Inv.un {t' : Nat} (I : Inv X pins σ H s) (u : Un X.fs [] H H' s.heap h') (hok : HOk X.prog X.w H' h') : Inv X pins σ H' { s with heap := h', toks := t' } := by
  obtain ⟨m, ⟨o, es, ep, ho, r⟩, _⟩ := id I.loc
  obtain ⟨sl, hL⟩ := u.any ho I.free (by simp)
  exact I.step (g' := s.gens) (d' := s.drawn) (ch := []) (fun _ z => nomatch z) (fun b o _ hb _ e n => u.keep b o e n hb (by simp)) (fun b o _ hb _ e n => u.slot b o e n hb (by simp)) (fun b o _ e n => u.free b o e n (by simp)) (fun b o _ e => u.there b o e (by simp)) u.tups u.frzs u.tbls (fun m' hm => by
    obtain ⟨o', es', ep', ho', r'⟩ := hm
    rw [ho] at ho'; cases ho'
    exact ⟨_, es', ep', hL, r'⟩) hok I.bare
theorem Inv.call {g' : Array GenState} {t' : Nat} {d' : Drawn} {ch : List Addr} (I : Inv X pins σ H s) (u : Un (frs X.stack) ch H H' s.heap h') (hok : HOk X.prog X.w H' h') (hg : AllBare g')
    (hch : ∀ b ∈ ch, (b ∈ X.ex ∨ X.s₀.heap.objs.size ≤ b) ∧ b ≠ X.env.locals ∧ (∀ x c, X.env.cells.lookup x = some c → c ≠ b) ∧ ∀ p ∈ X.pn ++ pins, p.1 ≠ b) :
    Inv X pins σ H' { s with heap := h', gens := g', drawn := d', toks := t' } := by
  obtain ⟨m, ⟨o, es, ep, ho, r⟩, _⟩ := id I.loc
  obtain ⟨sl, hL⟩ := u.any ho I.free fun z => (hch _ z).2.1 rfl
  exact I.step (ch := ch) hch (fun b o hL hb hc e n => u.keep b o e n (fun z => (List.mem_cons.mp (I.stkSub b z)).elim hL hb) hc) (fun b o _ _ hc e n => u.any e n hc) (fun b o hc e n => u.free b o e n hc) (fun b o hc e => u.there b o e hc) u.tups u.frzs u.tbls (fun m' hm => by
    obtain ⟨o', es', ep', ho', r'⟩ := hm
    rw [ho] at ho'; cases ho'
    exact ⟨_, es', ep', hL, r'⟩) hok hg
theorem Inv.turned {t' : Nat} {it : Addr} (I : Inv X pins σ H s) (k : ∀ b o, b ≠ it → s.heap.get? b = some o → h'.get? b = some o) (hn : H it = none) (hL : it ≠ X.env.locals)
    (h1 : it ∈ X.ex ∨ X.s₀.heap.objs.size ≤ it) (h2 : ∀ x c, X.env.cells.lookup x = some c → c ≠ it) (h3 : ∀ p ∈ X.pn ++ pins, p.1 ≠ it) : Inv X pins σ H { s with heap := h', toks := t' } := by
  have nit : ∀ b u, H b = some u → b ≠ it := fun b u e z => by rw [z, hn] at e; cases e
  refine I.step (g' := s.gens) (d' := s.drawn) (ch := [it]) (fun b hb => ?_) (fun b o _ _ hc e _ => k b o (fun z => hc (by simp [z])) e) (fun b o _ _ hc e _ => ⟨o.slots, k b o (fun z => hc (by simp [z])) e⟩) (fun _ _ _ _ n => n)
    (fun b o hc e => ⟨o, k b o (fun z => hc (by simp [z])) e⟩) (fun _ _ e => e) (fun _ _ _ e => e) (fun b ps e => ⟨#[], by rw [e]; simp⟩) (fun m hm => ?_) (fun b u e => ?_) I.bare
  · have e : b = it := by simpa using hb
    subst e
    exact ⟨h1, hL, h2, h3⟩
  · obtain ⟨o, es, ep, ho, r⟩ := hm
    exact ⟨o, es, ep, k _ o (Ne.symm hL) ho, r⟩
  · refine (I.hok b u e).stay (fun c v hc q => k c v ?_ q) (fun _ q => q) fun _ _ q => q
    rcases hc with z | z
    · rw [z]; exact nit b u e
    · exact nit c _ z
theorem Inv.tok (I : Inv X pins σ H s) (t : Nat) : Inv X pins σ H { s with toks := t } := I.un (h' := s.heap) (t' := t) Un.refl I.hok
theorem Inv.kept {t' : Nat} (I : Inv X pins σ H s) (k : ∀ b u, s.heap.get? b = some u → h'.get? b = some u) : Inv X pins σ H { s with heap := h', toks := t' } := I.un (Un.kept k) (I.hok.kept k)
theorem Inv.laid {a : Addr} {o : HO} {t' : Nat} (I : Inv X pins σ H s) (k : ∀ b u, s.heap.get? b = some u → h'.get? b = some u) (hp : s.heap.objs.size ≤ a) (new : ObjOk X.prog X.w (upd H a o) h' a o) :
    Inv X pins σ (upd H a o) { s with heap := h', toks := t' } := I.un (Un.laid k hp (I.hok.fresh hp)) (I.hok.laid k hp new)
theorem Inv.write {x e : Addr} {o : HO} {t' : Nat} (I : Inv X pins σ H s) (mu : Mut (H x)) (he : e = x ∨ H e = some (.own x)) (k : ∀ b u, b ≠ e → s.heap.get? b = some u → h'.get? b = some u) (heo : ∃ u, h'.get? e = some u)
    (new : ObjOk X.prog X.w (upd H x o) h' x o) : Inv X pins σ (upd H x o) { s with heap := h', toks := t' } := I.un (Un.write mu he k heo) (I.hok.write mu he k heo new)
theorem Inv.pins_of {pins' : List (Addr × Obj)} (I : Inv X pins σ H s) (h : ∀ p ∈ pins', s.heap.get? p.1 = some p.2 ∧ H p.1 = none ∧ p.1 ≠ X.env.locals ∧ p.1 ∉ X.fs ∧ ∀ v, p.2.data ≠ .cell v) : Inv X pins' σ H s :=
  ⟨I.ok, I.os, I.bare, I.base, I.loc, I.cell, I.free, I.freeC, fun p hp => (List.mem_append.mp hp).elim (fun z => I.pin p (List.mem_append_left _ z)) (h p), I.hok, I.len⟩
theorem nodup_ix {N : List Str} (hN : N.Nodup) {i j : Nat} {x : Str} (a : N[i]? = some x) (b : N[j]? = some x) : i = j := by
  obtain ⟨h1, e1⟩ := List.getElem?_eq_some_iff.mp a
  obtain ⟨h2, e2⟩ := List.getElem?_eq_some_iff.mp b
  exact (List.getElem_inj hN).mp (e1.trans e2.symm)
theorem store_ok2 {M : Model} {A : Around} {E : Value → Shared → Prop} {i : Nat} {x : Str} {v : V} {u : Value} {Q : Unit → Shared → Prop} (I : Inv X pins σ H s) (hN : X.N.Nodup) (hi : X.N[i]? = some x) (hx : Loc X.env.scope x) (r : RelV v u)
    (h : ∀ s', Inv X pins (σ.set i (some v)) H s' → (∃ a, Heap.SameBut a s.heap s'.heap ∧ (a = X.env.locals ∨ X.env.cells.lookup x = some a)) → Q () s') (hf : X.fn x = true ∨ X.env.scope.names.lookup x = some .local := by first | exact .inl rfl | exact .inr rfl | assumption) : wpAny M A (storeName X.env x u) Q E s := by
  obtain ⟨m, hn, hl⟩ := id I.loc
  have hcls : (X.env.scope.kind == .class || (X.env.scope.kind == .module && X.env.locals != X.env.globals)) = false := by rw [I.ok.kind]; rfl
  have hiσ : i < σ.length := by rw [I.len]; exact (List.getElem?_eq_some_iff.mp hi).1
  have cne := I.cne
  have tracked : ∀ {a : Addr} {h' : Heap}, (∃ o, s.heap.get? a = some o ∧ H a = none) → Heap.SameBut a s.heap h' → HOk X.prog X.w H h' := fun {a h'} ha hs b ob e => by
    obtain ⟨_, _, hfree⟩ := ha
    refine (I.hok b ob e).stay (fun c w' hc q => (hs.2 c ?_).trans q) (fun _ q => q) fun _ _ q => q
    rintro rfl
    rcases hc with rfl | hc
    · rw [hfree] at e; cases e
    · rw [hfree] at hc; cases hc
  rcases hx with hk | hk
  · refine wpAny_storeName_local hk hn (fun h' hn' hs => ?_) hcls
    obtain ⟨oL, _, _, hoL, _⟩ := id hn
    refine h _ ⟨I.ok, I.os, I.bare, ⟨fun b o e n hb hx => ?_, fun b o e n hb hx => ?_, I.base.free, fun b o e hx => ?_, I.base.tups, I.base.frzs, I.base.tbls⟩, ⟨_, hn', fun j y v' e1 e2 e3 => ?_⟩, fun y c e => ?_, I.free, I.freeC, fun p hp => ?_, tracked ⟨oL, hoL, I.free⟩ hs, by simpa using I.len⟩ ⟨_, hs, .inl rfl⟩
    · exact (hs.2 b (Nat.ne_of_lt (Nat.lt_of_lt_of_le (Heap.lt_size e) I.ok.above))).trans (I.base.keep b o e n hb hx)
    · obtain ⟨sl, e1⟩ := I.base.slot b o e n hb hx
      exact ⟨sl, (hs.2 b (Nat.ne_of_lt (Nat.lt_of_lt_of_le (Heap.lt_size e) I.ok.above))).trans e1⟩
    · obtain ⟨o', e1⟩ := I.base.there b o e hx
      exact ⟨o', (hs.2 b (Nat.ne_of_lt (Nat.lt_of_lt_of_le (Heap.lt_size e) I.ok.above))).trans e1⟩
    · by_cases hj : j = i
      · subst hj
        rw [hi] at e1; cases e1
        rw [List.getElem?_set_self hiσ] at e2
        cases e2
        exact ⟨u, r, .inl ⟨hk, by simp⟩⟩
      · rw [List.getElem?_set_ne (Ne.symm hj)] at e2
        obtain ⟨u', r', q⟩ := hl j y v' e1 e2 e3
        refine ⟨u', r', ?_⟩
        rcases q with ⟨k, e⟩ | ⟨k, c, e, z⟩
        · refine .inl ⟨k, ?_⟩
          have : y ≠ x := fun e => hj (nodup_ix hN e1 (e ▸ hi))
          simp [this, e]
        · exact .inr ⟨k, c, e, z.sameBut hs (cne y c e)⟩
    · obtain ⟨w', z⟩ := I.cell y c e
      exact ⟨w', z.sameBut hs (cne y c e)⟩
    · obtain ⟨e, n, ne, nf, d⟩ := I.pin p hp
      exact ⟨(hs.2 p.1 ne).trans e, n, ne, nf, d⟩
  · have hfn : X.fn x = true := by
      rcases hf with z | z
      · exact z
      · rw [z] at hk; cases hk
    obtain ⟨c, hc⟩ := I.ok.has x (.inl hk)
    obtain ⟨w', z⟩ := I.cell x c hc
    refine wpAny_storeName_cell I.ok.kind hk hc z (fun h' hc' hs => ?_)
    obtain ⟨oc, hoc, hocd⟩ := id z
    refine h { s with heap := h' } ⟨I.ok, I.os, I.bare, ⟨fun b o e n hb hx => ?_, fun b o e n hb hx => ?_, I.base.free, fun b o e hx => ?_, I.base.tups, I.base.frzs, I.base.tbls⟩, ⟨m, hn.sameBut hs (Ne.symm (cne x c hc)), fun j y v' e1 e2 e3 => ?_⟩, fun y c' e => ?_, I.free, I.freeC, fun p hp => ?_, tracked ⟨oc, hoc, I.freeC x c hc⟩ hs, by simpa using I.len⟩ ⟨c, hs, .inr hc⟩
    · exact (hs.2 b (Nat.ne_of_lt (Nat.lt_of_lt_of_le (Heap.lt_size e) (I.ok.cab x c hfn hc)))).trans (I.base.keep b o e n hb hx)
    · obtain ⟨sl, e1⟩ := I.base.slot b o e n hb hx
      exact ⟨sl, (hs.2 b (Nat.ne_of_lt (Nat.lt_of_lt_of_le (Heap.lt_size e) (I.ok.cab x c hfn hc)))).trans e1⟩
    · obtain ⟨o', e1⟩ := I.base.there b o e hx
      exact ⟨o', (hs.2 b (Nat.ne_of_lt (Nat.lt_of_lt_of_le (Heap.lt_size e) (I.ok.cab x c hfn hc)))).trans e1⟩
    · by_cases hj : j = i
      · subst hj
        rw [hi] at e1; cases e1
        rw [List.getElem?_set_self hiσ] at e2
        cases e2
        exact ⟨u, r, .inr ⟨.inl hk, c, hc, hc'⟩⟩
      · rw [List.getElem?_set_ne (Ne.symm hj)] at e2
        obtain ⟨u', r', q⟩ := hl j y v' e1 e2 e3
        refine ⟨u', r', ?_⟩
        rcases q with q | ⟨k, c', e, z'⟩
        · exact .inl q
        · refine .inr ⟨k, c', e, z'.sameBut hs ?_⟩
          rintro rfl
          exact hj (nodup_ix hN e1 (I.ok.inj _ _ _ e hc ▸ hi))
    · by_cases hcc : c' = c
      · subst hcc; exact ⟨_, hc'⟩
      · obtain ⟨w2, z2⟩ := I.cell y c' e
        exact ⟨w2, z2.sameBut hs hcc⟩
    · obtain ⟨e, n, ne, nf, d⟩ := I.pin p hp
      refine ⟨(hs.2 p.1 ?_).trans e, n, ne, nf, d⟩
      intro q
      rw [q, hoc] at e
      have q' : oc = p.2 := Option.some.inj e
      exact d w' (by rw [← q']; exact hocd)
theorem store_ok {M : Model} {A : Around} {E : Value → Shared → Prop} {i : Nat} {x : Str} {v : V} {u : Value} {Q : Unit → Shared → Prop} (I : Inv X pins σ H s) (hN : X.N.Nodup) (hi : X.N[i]? = some x) (hx : Loc X.env.scope x) (r : RelV v u)
    (h : ∀ s', Inv X pins (σ.set i (some v)) H s' → Q () s') (hf : X.fn x = true ∨ X.env.scope.names.lookup x = some .local := by first | exact .inl rfl | exact .inr rfl | assumption) : wpAny M A (storeName X.env x u) Q E s :=
  store_ok2 I hN hi hx r (fun s' I' _ => h s' I') hf
theorem Inv.call' {s' : Shared} {ch : List Addr} (I : Inv X pins σ H s) (ho : s'.os = s.os) (u : Un (frs X.stack) ch H H' s.heap s'.heap) (hok : HOk X.prog X.w H' s'.heap) (hg : AllBare s'.gens)
    (hch : ∀ b ∈ ch, (b ∈ X.ex ∨ X.s₀.heap.objs.size ≤ b) ∧ b ≠ X.env.locals ∧ (∀ x c, X.env.cells.lookup x = some c → c ≠ b) ∧ ∀ p ∈ X.pn ++ pins, p.1 ≠ b) : Inv X pins σ H' s' := by
  obtain ⟨h', g', d', t', o'⟩ := s'
  have e : o' = s.os := ho
  subst e
  exact I.call (g' := g') (t' := t') (d' := d') u hok hg hch
end
noncomputable abbrev XK := Value → Option Addr → Hp → Prop
noncomputable abbrev St := List (Option V)
noncomputable abbrev VK := V → Hp → Prop
noncomputable abbrev TE := St → Hp → VK → Prop
noncomputable abbrev TT := St → Hp → (Bool → Hp → Prop) → Prop
noncomputable abbrev TA := St → Hp → (List V → Hp → Prop) → Prop
structure Ends where
  nx : St → Hp → Prop
  rt : VK
  bk : St → Hp → Prop := fun _ _ => False
  ct : St → Hp → Prop := fun _ _ => False
noncomputable abbrev TS := Ends → St → Hp → Prop
noncomputable def EP (X : Cx) (pins : List (Addr × Obj)) (σ : St) (Q : VK) (u : Value) (s' : Shared) : Prop := ∃ v H', Inv X pins σ H' s' ∧ RelV v u ∧ Q v H'
noncomputable def TP (X : Cx) (pins : List (Addr × Obj)) (σ : St) (Q : Bool → Hp → Prop) (b : Bool) (s' : Shared) : Prop := ∃ H', Inv X pins σ H' s' ∧ Q b H'
noncomputable def AP (X : Cx) (pins : List (Addr × Obj)) (σ : St) (Q : List V → Hp → Prop) (us : List Value) (s' : Shared) : Prop := ∃ vs H', Inv X pins σ H' s' ∧ Vals vs us ∧ Q vs H'
noncomputable def SP (X : Cx) (pins : List (Addr × Obj)) (D : Ends) (f : Flow) (s' : Shared) : Prop :=
  match f with
  | .next => ∃ σ' H', Inv X pins σ' H' s' ∧ D.nx σ' H'
  | .brk => ∃ σ' H', Inv X pins σ' H' s' ∧ D.bk σ' H'
  | .cont => ∃ σ' H', Inv X pins σ' H' s' ∧ D.ct σ' H'
  | .ret u => ∃ v σ' H', Inv X pins σ' H' s' ∧ RelV v u ∧ D.rt v H'
noncomputable def PE (X : Cx) (e : Expr) (t : TE) : Prop :=
  ∀ (pins : List (Addr × Obj)) (s : Shared) (σ : St) (H : Hp) (Q : VK), Inv X pins σ H s → t σ H Q → wpAny (model X.prog X.w) X.A (eval e X.env) (EP X pins σ Q) X.xe s
noncomputable def PT (X : Cx) (e : Expr) (t : TT) : Prop :=
  ∀ (pins : List (Addr × Obj)) (s : Shared) (σ : St) (H : Hp) (Q : Bool → Hp → Prop), Inv X pins σ H s → t σ H Q → wpAny (model X.prog X.w) X.A (isTrue e X.env (eval e X.env)) (TP X pins σ Q) X.xe s
noncomputable def PW (X : Cx) (e : Expr) (t : TT) : Prop :=
  ∀ (whole : Sem Value) (pins : List (Addr × Obj)) (s : Shared) (σ : St) (H : Hp) (Q : Bool → Hp → Prop), Inv X pins σ H s → t σ H Q → wpAny (model X.prog X.w) X.A (isTrue e X.env whole) (TP X pins σ Q) X.xe s
theorem PW.pt {X : Cx} {e : Expr} {t : TT} (h : PW X e t) : PT X e t := h _
noncomputable def PA (X : Cx) (es : List Expr) (t : TA) : Prop :=
  ∀ (pos : Pos) (pins : List (Addr × Obj)) (s : Shared) (σ : St) (H : Hp) (Q : List V → Hp → Prop), Inv X pins σ H s → t σ H Q → wpAny (model X.prog X.w) X.A (spliced (backTo pos (starEach es X.env))) (AP X pins σ Q) X.xe s
noncomputable def PS (X : Cx) (st : Stmt) (t : TS) : Prop :=
  ∀ (pins : List (Addr × Obj)) (s : Shared) (σ : St) (H : Hp) (D : Ends), Inv X pins σ H s → t D σ H → wpAny (model X.prog X.w) X.A (exec st X.env) (SP X pins D) X.xe s
noncomputable def PSs (X : Cx) (st : List Stmt) (t : TS) : Prop :=
  ∀ (pins : List (Addr × Obj)) (s : Shared) (σ : St) (H : Hp) (D : Ends), Inv X pins σ H s → t D σ H → wpAny (model X.prog X.w) X.A (execs st X.env) (SP X pins D) X.xe s
theorem thn {α : Type} {t : Sem α} {Q Q' : α → Shared → Prop} {M : Model} {A : Around} {E : Value → Shared → Prop} {s : Shared} (h : wpAny M A t Q E s) (hQ : ∀ a s, Q a s → Q' a s) : wpAny M A t Q' E s := wpAny_mono h hQ fun _ _ x => x
end L2
namespace L2
open PySem PySem.Spec PyProof.Rows
section
variable {X : Cx}
theorem bin {a b : Expr} {ta tb : TE} (ha : PE X a ta) (hb : PE X b tb) {pins : List (Addr × Obj)} {s : Shared} {σ : St} {H : Hp} {R : V → V → Hp → Prop} (I : Inv X pins σ H s) (h : ta σ H fun x H1 => tb σ H1 fun y H2 => R x y H2)
    {α : Type} {Q : α → Shared → Prop} {f : Value → Value → Sem α}
    (hf : ∀ v u s2 x y H2, Inv X pins σ H2 s2 → RelV x v → RelV y u → R x y H2 → wpAny (model X.prog X.w) X.A (f v u) Q X.xe s2) :
    wpAny (model X.prog X.w) X.A (eval a X.env) (fun v s₁ => wpAny (model X.prog X.w) X.A (eval b X.env) (fun u s₂ => wpAny (model X.prog X.w) X.A (f v u) Q X.xe s₂) X.xe s₁) X.xe s := by
  refine thn (ha pins s σ H _ I h) fun v s1 ⟨x, H1, I1, r1, q1⟩ => ?_
  refine thn (hb pins s1 σ H1 _ I1 q1) fun u s2 ⟨y, H2, I2, r2, q2⟩ => ?_
  exact hf v u s2 x y H2 I2 r1 r2 q2
noncomputable def tVar (i : Nat) : TE := fun σ H Q => ∃ v, σ[i]? = some (some v) ∧ Q v H
noncomputable def tC (v : V) : TE := fun _ H Q => Q v H
theorem pe_var {i : Nat} {x : Str} {pos : Pos} (hN : X.N[i]? = some x) (hv : Vis X.env.scope x) (hd : (x == ("__debug__" : Str)) = false := by decide) (hcd : (x == ("__classdict__" : Str)) = false := by decide) : PE X (.Name x pos) (tVar i) := by
  intro pins s σ H Q I h
  obtain ⟨v, e, h⟩ := h
  obtain ⟨m, hn, hl⟩ := I.loc
  obtain ⟨u, r, l⟩ := hl i x v hN e hv
  have fin : EP X pins σ Q u s := ⟨v, H, I, r, h⟩
  rcases l with ⟨hk, hm⟩ | ⟨hk, c, hc, hcell⟩
  · exact wpAny_Name (wpAny_loadName_local I.ok.kind hk hn hm fin) hd
  · rcases hk with hk | hk
    · exact wpAny_Name (wpAny_loadName_cell I.ok.kind hk hc hcell fin) hd
    · exact wpAny_Name (wpAny_loadName_free I.ok.kind hk hc hcell fin hcd) hd
theorem pe_int {i j pos} : PE X (.Constant (.int i) j pos) (tC (.int i)) := fun _ _ _ H _ I h => wpAny_Constant_int ⟨.int i, H, I.tok _, ⟨_, rfl⟩, h⟩
theorem pe_bl {b j pos} : PE X (.Constant (.bool b) j pos) (tC (.bl b)) := fun _ _ _ H _ I h => Constant_bool ⟨.bl b, H, I, rfl, h⟩
theorem pe_non {j pos} : PE X (.Constant .none j pos) (tC .non) := fun _ _ _ H _ I h => Constant_none ⟨.non, H, I, rfl, h⟩
theorem pe_str {x j pos} : PE X (.Constant (.str x) j pos) (tC (.str x)) := fun _ _ _ H _ I h => Calls.Constant_str ⟨.str x, H, I.tok _, ⟨_, rfl⟩, h⟩
noncomputable def Gl (X : Cx) (x : Str) : Prop := X.env.kindOf x = some .globalImplicit
theorem ld_glob {E : Value → Shared → Prop} {pins : List (Addr × Obj)} {s : Shared} {σ : St} {H : Hp} {x : Str} {u : Value} {pos : Pos} {Q : Value → Shared → Prop} (I : Inv X pins σ H s) (hg : Gl X x) (hm : X.mg x = some u) (h : Q u s)
    (hd : (x == ("__debug__" : Str)) = false := by decide) : wpAny (model X.prog X.w) X.A (eval (.Name x pos) X.env) Q E s :=
  Calls.Name_function_global I.ok.kind hg (Calls.loadGlobal_global (by rw [I.ok.glob]; exact I.mod.glob.keeps I.bk) hm h) hd
theorem ld_blt {E : Value → Shared → Prop} {pins : List (Addr × Obj)} {s : Shared} {σ : St} {H : Hp} {x : Str} {u : Value} {pos : Pos} {Q : Value → Shared → Prop} (I : Inv X pins σ H s) (hg : Gl X x) (hm : X.mg x = none) (hv : bootBuiltins x = some u) (h : Q u s)
    (hn : x ≠ "__name__" := by decide) (hd : (x == ("__debug__" : Str)) = false := by decide) : wpAny (model X.prog X.w) X.A (eval (.Name x pos) X.env) Q E s := by
  obtain ⟨mb, h1, h2⟩ := I.mod.blt
  exact Calls.Name_function_global I.ok.kind hg (Calls.loadGlobal_builtin (by rw [I.ok.glob]; exact I.mod.glob.keeps I.bk) hm (by rw [I.ok.blt]; exact h1.keeps I.bk) ((h2 x hn).trans hv) h) hd
theorem pe_glob {x : Str} {v : V} {u : Value} {pos : Pos} (hg : Gl X x) (hm : X.mg x = some u) (r : RelV v u) (hd : (x == ("__debug__" : Str)) = false := by decide) : PE X (.Name x pos) (tC v) :=
  fun _ _ _ H _ I h => ld_glob I hg hm ⟨v, H, I, r, h⟩ hd
theorem pe_bltn {x : Str} {v : V} {u : Value} {pos : Pos} (hg : Gl X x) (hm : X.mg x = none) (hv : bootBuiltins x = some u) (r : RelV v u) (hn : x ≠ "__name__" := by decide) (hd : (x == ("__debug__" : Str)) = false := by decide) : PE X (.Name x pos) (tC v) :=
  fun _ _ _ H _ I h => ld_blt I hg hm hv ⟨v, H, I, r, h⟩ hn hd
variable {a b : Expr} {ta tb : TE} {pos : Pos}
noncomputable def PC (X : Cx) (op : CmpOp) (a b : Expr) (t : TE) : Prop :=
  ∀ (pins : List (Addr × Obj)) (s : Shared) (σ : St) (H : Hp) (Q : VK), Inv X pins σ H s → t σ H Q →
    wpAny (model X.prog X.w) X.A (eval a X.env) (fun v s₁ => wpAny (model X.prog X.w) X.A (eval b X.env) (fun u s₂ => wpAny (model X.prog X.w) X.A (compareOp op v u) (EP X pins σ Q) X.xe s₂) X.xe s₁) X.xe s
noncomputable def tB (t : TE) : TT := fun σ H Q => t σ H fun x H1 => ∃ c, x = .bl c ∧ Q c H1
theorem pe_cmp {op : CmpOp} {t : TE} (h : PC X op a b t) (h1 : behindInMarks op b = false := by first | exact nobehind _ (by decide) (by decide) | rfl) : PE X (.Compare a [op] [b] pos) t := fun pins s σ H Q I hw => wpAny_Compare1 (h pins s σ H Q I hw) h1
theorem pt_cmp {op : CmpOp} {t : TE} (h : PC X op a b t) (h1 : behindInMarks op b = false := by first | exact nobehind _ (by decide) (by decide) | rfl) : PT X (.Compare a [op] [b] pos) (tB t) := by
  intro pins s σ H Q I hw
  refine wpAny_isTrue_Compare1 (thn (h pins s σ H _ I hw) fun v s1 h1 => thn h1 fun u s2 h2 => thn h2 fun c s3 ⟨x, H1, I1, r1, q1⟩ => ?_) h1
  obtain ⟨d, rfl, q⟩ := q1
  cases r1
  exact wpAny_truthy_bool ⟨H1, I1, q⟩
theorem pt_val {e : Expr} {t : TE} (h : PE X e t) (he : ∀ whole, isTrue e X.env whole = (do let v ← whole; standAt e.pos; holding [v] (truthy v)) := by intro _; rfl) : PT X e (tB t) := by
  intro pins s σ H Q I hw
  refine isTrue_plain (thn (h pins s σ H _ I hw) fun v s1 ⟨x, H1, I1, r1, q1⟩ => ?_) (he _)
  obtain ⟨d, rfl, q⟩ := q1
  cases r1
  exact wpAny_truthy_bool ⟨H1, I1, q⟩
variable {tA tB' : TT} {rest : List Expr}
noncomputable def tAnd (t u : TT) : TT := fun σ H Q => t σ H fun c H1 => if c = true then u σ H1 Q else Q false H1
noncomputable def tOr (t u : TT) : TT := fun σ H Q => t σ H fun c H1 => if c = true then Q true H1 else u σ H1 Q
noncomputable def tNot (t : TT) : TT := fun σ H Q => t σ H fun c H1 => Q (!c) H1
theorem pw_and1 (ha : PT X a tA) : PW X (.BoolOp .And [a] pos) tA := by
  intro wh pins s σ H Q I h
  refine isTrue_and (thn (ha pins s σ H Q I h) fun c s1 e => ?_)
  cases c with
  | true => exact isTrue_and_nil e
  | false => exact e
theorem pw_or1 (ha : PT X a tA) : PW X (.BoolOp .Or [a] pos) tA := by
  intro wh pins s σ H Q I h
  refine isTrue_or (thn (ha pins s σ H Q I h) fun c s1 e => ?_)
  cases c with
  | false => exact isTrue_or_nil e
  | true => exact e
theorem pw_and (ha : PT X a tA) (hb : PW X (.BoolOp .And (b :: rest) pos) tB') : PW X (.BoolOp .And (a :: b :: rest) pos) (tAnd tA tB') := by
  intro wh pins s σ H Q I h
  refine isTrue_and (thn (ha pins s σ H _ I h) fun c s1 ⟨H1, I1, q1⟩ => ?_)
  cases c with
  | true => exact hb wh pins s1 σ H1 Q I1 q1
  | false => exact ⟨H1, I1, q1⟩
theorem pw_or (ha : PT X a tA) (hb : PW X (.BoolOp .Or (b :: rest) pos) tB') : PW X (.BoolOp .Or (a :: b :: rest) pos) (tOr tA tB') := by
  intro wh pins s σ H Q I h
  refine isTrue_or (thn (ha pins s σ H _ I h) fun c s1 ⟨H1, I1, q1⟩ => ?_)
  cases c with
  | true => exact ⟨H1, I1, q1⟩
  | false => exact hb wh pins s1 σ H1 Q I1 q1
theorem pt_not (ha : PT X a tA) : PT X (.UnaryOp .Not a pos) (tNot tA) := by
  intro pins s σ H Q I h
  exact isTrue_not (ha pins s σ H (fun c H1 => Q (!c) H1) I h)
noncomputable def tAndV (ta tb : TE) : TE := fun σ H Q => ta σ H fun x H1 => ∃ c, x = .bl c ∧ if c = true then tb σ H1 Q else Q (.bl false) H1
noncomputable def tOrV (ta tb : TE) : TE := fun σ H Q => ta σ H fun x H1 => ∃ c, x = .bl c ∧ if c = true then Q (.bl true) H1 else tb σ H1 Q
noncomputable def tNotV (ta : TE) : TE := fun σ H Q => ta σ H fun x H1 => ∃ c, x = .bl c ∧ Q (.bl (!c)) H1
theorem pe_one {op} {t : TE} (h : PE X a t) : PE X (.BoolOp op [a] pos) t := fun pins s σ H Q I hw => BoolOp_one (h pins s σ H Q I hw)
theorem pe_and (ha : PE X a ta) (hb : PE X (.BoolOp .And (b :: rest) pos) tb) : PE X (.BoolOp .And (a :: b :: rest) pos) (tAndV ta tb) := by
  intro pins s σ H Q I h
  refine BoolOp_and (thn (ha pins s σ H _ I h) fun v s1 ⟨x, H1, I1, r1, q1⟩ => ?_)
  obtain ⟨c, rfl, q1⟩ := q1
  cases r1
  refine wpAny_truthy_bool ?_
  cases c with
  | true => exact hb pins s1 σ H1 Q I1 q1
  | false => exact ⟨.bl false, H1, I1, rfl, q1⟩
theorem pe_or (ha : PE X a ta) (hb : PE X (.BoolOp .Or (b :: rest) pos) tb) : PE X (.BoolOp .Or (a :: b :: rest) pos) (tOrV ta tb) := by
  intro pins s σ H Q I h
  refine BoolOp_or (thn (ha pins s σ H _ I h) fun v s1 ⟨x, H1, I1, r1, q1⟩ => ?_)
  obtain ⟨c, rfl, q1⟩ := q1
  cases r1
  refine wpAny_truthy_bool ?_
  cases c with
  | false => exact hb pins s1 σ H1 Q I1 q1
  | true => exact ⟨.bl true, H1, I1, rfl, q1⟩
theorem pe_not (ha : PE X a ta) : PE X (.UnaryOp .Not a pos) (tNotV ta) := by
  intro pins s σ H Q I h
  refine UnaryOp_ (thn (ha pins s σ H _ I h) fun v s1 ⟨x, H1, I1, r1, q1⟩ => ?_)
  obtain ⟨c, rfl, q1⟩ := q1
  cases r1
  exact not_of (wpAny_truthy_bool ⟨.bl (!c), H1, I1, rfl, q1⟩)
end
end L2
namespace L2
open PySem PySem.Spec PyProof.Rows
noncomputable def SqL (K : PySem.W.Frag) (H : Hp) (a : Addr) (xs : List V) : Prop :=
  Rd H a (.lst xs) ∨
    ∃ (o : Obj) (its : Array Value) (n : Nat), K.lookup a = some o ∧ o.cls = .type "list" ∧ o.dict = none ∧ o.data = .seq its n ∧ its.size ≤ sizeLine ∧ Vals xs its.toList
noncomputable def SqT (K : PySem.W.Frag) (H : Hp) (a : Addr) (xs : List V) : Prop :=
  Rd H a (.tup xs) ∨
    ∃ (o : Obj) (its : Array Value) (n : Nat), K.lookup a = some o ∧ o.cls = .type "tuple" ∧ o.data = .seq its n ∧ its.size ≤ sizeLine ∧ Vals xs its.toList
noncomputable def absV : Value → Option V
  | .none => some .non
  | .bool b => some (.bl b)
  | .int i _ => some (.int i)
  | .str x _ => some (.str x)
  | .bytes b _ => some (.byt b)
  | .float b _ => some (.flt b)
  | .ref a => some (.ref a)
  | .type n => some (.ty n)
  | _ => none
theorem RelV.abs {x : V} {u : Value} (r : RelV x u) : absV u = some x := by
  cases x with
  | non => cases r; rfl
  | bl _ => cases r; rfl
  | int _ => obtain ⟨t, rfl⟩ := r; rfl
  | str _ => obtain ⟨t, rfl⟩ := r; rfl
  | byt _ => obtain ⟨t, rfl⟩ := r; rfl
  | flt _ => obtain ⟨t, rfl⟩ := r; rfl
  | ref _ => cases r; rfl
  | ty _ => cases r; rfl
theorem RelV.inj {x y : V} {u : Value} (r : RelV x u) (q : RelV y u) : x = y := Option.some.inj (r.abs.symm.trans q.abs)
theorem Vals.inj : ∀ {xs ys : List V} {us : List Value}, Vals xs us → Vals ys us → xs = ys := by
  intro xs ys us h
  induction h generalizing ys with
  | nil => intro q; cases q; rfl
  | cons r t ih =>
    intro q
    cases q with
    | cons r' t' => rw [r.inj r', ih t']
section
variable {X : Cx} {pins : List (Addr × Obj)} {σ : St} {H : Hp} {s : Shared} {a : Addr} {xs ys : List V}
theorem SqL.of {K : PySem.W.Frag} (h : H a = some (.lst xs)) : SqL K H a xs := .inl (.inl h)
theorem SqT.of {K : PySem.W.Frag} (h : H a = some (.tup xs)) : SqT K H a xs := .inl (.inl h)
theorem Inv.list (I : Inv X pins σ H s) (h : SqL X.K H a xs) : ∃ its : List Value, Vals xs its ∧ PlainL s.heap a its.toArray ∧ xs.length ≤ sizeLine := by
  rcases h with h | ⟨o, its, n, hk, hc, hd, hs, hz, r⟩
  · obtain ⟨z, its, n, r, e⟩ := h.ok I.hok
    exact ⟨its, r, ⟨_, n, e, rfl, rfl, rfl⟩, z⟩
  · refine ⟨its.toList, r, ⟨o, n, I.kIn a o hk, hc, hd, by simpa using hs⟩, ?_⟩
    have e := r.length
    simp only [Array.length_toList] at e
    omega
theorem Inv.tuple (I : Inv X pins σ H s) (h : SqT X.K H a xs) : ∃ its : List Value, Vals xs its ∧ IsTup s.heap a its.toArray ∧ xs.length ≤ sizeLine := by
  rcases h with h | ⟨o, its, n, hk, hc, hs, hz, r⟩
  · obtain ⟨z, its, r, p⟩ := h.ok I.hok
    exact ⟨its, r, p, z⟩
  · refine ⟨its.toList, r, ⟨o, I.kIn a o hk, hc, n, by simpa using hs⟩, ?_⟩
    have e := r.length
    simp only [Array.length_toList] at e
    omega
theorem Inv.list_inj (I : Inv X pins σ H s) (h : SqL X.K H a xs) (h' : SqL X.K H a ys) : xs = ys := by
  obtain ⟨its, r, ⟨o, n, e, _, _, d⟩, _⟩ := I.list h
  obtain ⟨its', r', ⟨o', n', e', _, _, d'⟩, _⟩ := I.list h'
  rw [e] at e'; cases e'
  rw [d] at d'
  injection d' with d1 _
  have : its = its' := by simpa using congrArg Array.toList d1
  subst this
  exact r.inj r'
theorem Inv.tuple_inj (I : Inv X pins σ H s) (h : SqT X.K H a xs) (h' : SqT X.K H a ys) : xs = ys := by
  obtain ⟨its, r, ⟨o, e, _, n, d⟩, _⟩ := I.tuple h
  obtain ⟨its', r', ⟨o', e', _, n', d'⟩, _⟩ := I.tuple h'
  rw [e] at e'; cases e'
  rw [d] at d'
  injection d' with d1 _
  have : its = its' := by simpa using congrArg Array.toList d1
  subst this
  exact r.inj r'
end
noncomputable abbrev Cx.wish (X : Cx) (E : Value → Shared → Prop) : Cx := { X with xe := E }
noncomputable abbrev Cx.nox (X : Cx) : Cx := X.wish fun _ _ => False
theorem Cx.Ok.wish {X : Cx} (ok : X.Ok) (E : Value → Shared → Prop) : (X.wish E).Ok :=
  ⟨ok.mod, ok.kind, ok.glob, ok.blt, ok.above, ok.inj, ok.has, ok.cab, ok.hd, ok.frames, ok.stk, ok.exf, ok.bs, ok.bsz, ok.noex, ok.exfs, ok.funs, ok.frf⟩
theorem Cx.Ok.unwish {X : Cx} {E : Value → Shared → Prop} (ok : (X.wish E).Ok) : X.Ok :=
  ⟨ok.mod, ok.kind, ok.glob, ok.blt, ok.above, ok.inj, ok.has, ok.cab, ok.hd, ok.frames, ok.stk, ok.exf, ok.bs, ok.bsz, ok.noex, ok.exfs, ok.funs, ok.frf⟩
section
variable {X : Cx} {pins : List (Addr × Obj)} {σ : St} {H : Hp} {s : Shared} {E : Value → Shared → Prop}
theorem Inv.wish (I : Inv X pins σ H s) (E : Value → Shared → Prop) : Inv (X.wish E) pins σ H s := ⟨I.ok.wish E, I.os, I.bare, I.base, I.loc, I.cell, I.free, I.freeC, I.pin, I.hok, I.len⟩
theorem Inv.unwish (I : Inv (X.wish E) pins σ H s) : Inv X pins σ H s := ⟨I.ok.unwish, I.os, I.bare, I.base, I.loc, I.cell, I.free, I.freeC, I.pin, I.hok, I.len⟩
theorem SP.unwish {D : Ends} {f : Flow} {s' : Shared} (h : SP (X.wish E) pins D f s') : SP X pins D f s' := by
  cases f with
  | next => obtain ⟨σ', H', I, q⟩ := h; exact ⟨σ', H', I.unwish, q⟩
  | brk => obtain ⟨σ', H', I, q⟩ := h; exact ⟨σ', H', I.unwish, q⟩
  | cont => obtain ⟨σ', H', I, q⟩ := h; exact ⟨σ', H', I.unwish, q⟩
  | ret u => obtain ⟨v, σ', H', I, r, q⟩ := h; exact ⟨v, σ', H', I.unwish, r, q⟩
theorem PSs.nox {st : List Stmt} {t : TS} (h : PSs X.nox st t) : PSs X st t := fun pins s σ H D I hw =>
  wpAny_mono (h pins s σ H D (I.wish _) hw) (fun _ _ q => q.unwish) fun _ _ z => False.elim z
end
section
variable {X : Cx} {st : Stmt} {rest : List Stmt} {t u : TS} {e : Expr} {te : TE} {pos : Pos}
noncomputable def tNext : TS := fun D σ H => D.nx σ H
noncomputable def tSeq (t u : TS) : TS := fun D σ H => t { D with nx := u D } σ H
theorem pss_nil : PSs X [] tNext := fun _ _ σ H _ I h => wpAny_execs_nil ⟨σ, H, I, h⟩
theorem pss_cons (h1 : PS X st t) (h2 : PSs X rest u) : PSs X (st :: rest) (tSeq t u) := by
  intro pins s σ H D I h
  refine wpAny_execs_cons (thn (h1 pins s σ H { D with nx := u D } I h) fun f s1 q => ?_)
  cases f with
  | next =>
    obtain ⟨σ', H', I', q⟩ := q
    exact h2 pins s1 σ' H' D I' q
  | ret v => exact q
  | brk => exact q
  | cont => exact q
theorem pss_one (h1 : PS X st t) : PSs X [st] t := by
  intro pins s σ H D I h
  refine wpAny_execs_cons (thn (h1 pins s σ H D I h) fun f s1 q => ?_)
  cases f with
  | next => exact wpAny_execs_nil q
  | ret v => exact q
  | brk => exact q
  | cont => exact q
theorem Inv.quiet {pins : List (Addr × Obj)} {σ : St} {H : Hp} {s : Shared} (I : Inv X pins σ H s) : interactive X.env = false := by simp [interactive, I.ok.kind]
noncomputable def tDrop (te : TE) : TS := fun D σ H => te σ H fun _ H1 => D.nx σ H1
theorem ps_expr (he : PE X e te) (hs : swapsWith e none pos.line X.env = pure false := by rfl) : PS X (.Expr e pos) (tDrop te) := by
  intro pins s σ H D I h
  exact wpAny_Expr_any (thn (he pins s σ H _ I h) fun v s1 ⟨x, H1, I1, r1, q1⟩ => ⟨σ, H1, I1, q1⟩) I.quiet hs
noncomputable def tRet (te : TE) : TS := fun D σ H => te σ H D.rt
theorem ps_ret (he : PE X e te) : PS X (.Return (some e) pos) (tRet te) := by
  intro pins s σ H D I h
  exact wpAny_Return_some (thn (he pins s σ H _ I h) fun v s1 ⟨x, H1, I1, r1, q1⟩ => ⟨x, σ, H1, I1, r1, q1⟩)
noncomputable def tIfS (c : TT) (t u : TS) : TS := fun D σ H => c σ H fun b H1 => if b = true then t D σ H1 else u D σ H1
theorem ps_if {c : Expr} {a b : List Stmt} {tc : TT} (hc : PT X c tc) (ha : PSs X a t) (hb : PSs X b u) : PS X (.If c a b pos) (tIfS tc t u) := by
  intro pins s σ H D I h
  refine wpAny_If (thn (hc pins s σ H _ I h) fun d s1 ⟨H1, I1, q1⟩ => ?_)
  cases d with
  | true => exact ha pins s1 σ H1 D I1 q1
  | false => exact hb pins s1 σ H1 D I1 q1
noncomputable def tNever : TS := fun _ _ _ => False
theorem ps_never : PS X st tNever := fun _ _ _ _ _ _ h => h.elim
end
noncomputable abbrev TG := V → St → Hp → (St → Hp → Prop) → Prop
noncomputable abbrev TGs := List V → St → Hp → (St → Hp → Prop) → Prop
noncomputable def PG (X : Cx) (target : Expr) (t : TG) : Prop :=
  ∀ (pins : List (Addr × Obj)) (s : Shared) (σ : St) (H : Hp) (v : V) (u : Value) (Q : St → Hp → Prop), Inv X pins σ H s → RelV v u → t v σ H Q →
    wpAny (model X.prog X.w) X.A (assign target X.env u) (fun _ s' => ∃ σ' H', Inv X pins σ' H' s' ∧ Q σ' H') X.xe s
noncomputable def PGs (X : Cx) (ts : List Expr) (t : TGs) : Prop :=
  ∀ (pins : List (Addr × Obj)) (s : Shared) (σ : St) (H : Hp) (vs : List V) (us : List Value) (Q : St → Hp → Prop), Inv X pins σ H s → Vals vs us → t vs σ H Q →
    wpAny (model X.prog X.w) X.A (assignInOrder ((assignEach ts X.env).map (·.2)) us) (fun _ s' => ∃ σ' H', Inv X pins σ' H' s' ∧ Q σ' H') X.xe s
noncomputable abbrev TIp := V → V → Hp → VK → Prop
noncomputable def PIp (X : Cx) (op : Operator) (t : TIp) : Prop :=
  ∀ (pins : List (Addr × Obj)) (s : Shared) (σ : St) (H : Hp) (x y : V) (v u : Value) (Q : VK), Inv X pins σ H s → RelV x v → RelV y u → t x y H Q →
    wpAny (model X.prog X.w) X.A (inplaceOp op v u) (EP X pins σ Q) X.xe s
section
variable {X : Cx} {pos : Pos}
noncomputable def gName (i : Nat) : TG := fun v σ H Q => Q (σ.set i (some v)) H
theorem pg_name {i : Nat} {x : Str} (hN : X.N.Nodup) (hi : X.N[i]? = some x) (hx : Loc X.env.scope x) (hf : X.fn x = true ∨ X.env.scope.names.lookup x = some .local := by first | exact .inl rfl | exact .inr rfl | assumption) : PG X (.Name x pos) (gName i) := by
  intro pins s σ H v u Q I r h
  exact wpAny_assign_Name (store_ok I hN hi hx r (fun s' I' => ⟨_, H, I', h⟩) hf)
noncomputable def gNil : TGs := fun vs σ H Q => vs = [] ∧ Q σ H
noncomputable def gCons (t : TG) (u : TGs) : TGs := fun vs σ H Q => ∃ v r, vs = v :: r ∧ t v σ H fun σ' H' => u r σ' H' Q
theorem pgs_nil : PGs X [] gNil := by
  intro pins s σ H vs us Q I r h
  obtain ⟨e, h⟩ := h
  subst e
  cases r
  exact assignInOrder_nil ⟨σ, H, I, h⟩
theorem pgs_cons {e : Expr} {es : List Expr} {t : TG} {u : TGs} (h1 : PG X e t) (h2 : PGs X es u)
    (hs : (assignEach (e :: es) X.env).map (·.2) = assign e X.env :: (assignEach es X.env).map (·.2) := by rfl) : PGs X (e :: es) (gCons t u) := by
  intro pins s σ H vs us Q I r h
  obtain ⟨v, vr, e1, h⟩ := h
  subst e1
  cases r with
  | cons r rr =>
    rw [hs]
    refine assignInOrder_cons (thn (h1 pins s σ H _ _ _ I r h) fun _ s1 ⟨σ1, H1, I1, q1⟩ => ?_)
    exact h2 pins s1 σ1 H1 _ _ Q I1 rr q1
noncomputable def gTup (K : PySem.W.Frag) (n : Nat) (t : TGs) : TG := fun v σ H Q => ∃ a xs, v = .ref a ∧ SqT K H a xs ∧ xs.length = n ∧ t xs σ H Q
theorem pg_tup {es : List Expr} {k : Nat} {t : TGs} {n : Nat} (hc : X.calm = true) (h : PGs X es t)
    (hn : (assignEach es X.env).length = n := by rfl) (hst : (assignEach es X.env).findIdx? (·.1) = none := by rfl) : PG X (.Tuple es k pos) (gTup X.K n t) := by
  intro pins s σ H v u Q I r hw
  obtain ⟨a, xs, e1, hq, hl, hw⟩ := hw
  subst e1
  cases r
  obtain ⟨its, rv, ht, hz⟩ := I.tuple hq
  refine assign_Tuple_tuple (I.ok.hd hc) ht (by simp [hn, ← hl, rv.length]) hst fun h' hx => ?_
  have I1 : Inv X pins σ H { s with heap := h' } := I.kept (t' := s.toks) fun b o e => hx b o (Nat.ne_of_lt (Heap.lt_size e)) e
  exact h pins _ σ H xs _ Q I1 (by simpa using rv) hw
noncomputable def tAsg (te : TE) (g : TG) : TS := fun D σ H => te σ H fun x H1 => g x σ H1 D.nx
theorem ps_asg {tg e : Expr} {te : TE} {g : TG} (he : PE X e te) (hg : PG X tg g) (hs : swapsWithSole [tg] e pos.line X.env = pure false := by rfl) (hw : swappedStores [tg] e X.env = pure none := by rfl)
    (h1 : (assignEach [tg] X.env).map (·.2) = [assign tg X.env] := by rfl) : PS X (.Assign [tg] e pos) (tAsg te g) := by
  intro pins s σ H D I h
  refine wpAny_Assign_stores (thn (he pins s σ H _ I h) fun v s1 ⟨x, H1, I1, r1, q1⟩ => ?_) hs hw
  rw [h1]
  exact thn (hg pins s1 σ H1 x v _ I1 r1 q1) fun _ s2 q => q
theorem ps_set {i : Nat} {x : Str} {e : Expr} {te : TE} {pos' : Pos} (hN : X.N.Nodup) (hi : X.N[i]? = some x) (hx : Loc X.env.scope x) (he : PE X e te) (hs : swapsWith e (some (.Name x pos')) pos.line X.env = pure false := by rfl) (hf : X.fn x = true ∨ X.env.scope.names.lookup x = some .local := by first | exact .inl rfl | exact .inr rfl | assumption) :
    PS X (.Assign [.Name x pos'] e pos) (tAsg te (gName i)) := by
  intro pins s σ H D I h
  refine wpAny_Assign_Name (thn (he pins s σ H _ I h) fun v s1 ⟨y, H1, I1, r1, q1⟩ => ?_) hs
  exact store_ok I1 hN hi hx r1 (fun s2 I2 => ⟨_, H1, I2, q1⟩) hf
noncomputable def tAug (i : Nat) (te : TE) (ti : TIp) : TS := fun D σ H => ∃ x, σ[i]? = some (some x) ∧ te σ H fun y H1 => ti x y H1 fun z H2 => D.nx (σ.set i (some z)) H2
theorem ps_aug {i : Nat} {x : Str} {e : Expr} {te : TE} {op : Operator} {ti : TIp} {pos' : Pos} (hN : X.N.Nodup) (hi : X.N[i]? = some x) (hx : Loc X.env.scope x) (he : PE X e te) (ho : PIp X op ti) (hf : X.fn x = true ∨ X.env.scope.names.lookup x = some .local := by first | exact .inl rfl | exact .inr rfl | assumption) :
    PS X (.AugAssign (.Name x pos') op e pos) (tAug i te ti) := by
  intro pins s σ H D I h
  obtain ⟨v, e1, h⟩ := h
  obtain ⟨m, hn, hl⟩ := I.loc
  have vis : Vis X.env.scope x := by rcases hx with k | k; exact .inl k; exact .inr (.inl k)
  obtain ⟨u, r, l⟩ := hl i x v hi e1 vis
  refine wpAny_AugAssign_Name ?_
  have go : wpAny (model X.prog X.w) X.A (eval e X.env) (fun w s₂ => wpAny (model X.prog X.w) X.A (inplaceOp op u w) (fun r s₃ => wpAny (model X.prog X.w) X.A (storeName X.env x r) (fun _ => SP X pins D .next) X.xe s₃) X.xe s₂) X.xe s := by
    refine thn (he pins s σ H _ I h) fun w s1 ⟨y, H1, I1, r1, q1⟩ => ?_
    refine thn (ho pins s1 σ H1 v y u w _ I1 r r1 q1) fun z s2 ⟨zv, H2, I2, r2, q2⟩ => ?_
    exact store_ok I2 hN hi hx r2 (fun s3 I3 => ⟨_, H2, I3, q2⟩) hf
  rcases l with ⟨hk, hm⟩ | ⟨hk, c, hc, hcell⟩
  · exact wpAny_loadName_local I.ok.kind hk hn hm go
  · rcases hk with hk | hk
    · exact wpAny_loadName_cell I.ok.kind hk hc hcell go
    · rcases hx with k | k
      · have : X.env.scope.names.lookup x = some .free := hk
        rw [k] at this; cases this
      · have : X.env.scope.names.lookup x = some .free := hk
        rw [k] at this; cases this
noncomputable def ipI (f : Int → Int → Int) : TIp := fun x y H Q => ∃ i j, x = .int i ∧ y = .int j ∧ Q (.int (f i j)) H
theorem ip_add : PIp X .Add (ipI fun i j => i + j) := by
  intro pins s σ H x y v u Q I r1 r2 h
  obtain ⟨i, j, e1, e2, q⟩ := h
  subst e1; subst e2
  obtain ⟨t, rfl⟩ := r1
  obtain ⟨t', rfl⟩ := r2
  exact iadd_int ⟨.int _, H, I.tok _, ⟨_, rfl⟩, q⟩
end
section
variable {X : Cx} {pos : Pos}
noncomputable def tWhile (c : TT) (tb : TS) : TS := fun D σ H => ∃ W : Nat → St → Hp → Prop, (∃ m, W m σ H) ∧ ∀ m σ H, W m σ H →
  c σ H fun b H1 => if b = true then ∃ N : St → Hp → Prop, (∀ σ' H', N σ' H' → ∃ m', m' < m ∧ W m' σ' H') ∧ tb { D with nx := N, ct := N, bk := D.nx } σ H1 else D.nx σ H1
theorem ps_while {c : Expr} {body : List Stmt} {tc : TT} {tb : TS} (hp : PassesOwn (model X.prog X.w) X.A X.env X.xe) (hc : PT X c tc) (hb : PSs X body tb) : PS X (.While c body [] pos) (tWhile tc tb) := by
  intro pins s σ H D I h
  obtain ⟨W, ⟨m0, w0⟩, turn⟩ := h
  refine wpAny_While (codeAny_whileLoop (fun n s' => ∃ σ' H', Inv X pins σ' H' s' ∧ W n σ' H') ?_ m0 ⟨σ, H, I, w0⟩)
  rintro n s1 ⟨σ1, H1, I1, w1⟩
  refine wpAny_passesOwn hp (thn (hc pins s1 σ1 H1 _ I1 (turn n σ1 H1 w1)) fun b s2 ⟨H2, I2, q2⟩ => ?_)
  cases b with
  | true =>
    obtain ⟨N, hN, q2⟩ := q2
    rw [if_pos rfl]
    refine wpAny_passesOwn hp (thn (hb pins s2 σ1 H2 _ I2 q2) fun f s3 q3 => ?_)
    cases f with
    | next =>
      obtain ⟨σ3, H3, I3, n3⟩ := q3
      obtain ⟨m', hm, w3⟩ := hN σ3 H3 n3
      exact ⟨m', hm, σ3, H3, I3, w3⟩
    | cont =>
      obtain ⟨σ3, H3, I3, n3⟩ := q3
      obtain ⟨m', hm, w3⟩ := hN σ3 H3 n3
      exact ⟨m', hm, σ3, H3, I3, w3⟩
    | brk => exact q3
    | ret v => exact q3
  | false =>
    rw [if_neg Bool.false_ne_true]
    exact wpAny_execs_nil ⟨σ1, H2, I2, q2⟩
end
structure It where
  go : Nat → Hp → Prop
  yld : Nat → Hp → V → Hp → Prop
  stop : Nat → Hp → Prop
noncomputable def FpOk (X : Cx) (pins : List (Addr × Obj)) (H : Hp) (b : Addr) : Prop :=
  H b = none ∧ b ≠ X.env.locals ∧ b ∉ X.fs ∧ (b ∈ X.ex ∨ X.s₀.heap.objs.size ≤ b) ∧ (∀ x c, X.env.cells.lookup x = some c → c ≠ b) ∧ ∀ p ∈ X.pn ++ pins, p.1 ≠ b
theorem Inv.fpOk {X : Cx} {pins : List (Addr × Obj)} {σ : St} {H H' : Hp} {s : Shared} {b : Addr} (I : Inv X pins σ H s) (hb : s.heap.objs.size ≤ b) (hn : H' b = none) : FpOk X pins H' b := by
  refine ⟨hn, Nat.ne_of_gt (Nat.lt_of_lt_of_le I.lt hb), I.nofs hb, .inr (Nat.le_trans I.sz hb), fun x c e z => ?_, fun p hp z => ?_⟩
  · obtain ⟨v, q⟩ := I.cell x c e
    exact absurd (Nat.lt_of_lt_of_le q.lt (by rw [z]; exact hb)) (Nat.lt_irrefl _)
  · exact absurd (Nat.lt_of_lt_of_le (Heap.lt_size (I.pin p hp).1) (by rw [z]; exact hb)) (Nat.lt_irrefl _)
structure Turn (P : Program) (w : World) (K : PySem.W.Frag) (tg : Expr) (J : It) (fp : List Addr) (it : Addr) (tn : Nat → Heap → Prop) : Prop where
  mem : it ∈ fp
  obj : ∀ i h, tn i h → ∀ b ∈ fp, ∃ o, h.get? b = some o ∧ ∀ v, o.data ≠ .cell v
  keep : ∀ i h h', tn i h → (∀ b ∈ fp, ∀ o, h.get? b = some o → h'.get? b = some o) → tn i h'
  item : ∀ (X : Cx), X.prog = P → X.w = w → X.K = K → X.calm = true → ∀ (i : Nat) (pins : List (Addr × Obj)) (s : Shared) (σ : St) (H : Hp) (E : Value → Shared → Prop), Inv X pins σ H s → (∀ b ∈ fp, FpOk X pins H b) → tn i s.heap → J.go i H →
    wpAny (model P w) X.A (pyNext (.ref it)) (fun r s1 => ∃ u, r = some u ∧
      wpAny (model P w) X.A (letOwnedTupleGo tg (.ref it) u) (fun _ s2 => ∃ x H', Inv X pins σ H' s2 ∧ RelV x u ∧ J.yld i H x H' ∧ tn (i + 1) s2.heap ∧ ∀ b ∈ fp, H' b = none) E s1) E s
  done : ∀ (X : Cx), X.prog = P → X.w = w → X.K = K → X.calm = true → ∀ (i : Nat) (pins : List (Addr × Obj)) (s : Shared) (σ : St) (H : Hp) (E : Value → Shared → Prop), Inv X pins σ H s → (∀ b ∈ fp, FpOk X pins H b) → tn i s.heap → J.stop i H →
    wpAny (model P w) X.A (pyNext (.ref it)) (fun r s1 => r = none ∧ Inv X pins σ H s1) E s
  self : ∀ (A : Around) (i : Nat) (s : Shared) (Q : Value → Shared → Prop) (E : Value → Shared → Prop), tn i s.heap → Q (.ref it) s → wpAny (model P w) A (pyIter (.ref it)) Q E s
noncomputable abbrev TI := St → Hp → (It → Hp → Prop) → Prop
noncomputable def PIE (X : Cx) (pins : List (Addr × Obj)) (σ : St) (tg : Expr) (R : It → Hp → Prop) (itv : Value) (s2 : Shared) : Prop :=
  ∃ (it : Addr) (fp : List Addr) (tn : Nat → Heap → Prop) (J : It) (H' : Hp), itv = .ref it ∧ Inv X pins σ H' s2 ∧ Turn X.prog X.w X.K tg J fp it tn ∧ tn 0 s2.heap ∧ (∀ b ∈ fp, FpOk X pins H' b) ∧ R J H'
noncomputable def PI (X : Cx) (tg iter : Expr) (wi : TI) : Prop :=
  ∀ (pins : List (Addr × Obj)) (s : Shared) (σ : St) (H : Hp) (R : It → Hp → Prop), Inv X pins σ H s → wi σ H R →
    wpAny (model X.prog X.w) X.A (eval iter X.env) (fun v s1 => wpAny (model X.prog X.w) X.A (pyIter v) (PIE X pins σ tg R) X.xe s1) X.xe s
theorem go_of {M : Model} {A : Around} {E : Value → Shared → Prop} {s : Shared} {tg : Expr} {it : Addr} {u : Value} {o : Obj} {n : String} {vs : Array Value} {Q : Unit → Shared → Prop} (ho : s.heap.get? it = some o) (hc : o.cls = .type n) (hd : o.data = .fields vs)
    (hn : ["enumerate", "zip", "dict_itemiterator", "dict_reverseitemiterator", "odict_iterator", "itertools.zip_longest", "itertools.pairwise"].contains n = false) (hQ : Q () s) : wpAny M A (letOwnedTupleGo tg (.ref it) u) Q E s := by
  unfold letOwnedTupleGo
  cases tg <;> first
    | exact wpAny_pure hQ
    | (cases u <;> first
        | exact wpAny_pure hQ
        | (refine wpAny_bind (wpAny_load ho ?_)
           rw [hc, hd]
           show wpAny M A (if (["enumerate", "zip", "dict_itemiterator", "dict_reverseitemiterator", "odict_iterator", "itertools.zip_longest", "itertools.pairwise"].contains n && vs[0]? == some (rawInt _)) = true then _ else _) Q E s
           rw [if_neg (by intro h; rw [hn, Bool.false_and] at h; cases h)]
           exact wpAny_pure hQ))
noncomputable def Itl (K : PySem.W.Frag) (a : Addr) : It :=
  ⟨fun i H => ∃ xs x, SqL K H a xs ∧ xs[i]? = some x, fun i H x H' => H' = H ∧ ∀ xs, SqL K H a xs → xs[i]? = some x, fun i H => ∃ xs, SqL K H a xs ∧ xs.length ≤ i⟩
noncomputable def Itt (K : PySem.W.Frag) (a : Addr) : It :=
  ⟨fun i H => ∃ xs x, SqT K H a xs ∧ xs[i]? = some x, fun i H x H' => H' = H ∧ ∀ xs, SqT K H a xs → xs[i]? = some x, fun i H => ∃ xs, SqT K H a xs ∧ xs.length ≤ i⟩
noncomputable def Itr (lo : Int) (n : Nat) : It := ⟨fun i _ => i < n, fun i H x H' => H' = H ∧ x = .int (lo + i), fun i _ => n ≤ i⟩
theorem turn_list {P : Program} {w : World} {K : PySem.W.Frag} {tg : Expr} (a it : Addr) : Turn P w K tg (Itl K a) [it] it (fun i h => h.IsListIter it a i) where
  mem := by simp
  obj := fun i h st b hb => by
    have e : b = it := by simpa using hb
    subst e
    obtain ⟨o, e, c, d⟩ := st
    exact ⟨o, e, fun v z => by rw [d] at z; cases z⟩
  keep := fun i h h' st k => st.at fun o e => k it (by simp) o e
  item := by
    intro X hP hw hK hc i pins s σ H E I hf st hg
    subst hP hw hK
    obtain ⟨xs, x, hq, hx⟩ := hg
    obtain ⟨its, rv, p, hz⟩ := I.list hq
    obtain ⟨u, hu, ru⟩ := rv.get hx
    obtain ⟨f0, f1, f2, f3, f4, f5⟩ := hf it (by simp)
    refine wpAny_pyNext_list_item st p.isList (x := u) (by simpa using hu) fun h' st' sb => ?_
    have I1 : Inv X pins σ H { s with heap := h' } := I.turned (t' := s.toks) (fun b o hb e => (sb.2 b hb).trans e) f0 f1 f3 f4 f5
    obtain ⟨o, e, c, d⟩ := id st'
    exact ⟨u, rfl, go_of (s := { s with heap := h' }) e c d (by decide) ⟨x, H, I1, ru, ⟨rfl, fun ys hy => by rw [I.list_inj hy hq]; exact hx⟩, st', fun b hb => (hf b hb).1⟩⟩
  done := by
    intro X hP hw hK hc i pins s σ H E I hf st hg
    subst hP hw hK
    obtain ⟨xs, hq, hx⟩ := hg
    obtain ⟨its, rv, p, hz⟩ := I.list hq
    obtain ⟨f0, f1, f2, f3, f4, f5⟩ := hf it (by simp)
    have hl := rv.length
    exact wpAny_pyNext_list_end (I.ok.hd hc) st p.isList (by simp; omega) fun h' eb => ⟨rfl, I.turned (t' := s.toks) (fun b o hb e => eb b o hb e) f0 f1 f3 f4 f5⟩
  self := fun _ _ _ _ _ st h => wpAny_pyIter_listiter st h
theorem turn_tuple {P : Program} {w : World} {K : PySem.W.Frag} {tg : Expr} (a it : Addr) : Turn P w K tg (Itt K a) [it] it (fun i h => h.IsTupleIter it a i) where
  mem := by simp
  obj := fun i h st b hb => by
    have e : b = it := by simpa using hb
    subst e
    obtain ⟨o, e, c, d⟩ := st
    exact ⟨o, e, fun v z => by rw [d] at z; cases z⟩
  keep := fun i h h' st k => st.at fun o e => k it (by simp) o e
  item := by
    intro X hP hw hK hc i pins s σ H E I hf st hg
    subst hP hw hK
    obtain ⟨xs, x, hq, hx⟩ := hg
    obtain ⟨its, rv, p, hz⟩ := I.tuple hq
    obtain ⟨u, hu, ru⟩ := rv.get hx
    obtain ⟨f0, f1, f2, f3, f4, f5⟩ := hf it (by simp)
    refine wpAny_pyNext_tuple_item st (show s.heap.IsTuple a its.toArray from p) (x := u) (by simpa using hu) fun h' st' sb => ?_
    have I1 : Inv X pins σ H { s with heap := h' } := I.turned (t' := s.toks) (fun b o hb e => (sb.2 b hb).trans e) f0 f1 f3 f4 f5
    obtain ⟨o, e, c, d⟩ := id st'
    exact ⟨u, rfl, go_of (s := { s with heap := h' }) e c d (by decide) ⟨x, H, I1, ru, ⟨rfl, fun ys hy => by rw [I.tuple_inj hy hq]; exact hx⟩, st', fun b hb => (hf b hb).1⟩⟩
  done := by
    intro X hP hw hK hc i pins s σ H E I hf st hg
    subst hP hw hK
    obtain ⟨xs, hq, hx⟩ := hg
    obtain ⟨its, rv, p, hz⟩ := I.tuple hq
    obtain ⟨f0, f1, f2, f3, f4, f5⟩ := hf it (by simp)
    have hl := rv.length
    exact wpAny_pyNext_tuple_end (I.ok.hd hc) st (show s.heap.IsTuple a its.toArray from p) (by simp; omega) fun h' eb => ⟨rfl, I.turned (t' := s.toks) (fun b o hb e => eb b o hb e) f0 f1 f3 f4 f5⟩
  self := fun _ _ _ _ _ st h => wpAny_pyIter_tupleiter st h
theorem turn_range {P : Program} {w : World} {K : PySem.W.Frag} {tg : Expr} (it : Addr) (lo : Int) (n : Nat) : Turn P w K tg (Itr lo n) [it] it (fun i h => IsRangeIter h it (lo + (i : Nat) * 1) ((n : Int) - (i : Nat)) 1) where
  mem := by simp
  obj := fun i h st b hb => by
    have e : b = it := by simpa using hb
    subst e
    exact ⟨_, st, fun v z => by
      have z' : Data.fields _ = Data.cell v := z
      cases z'⟩
  keep := fun i h h' st k => k it (by simp) _ st
  item := by
    intro X hP hw hK hc i pins s σ H E I hf st hg
    subst hP hw hK
    obtain ⟨f0, f1, f2, f3, f4, f5⟩ := hf it (by simp)
    have W := Walks.range (prog := X.prog) (w := X.w) (I.ok.hd hc) it lo 1 n
    refine W.item i s _ _ hg st fun v h' tk hv st' kk => ?_
    obtain ⟨t, rfl⟩ := hv
    have I1 : Inv X pins σ H { s with heap := h', toks := tk } := I.turned (fun b o hb e => kk b o (by simpa using hb) e) f0 f1 f3 f4 f5
    refine ⟨_, rfl, go_of (s := { s with heap := h', toks := tk }) (n := "range_iterator") st' rfl rfl (by decide) ⟨.int (lo + i), H, I1, ⟨t, ?_⟩, ⟨rfl, rfl⟩, st', fun b hb => (hf b hb).1⟩⟩
    rw [Int.mul_one]
  done := by
    intro X hP hw hK hc i pins s σ H E I hf st hg
    subst hP hw hK
    obtain ⟨f0, f1, f2, f3, f4, f5⟩ := hf it (by simp)
    exact wpAny_pyNext_range_end (I.ok.hd hc) st (by have : n ≤ i := hg; omega) fun h' eb => ⟨rfl, I.turned (t' := s.toks) (fun b o hb e => eb b o hb e) f0 f1 f3 f4 f5⟩
  self := fun _ _ _ _ _ st h => wpAny_pyIter_rangeiter st h
end L2
namespace L2
open PySem PySem.Spec PyProof.Rows
section
variable {X : Cx} {tg : Expr}
noncomputable def iList (K : PySem.W.Frag) (tl : TE) : TI := fun σ H R => tl σ H fun x H1 => ∃ a, x = .ref a ∧ (∃ xs, SqL K H1 a xs) ∧ R (Itl K a) H1
noncomputable def iTup (K : PySem.W.Frag) (tl : TE) : TI := fun σ H R => tl σ H fun x H1 => ∃ a, x = .ref a ∧ (∃ xs, SqT K H1 a xs) ∧ R (Itt K a) H1
theorem pi_list {l : Expr} {tl : TE} (hl : PE X l tl) : PI X tg l (iList X.K tl) := by
  intro pins s σ H R I h
  refine thn (hl pins s σ H _ I h) fun v s1 ⟨x, H1, I1, r1, q1⟩ => ?_
  obtain ⟨a, e, ⟨xs, hq⟩, q⟩ := q1
  subst e
  cases r1
  obtain ⟨its, rv, p, hz⟩ := I1.list hq
  refine wpAny_pyIter_list p.isList ?_
  refine ⟨s1.heap.objs.size, [s1.heap.objs.size], _, _, H1, rfl, I1.kept (t' := s1.toks) fun b o e => Heap.get?_push_of_some _ e, turn_list a _, ⟨_, Heap.get?_push_size _ rfl, rfl, rfl⟩, fun b hb => ?_, q⟩
  have e : b = s1.heap.objs.size := by simpa using hb
  subst e
  exact I1.fpOk (Nat.le_refl _) (I1.hok.fresh (Nat.le_refl _))
theorem pi_tup {l : Expr} {tl : TE} (hl : PE X l tl) : PI X tg l (iTup X.K tl) := by
  intro pins s σ H R I h
  refine thn (hl pins s σ H _ I h) fun v s1 ⟨x, H1, I1, r1, q1⟩ => ?_
  obtain ⟨a, e, ⟨xs, hq⟩, q⟩ := q1
  subst e
  cases r1
  obtain ⟨its, rv, p, hz⟩ := I1.tuple hq
  refine wpAny_pyIter_tuple (show s1.heap.IsTuple a its.toArray from p) ?_
  refine ⟨s1.heap.objs.size, [s1.heap.objs.size], _, _, H1, rfl, I1.kept (t' := s1.toks) fun b o e => Heap.get?_push_of_some _ e, turn_tuple a _, ⟨_, Heap.get?_push_size _ rfl, rfl, rfl⟩, fun b hb => ?_, q⟩
  have e : b = s1.heap.objs.size := by simpa using hb
  subst e
  exact I1.fpOk (Nat.le_refl _) (I1.hok.fresh (Nat.le_refl _))
theorem range_it {pins : List (Addr × Obj)} {σ : St} {H : Hp} {s : Shared} {R : It → Hp → Prop} {E : Value → Shared → Prop} {lo hi : Int} {t u v : Tok} {tk : Nat} (I : Inv X pins σ H s) (h1 : -(2 ^ 62) ≤ lo) (h2 : lo < 2 ^ 62) (h3 : -(2 ^ 62) ≤ hi) (h4 : hi < 2 ^ 62)
    (q : R (Itr lo (hi - lo).toNat) H) : wpAny (model X.prog X.w) X.A (pyIter (.ref s.heap.objs.size)) (PIE X pins σ tg R) E { s with heap := s.heap.push { cls := .type "range", data := .fields #[.int lo t, .int hi u, .int 1 v] }, toks := tk } := by
  refine wpAny_pyIter_range (IsRange.new ..) (small_one h1 h2 h3 h4) ?_
  have I1 : Inv X pins σ H { s with heap := s.heap.push { cls := .type "range", data := .fields #[.int lo t, .int hi u, .int 1 v] }, toks := tk } := I.kept fun b o e => Heap.get?_push_of_some _ e
  refine ⟨(s.heap.push { cls := .type "range", data := .fields #[.int lo t, .int hi u, .int 1 v] }).objs.size, [(s.heap.push { cls := .type "range", data := .fields #[.int lo t, .int hi u, .int 1 v] }).objs.size], _, _, H, rfl,
    I1.kept (t' := tk) fun b o e => Heap.get?_push_of_some _ e, turn_range _ lo (hi - lo).toNat, ?_, fun b hb => ?_, q⟩
  · have e1 : lo + ((0 : Nat) : Int) * 1 = lo := by simp
    have e2 : (((hi - lo).toNat : Nat) : Int) - ((0 : Nat) : Int) = Builtin.Range.rangeSize lo hi 1 := by rw [rangeSize_one]; split <;> omega
    show IsRangeIter _ _ (lo + ((0 : Nat) : Int) * 1) ((((hi - lo).toNat : Nat) : Int) - ((0 : Nat) : Int)) 1
    rw [e1, e2]
    exact Heap.get?_push_size _ rfl
  · have e : b = (s.heap.push { cls := .type "range", data := .fields #[.int lo t, .int hi u, .int 1 v] }).objs.size := by simpa using hb
    subst e
    exact I1.fpOk (Nat.le_refl _) (I1.hok.fresh (Nat.le_refl _))
noncomputable def iRng1 (ta : TA) : TI := fun σ H R => ta σ H fun vs H1 => ∃ j : Int, vs = [.int j] ∧ -(2 ^ 62) ≤ j ∧ j < 2 ^ 62 ∧ R (Itr 0 j.toNat) H1
theorem pi_range1 {a : Expr} {ta : TA} {p pos : Pos} (hg : Gl X "range") (hm : X.mg "range" = none) (ha : PA X [a] ta) (hs : starEach [a] X.env = [(false, eval a X.env)] := by rfl) : PI X tg (.Call (.Name "range" p) [a] [] pos) (iRng1 ta) := by
  intro pins s σ H R I h
  refine Call_ (ld_blt I hg hm boot_range (PyProof.Rows.callWith_type1 (thn (ha pos pins s σ H _ I h) fun us s1 ⟨vs, H1, I1, r1, q1⟩ => ?_) hs rfl))
  obtain ⟨j, e, q1, q2, q⟩ := q1
  subst e
  cases r1 with
  | cons r rr =>
    cases rr
    obtain ⟨t, rfl⟩ := r
    exact call_range_1 (range_it I1 (by omega) (by omega) q1 q2 (by simpa using q))
noncomputable def tFor (wi : TI) (g : TG) (tb : TS) : TS := fun D σ H => wi σ H fun J H1 => ∃ W : Nat → Nat → St → Hp → Prop, (∃ m, W 0 m σ H1) ∧ ∀ i m σ H, W i m σ H →
  (J.stop i H ∧ D.nx σ H) ∨ (J.go i H ∧ ∃ N : St → Hp → Prop, (∀ σ' H', N σ' H' → ∃ m', m' < m ∧ W (i + 1) m' σ' H') ∧ ∀ x H', J.yld i H x H' → g x σ H' fun σ2 H2 => tb { D with nx := N, ct := N, bk := D.nx } σ2 H2)
noncomputable def pinsAt (fp : List Addr) (h : Heap) : List (Addr × Obj) := fp.filterMap fun b => (h.get? b).map fun o => (b, o)
theorem mem_pinsAt {fp : List Addr} {h : Heap} {b : Addr} {o : Obj} (hb : b ∈ fp) (e : h.get? b = some o) : (b, o) ∈ pinsAt fp h := List.mem_filterMap.mpr ⟨b, hb, by rw [e]; rfl⟩
theorem of_pinsAt {fp : List Addr} {h : Heap} {p : Addr × Obj} (hp : p ∈ pinsAt fp h) : p.1 ∈ fp ∧ h.get? p.1 = some p.2 := by
  obtain ⟨b, hb, e⟩ := List.mem_filterMap.mp hp
  cases q : h.get? b with
  | none => rw [q] at e; cases e
  | some o =>
    rw [q] at e
    have e' : (b, o) = p := Option.some.inj e
    subst e'
    exact ⟨hb, q⟩
theorem Inv.pinned {pins : List (Addr × Obj)} {σ : St} {H : Hp} {s : Shared} {fp : List Addr} (I : Inv X pins σ H s) (hf : ∀ b ∈ fp, FpOk X pins H b) (ho : ∀ b ∈ fp, ∃ o, s.heap.get? b = some o ∧ ∀ v, o.data ≠ .cell v) : Inv X (pins ++ pinsAt fp s.heap) σ H s :=
  I.pins_of fun p hp => (List.mem_append.mp hp).elim (fun z => I.pin p (List.mem_append_right _ z)) fun z => by
    obtain ⟨hb, e⟩ := of_pinsAt z
    obtain ⟨f0, f1, f2, _⟩ := hf p.1 hb
    obtain ⟨o, e', d⟩ := ho p.1 hb
    rw [e] at e'; cases e'
    exact ⟨e, f0, f1, f2, d⟩
theorem Inv.unpinned {pins pl : List (Addr × Obj)} {σ : St} {H : Hp} {s : Shared} (I : Inv X (pins ++ pl) σ H s) : Inv X pins σ H s := I.pins_of fun p hp => I.pin p (List.mem_append_right _ (List.mem_append_left _ hp))
theorem ps_for {iter : Expr} {body : List Stmt} {wi : TI} {g : TG} {tb : TS} {pos : Pos} (hp : PassesOwn (model X.prog X.w) X.A X.env X.xe) (hc : X.calm = true) (hi : PI X tg iter wi) (hg : PG X tg g) (hb : PSs X body tb)
    (hs : ∀ x, foldedSetIterable iter X.env x = pure x := by intro _; rfl) : PS X (.For tg iter body [] pos) (tFor wi g tb) := by
  intro pins s σ H D I h
  refine wpAny_For (thn (hi pins s σ H _ I h) fun v s1 h1 => thn h1 fun itv s2 h2 => ?_) hs
  obtain ⟨it, fp, tn, J, H2, e, I2, T, st2, f2, W, ⟨m0, w0⟩, turn⟩ := h2
  subst e
  -- what stays true of the iterator's objects through the loop
  have stat : ∀ {H' : Hp}, (∀ b ∈ fp, H' b = none) → ∀ b ∈ fp, FpOk X pins H' b := fun hn b hb => ⟨hn b hb, (f2 b hb).2⟩
  refine codeAny_forLoop_any (fun n s' => ∃ i σ' H', Inv X pins σ' H' s' ∧ tn i s'.heap ∧ (∀ b ∈ fp, H' b = none) ∧ W i n σ' H') ?_ m0 ⟨0, σ, H2, I2, st2, fun b hb => (f2 b hb).1, w0⟩
  rintro n s3 ⟨i, σ3, H3, I3, st3, fr3, w3⟩
  rcases turn i n σ3 H3 w3 with ⟨stop, qn⟩ | ⟨go, N, hN, step⟩
  · refine wpAny_passesOwn hp (thn (T.done X rfl rfl rfl hc i pins s3 σ3 H3 X.xe I3 (stat fr3) st3 stop) fun r s4 ⟨hr, I4⟩ => ?_)
    subst hr
    exact wpAny_execs_nil ⟨σ3, H3, I4, qn⟩
  · refine wpAny_passesOwn hp (thn (T.item X rfl rfl rfl hc i pins s3 σ3 H3 X.xe I3 (stat fr3) st3 go) fun r s4 ⟨u, hr, h4⟩ => ?_)
    subst hr
    refine wpAny_passesOwn hp (thn h4 fun _ s5 ⟨x, H5, I5, r5, y5, st5, fr5⟩ => ?_)
    have I5' := I5.pinned (stat fr5) (T.obj _ _ st5)
    refine wpAny_passesOwn hp (thn (hg _ s5 σ3 H5 x u _ I5' r5 (step x H5 y5)) fun _ s6 ⟨σ6, H6, I6, q6⟩ => ?_)
    refine wpAny_passesOwn hp (thn (hb _ s6 σ6 H6 _ I6 q6) fun f s7 q7 => ?_)
    have again : ∀ {σ7 : St} {H7 : Hp}, Inv X (pins ++ pinsAt fp s5.heap) σ7 H7 s7 → N σ7 H7 → ∃ m, m < n ∧ ∃ i σ' H', Inv X pins σ' H' s7 ∧ tn i s7.heap ∧ (∀ b ∈ fp, H' b = none) ∧ W i m σ' H' := fun {σ7 H7} I7 n7 => by
      obtain ⟨m', hm, w7⟩ := hN σ7 H7 n7
      refine ⟨m', hm, i + 1, σ7, H7, I7.unpinned, T.keep _ _ _ st5 fun b hb o e => (I7.pin (b, o) (List.mem_append_right _ (List.mem_append_right _ (mem_pinsAt hb e)))).1, fun b hb => ?_, w7⟩
      obtain ⟨o, e, d⟩ := T.obj _ _ st5 b hb
      exact (I7.pin (b, o) (List.mem_append_right _ (List.mem_append_right _ (mem_pinsAt hb e)))).2.1
    cases f with
    | next => obtain ⟨σ7, H7, I7, n7⟩ := q7; exact again I7 n7
    | cont => obtain ⟨σ7, H7, I7, n7⟩ := q7; exact again I7 n7
    | brk => obtain ⟨σ7, H7, I7, q7⟩ := q7; exact ⟨σ7, H7, I7.unpinned, q7⟩
    | ret v => obtain ⟨x7, σ7, H7, I7, r7, q7⟩ := q7; exact ⟨x7, σ7, H7, I7.unpinned, r7, q7⟩
end
theorem for_list {K : PySem.W.Frag} {a : Addr} {xs : List V} {g : TG} {tb : TS} {D : Ends} {σ : St} {H : Hp} (Pv : Nat → St → Hp → Prop) (h0 : Pv 0 σ H) (hl : ∀ i σ H, i ≤ xs.length → Pv i σ H → SqL K H a xs)
    (hs : ∀ i x σ H, xs[i]? = some x → Pv i σ H → g x σ H fun σ2 H2 => tb { D with nx := Pv (i + 1), ct := Pv (i + 1), bk := D.nx } σ2 H2) (hd : ∀ σ H, Pv xs.length σ H → D.nx σ H) :
    ∃ W : Nat → Nat → St → Hp → Prop, (∃ m, W 0 m σ H) ∧ ∀ i m σ H, W i m σ H →
      ((Itl K a).stop i H ∧ D.nx σ H) ∨ ((Itl K a).go i H ∧ ∃ N : St → Hp → Prop, (∀ σ' H', N σ' H' → ∃ m', m' < m ∧ W (i + 1) m' σ' H') ∧ ∀ x H', (Itl K a).yld i H x H' → g x σ H' fun σ2 H2 => tb { D with nx := N, ct := N, bk := D.nx } σ2 H2) := by
  refine ⟨fun i m σ H => m = xs.length - i ∧ i ≤ xs.length ∧ Pv i σ H, ⟨xs.length, by simp, Nat.zero_le _, h0⟩, ?_⟩
  rintro i m σ H ⟨rfl, hi, p⟩
  have q := hl i σ H hi p
  by_cases hlt : i < xs.length
  · refine .inr ⟨⟨xs, xs[i], q, by simp [hlt]⟩, Pv (i + 1), fun σ' H' p' => ⟨xs.length - (i + 1), by omega, rfl, hlt, p'⟩, fun x H' y => ?_⟩
    obtain ⟨e, y⟩ := y
    subst e
    exact hs i x σ _ (y xs q) p
  · have e : i = xs.length := by omega
    subst e
    exact .inl ⟨⟨xs, q, Nat.le_refl _⟩, hd σ H p⟩
theorem for_range {lo : Int} {n : Nat} {g : TG} {tb : TS} {D : Ends} {σ : St} {H : Hp} (Pv : Nat → St → Hp → Prop) (h0 : Pv 0 σ H)
    (hs : ∀ i σ H, i < n → Pv i σ H → g (.int (lo + i)) σ H fun σ2 H2 => tb { D with nx := Pv (i + 1), ct := Pv (i + 1), bk := D.nx } σ2 H2) (hd : ∀ σ H, Pv n σ H → D.nx σ H) :
    ∃ W : Nat → Nat → St → Hp → Prop, (∃ m, W 0 m σ H) ∧ ∀ i m σ H, W i m σ H →
      ((Itr lo n).stop i H ∧ D.nx σ H) ∨ ((Itr lo n).go i H ∧ ∃ N : St → Hp → Prop, (∀ σ' H', N σ' H' → ∃ m', m' < m ∧ W (i + 1) m' σ' H') ∧ ∀ x H', (Itr lo n).yld i H x H' → g x σ H' fun σ2 H2 => tb { D with nx := N, ct := N, bk := D.nx } σ2 H2) := by
  refine ⟨fun i m σ H => m = n - i ∧ i ≤ n ∧ Pv i σ H, ⟨n, by simp, Nat.zero_le _, h0⟩, ?_⟩
  rintro i m σ H ⟨rfl, hi, p⟩
  by_cases hlt : i < n
  · refine .inr ⟨hlt, Pv (i + 1), fun σ' H' p' => ⟨n - (i + 1), by omega, rfl, hlt, p'⟩, fun x H' y => ?_⟩
    obtain ⟨e, y⟩ := y
    subst e y
    exact hs i σ _ hlt p
  · have e : i = n := by omega
    subst e
    exact .inl ⟨Nat.le_refl _, hd σ H p⟩
end L2
namespace L2
open PySem PySem.Spec PyProof.Rows
noncomputable abbrev R2 := V → V → Hp → VK → Prop
noncomputable def OpR (X : Cx) (f : Value → Value → Sem Value) (r : R2) : Prop :=
  ∀ (pins : List (Addr × Obj)) (s : Shared) (σ : St) (H : Hp) (x y : V) (v u : Value) (Q : VK), Inv X pins σ H s → RelV x v → RelV y u → r x y H Q →
    wpAny (model X.prog X.w) X.A (f v u) (EP X pins σ Q) X.xe s
noncomputable def UnR (X : Cx) (f : Value → Sem Value) (r : V → Hp → VK → Prop) : Prop :=
  ∀ (pins : List (Addr × Obj)) (s : Shared) (σ : St) (H : Hp) (x : V) (v : Value) (Q : VK), Inv X pins σ H s → RelV x v → r x H Q →
    wpAny (model X.prog X.w) X.A (f v) (EP X pins σ Q) X.xe s
noncomputable def CallR (X : Cx) (f : Value) (r : List V → Hp → VK → Prop) : Prop :=
  ∀ (pins : List (Addr × Obj)) (s : Shared) (σ : St) (H : Hp) (xs : List V) (us : List Value) (Q : VK), Inv X pins σ H s → Vals xs us → r xs H Q →
    wpAny (model X.prog X.w) X.A (call f us) (EP X pins σ Q) X.xe s
noncomputable def tOp (r : R2) (ta tb : TE) : TE := fun σ H Q => ta σ H fun x H1 => tb σ H1 fun y H2 => r x y H2 Q
noncomputable def tUn (r : V → Hp → VK → Prop) (ta : TE) : TE := fun σ H Q => ta σ H fun x H1 => r x H1 Q
noncomputable def rI (C : Int → Int → Prop) (g : Int → Int → V) : R2 := fun x y H Q => ∃ i j, x = .int i ∧ y = .int j ∧ C i j ∧ Q (g i j) H
noncomputable def rI0 (g : Int → Int → V) : R2 := fun x y H Q => ∃ i j, x = .int i ∧ y = .int j ∧ Q (g i j) H
noncomputable def rU (g : Int → V) : V → Hp → VK → Prop := fun x H Q => ∃ i, x = .int i ∧ Q (g i) H
section
variable {X : Cx} {a b c : Expr} {ta tb tc : TE} {pos : Pos}
theorem binT (ha : PE X a ta) (hb : PE X b tb) {pins : List (Addr × Obj)} {s : Shared} {σ : St} {H : Hp} {R : V → V → Hp → Prop} (I : Inv X pins σ H s)
    (h : ta σ H fun x H1 => tb σ H1 fun y H2 => R x y H2) {Q : Value → Shared → Prop} {f : Value → Value → Sem Value}
    (hf : ∀ v u s2 x y H2, Inv X pins σ H2 s2 → RelV x v → RelV y u → R x y H2 → wpAny (model X.prog X.w) X.A (f v u) Q X.xe s2) :
    wpAny (model X.prog X.w) X.A (eval a X.env) (fun v s₁ => wpAny (model X.prog X.w) X.A (eval b X.env) (fun u s₂ => wpAny (model X.prog X.w) X.A (f v u) Q X.xe s₂) X.xe s₁) X.xe s := by
  refine thn (ha pins s σ H _ I h) fun v s1 ⟨x, H1, I1, r1, q1⟩ => ?_
  refine thn (hb pins s1 σ H1 _ I1 q1) fun u s2 ⟨y, H2, I2, r2, q2⟩ => ?_
  exact hf v u s2 x y H2 I2 r1 r2 q2
theorem pe_op {op : Operator} {r : R2} (ho : OpR X (binaryOp op) r) (ha : PE X a ta) (hb : PE X b tb) : PE X (.BinOp a op b pos) (tOp r ta tb) := by
  intro pins s σ H Q I h
  exact wpAny_BinOp (binT ha hb I h fun v u s2 x y H2 I2 rx ry q => ho pins s2 σ H2 x y v u Q I2 rx ry q)
theorem pe_un {op : UnaryOp} {r : V → Hp → VK → Prop} (ho : UnR X (unaryOp op) r) (ha : PE X a ta) : PE X (.UnaryOp op a pos) (tUn r ta) := by
  intro pins s σ H Q I h
  exact UnaryOp_ (thn (ha pins s σ H _ I h) fun v s1 ⟨x, H1, I1, r1, q1⟩ => ho pins s1 σ H1 x v Q I1 r1 q1)
theorem opI {f : Value → Value → Sem Value} {C : Int → Int → Prop} {g : Int → Int → Int}
    (rule : ∀ (i j : Int) (t u : Tok) (s : Shared) (Q : Value → Shared → Prop) (E : Value → Shared → Prop), C i j → Q (.int (g i j) s.toks) { s with toks := s.toks + 1 } → wpAny (model X.prog X.w) X.A (f (.int i t) (.int j u)) Q E s) :
    OpR X f (rI C fun i j => .int (g i j)) := by
  intro pins s σ H x y v u Q I rx ry h
  obtain ⟨i, j, rfl, rfl, hc, q⟩ := h
  obtain ⟨t, rfl⟩ := rx
  obtain ⟨t', rfl⟩ := ry
  exact rule i j t t' s _ _ hc ⟨.int (g i j), H, I.tok _, ⟨_, rfl⟩, q⟩
theorem opI0 {f : Value → Value → Sem Value} {g : Int → Int → Int}
    (rule : ∀ (i j : Int) (t u : Tok) (s : Shared) (Q : Value → Shared → Prop) (E : Value → Shared → Prop), Q (.int (g i j) s.toks) { s with toks := s.toks + 1 } → wpAny (model X.prog X.w) X.A (f (.int i t) (.int j u)) Q E s) :
    OpR X f (rI0 fun i j => .int (g i j)) := by
  intro pins s σ H x y v u Q I rx ry h
  obtain ⟨i, j, rfl, rfl, q⟩ := h
  obtain ⟨t, rfl⟩ := rx
  obtain ⟨t', rfl⟩ := ry
  exact rule i j t t' s _ _ ⟨.int (g i j), H, I.tok _, ⟨_, rfl⟩, q⟩
theorem opB0 {f : Value → Value → Sem Value} {g : Int → Int → Bool}
    (rule : ∀ (i j : Int) (t u : Tok) (s : Shared) (Q : Value → Shared → Prop) (E : Value → Shared → Prop), Q (.bool (g i j)) s → wpAny (model X.prog X.w) X.A (f (.int i t) (.int j u)) Q E s) :
    OpR X f (rI0 fun i j => .bl (g i j)) := by
  intro pins s σ H x y v u Q I rx ry h
  obtain ⟨i, j, rfl, rfl, q⟩ := h
  obtain ⟨t, rfl⟩ := rx
  obtain ⟨t', rfl⟩ := ry
  exact rule i j t t' s _ _ ⟨.bl (g i j), H, I, rfl, q⟩
noncomputable def CPow (i j : Int) : Prop := 0 ≤ j ∧ j ≤ 1000000 ∧ i.natAbs < 2 ^ 64
noncomputable def CMul (i j : Int) : Prop := (-(2 ^ 64) < i ∧ i < 2 ^ 64) ∨ (-(2 ^ 64) < j ∧ j < 2 ^ 64)
theorem CMul.ok {i j : Int} (h : CMul i j) : IntMulOk i j := by
  rcases h with ⟨h1, h2⟩ | ⟨h1, h2⟩
  · exact .of_left (intBits_le_64 h1 h2)
  · exact .of_right (intBits_le_64 h1 h2)
theorem op_add : OpR X (binaryOp .Add) (rI0 fun i j => .int (i + j)) := opI0 fun _ _ _ _ _ _ _ q => add_int q
theorem op_sub : OpR X (binaryOp .Sub) (rI0 fun i j => .int (i - j)) := opI0 fun _ _ _ _ _ _ _ q => sub_int q
theorem op_mul : OpR X (binaryOp .Mult) (rI CMul fun i j => .int (i * j)) := opI fun _ _ _ _ _ _ _ hc q => mul_int q hc.ok
theorem op_mod : OpR X (binaryOp .Mod) (rI (fun _ j => 0 < j) fun i j => .int (i % j)) := opI fun i j _ _ _ _ _ hc q => by
  have h1 : (0 : Int) < j := hc
  exact mod_int' (by omega) (by rw [Int.fmod_eq_emod_of_nonneg i (by omega)]; exact q)
theorem op_pow : OpR X (binaryOp .Pow) (rI CPow fun i j => .int (i ^ j.toNat)) := opI fun _ _ _ _ _ _ _ hc q => pow_int_small hc.1 hc.2.1 hc.2.2 q
theorem unI {f : Value → Sem Value} {g : Int → Int}
    (rule : ∀ (i : Int) (t : Tok) (s : Shared) (Q : Value → Shared → Prop) (E : Value → Shared → Prop), Q (.int (g i) s.toks) { s with toks := s.toks + 1 } → wpAny (model X.prog X.w) X.A (f (.int i t)) Q E s) :
    UnR X f (rU fun i => .int (g i)) := by
  intro pins s σ H x v Q I rx h
  obtain ⟨i, rfl, q⟩ := h
  obtain ⟨t, rfl⟩ := rx
  exact rule i t s _ _ ⟨.int (g i), H, I.tok _, ⟨_, rfl⟩, q⟩
theorem un_neg : UnR X (unaryOp .USub) (rU fun i => .int (-i)) := unI fun _ _ _ _ _ q => neg_int q
end
noncomputable def scal : V → V → Bool
  | .non, .non => true | .non, .int _ => true | .int _, .non => true | .non, .bl _ => true | .bl _, .non => true | .non, .str _ => true | .str _, .non => true
  | .int _, .int _ => true | .bl _, .bl _ => true | .str _, .str _ => true | .byt _, .byt _ => true
  | .int _, .str _ => true | .str _, .int _ => true | .bl _, .str _ => true | .str _, .bl _ => true
  | _, _ => false
noncomputable def rEq : R2 := fun x y H Q => scal x y = true ∧ Q (.bl (decide (x = y))) H
noncomputable def rNe : R2 := fun x y H Q => scal x y = true ∧ Q (.bl (!decide (x = y))) H
theorem dec_int {i j : Int} : decide (V.int i = V.int j) = (i == j) := by
  rw [Bool.eq_iff_iff]
  simp
theorem dec_bl {i j : Bool} : decide (V.bl i = V.bl j) = (i == j) := by
  rw [Bool.eq_iff_iff]
  simp
theorem dec_str {i j : Str} : decide (V.str i = V.str j) = (i == j) := by
  rw [Bool.eq_iff_iff]
  simp
theorem dec_byt {i j : Array UInt8} : decide (V.byt i = V.byt j) = (i.toList == j.toList) := by
  rw [Bool.eq_iff_iff]
  cases i
  cases j
  simp
section
variable {X : Cx} {a b c : Expr} {ta tb tc : TE} {pos : Pos}
theorem fin_bl {pins : List (Addr × Obj)} {σ : St} {H : Hp} {s : Shared} {Q : VK} {k k' : Bool} (I : Inv X pins σ H s) (q : Q (.bl k) H) (e : k = k') : EP X pins σ Q (.bool k') s := by
  subst e
  exact ⟨.bl k, H, I, rfl, q⟩
theorem op_eq : OpR X (compareOp .Eq) rEq := by
  intro pins s σ H x y v u Q I rx ry h
  obtain ⟨hs, q⟩ := h
  cases x with
  | non =>
    cases rx
    cases y with
    | non => cases ry; exact PySem.EqNone.eq_none_none (fin_bl I q (by simp))
    | bl j => cases ry; exact PySem.EqNone.eq_none_bool (fin_bl I q (by simp))
    | int j => obtain ⟨t', rfl⟩ := ry; exact PySem.EqNone.eq_none_int (fin_bl I q (by simp))
    | str j => obtain ⟨t', rfl⟩ := ry; exact PySem.EqNone.eq_none_str (fin_bl I q (by simp))
    | _ => exact absurd (show false = true from hs) Bool.false_ne_true
  | bl i =>
    cases rx
    cases y with
    | non => cases ry; exact PySem.EqNone.eq_bool_none (fin_bl I q (by simp))
    | bl j => cases ry; exact eq_bool (fin_bl I q dec_bl)
    | str j => obtain ⟨t', rfl⟩ := ry; exact PySem.EqMixed.eq_bool_str (fin_bl I q (by simp))
    | _ => exact absurd (show false = true from hs) Bool.false_ne_true
  | int i =>
    obtain ⟨t, rfl⟩ := rx
    cases y with
    | non => cases ry; exact PySem.EqNone.eq_int_none (fin_bl I q (by simp))
    | int j => obtain ⟨t', rfl⟩ := ry; exact eq_int (fin_bl I q dec_int)
    | str j => obtain ⟨t', rfl⟩ := ry; exact PySem.EqMixed.eq_int_str (fin_bl I q (by simp))
    | _ => exact absurd (show false = true from hs) Bool.false_ne_true
  | str i =>
    obtain ⟨t, rfl⟩ := rx
    cases y with
    | non => cases ry; exact PySem.EqNone.eq_str_none (fin_bl I q (by simp))
    | bl j => cases ry; exact PySem.EqMixed.eq_str_bool (fin_bl I q (by simp))
    | int j => obtain ⟨t', rfl⟩ := ry; exact PySem.EqMixed.eq_str_int (fin_bl I q (by simp))
    | str j => obtain ⟨t', rfl⟩ := ry; exact eq_str (fin_bl I q dec_str)
    | _ => exact absurd (show false = true from hs) Bool.false_ne_true
  | byt i =>
    obtain ⟨t, rfl⟩ := rx
    cases y with
    | byt j => obtain ⟨t', rfl⟩ := ry; exact PySem.W.eq_bytes (fin_bl I q dec_byt)
    | _ => exact absurd (show false = true from hs) Bool.false_ne_true
  | _ => cases y <;> exact absurd (show false = true from hs) Bool.false_ne_true
theorem op_ne : OpR X (compareOp .NotEq) rNe := by
  intro pins s σ H x y v u Q I rx ry h
  obtain ⟨hs, q⟩ := h
  cases x with
  | non =>
    cases rx
    cases y with
    | non => cases ry; exact PySem.EqNone.ne_none_none (fin_bl I q (by simp))
    | bl j => cases ry; exact PySem.EqNone.ne_none_bool (fin_bl I q (by simp))
    | int j => obtain ⟨t', rfl⟩ := ry; exact PySem.EqNone.ne_none_int (fin_bl I q (by simp))
    | str j => obtain ⟨t', rfl⟩ := ry; exact PySem.EqNone.ne_none_str (fin_bl I q (by simp))
    | _ => exact absurd (show false = true from hs) Bool.false_ne_true
  | bl i =>
    cases rx
    cases y with
    | non => cases ry; exact PySem.EqNone.ne_bool_none (fin_bl I q (by simp))
    | bl j => cases ry; exact ne_bool (fin_bl I q (congrArg not dec_bl))
    | str j => obtain ⟨t', rfl⟩ := ry; exact PySem.EqMixed.ne_bool_str (fin_bl I q (by simp))
    | _ => exact absurd (show false = true from hs) Bool.false_ne_true
  | int i =>
    obtain ⟨t, rfl⟩ := rx
    cases y with
    | non => cases ry; exact PySem.EqNone.ne_int_none (fin_bl I q (by simp))
    | int j => obtain ⟨t', rfl⟩ := ry; exact ne_int (fin_bl I q (congrArg not dec_int))
    | str j => obtain ⟨t', rfl⟩ := ry; exact PySem.EqMixed.ne_int_str (fin_bl I q (by simp))
    | _ => exact absurd (show false = true from hs) Bool.false_ne_true
  | str i =>
    obtain ⟨t, rfl⟩ := rx
    cases y with
    | non => cases ry; exact PySem.EqNone.ne_str_none (fin_bl I q (by simp))
    | bl j => cases ry; exact PySem.EqMixed.ne_str_bool (fin_bl I q (by simp))
    | int j => obtain ⟨t', rfl⟩ := ry; exact PySem.EqMixed.ne_str_int (fin_bl I q (by simp))
    | str j => obtain ⟨t', rfl⟩ := ry; exact ne_str (fin_bl I q (congrArg not dec_str))
    | _ => exact absurd (show false = true from hs) Bool.false_ne_true
  | byt i =>
    obtain ⟨t, rfl⟩ := rx
    cases y with
    | byt j => obtain ⟨t', rfl⟩ := ry; exact PySem.W.ne_bytes (fin_bl I q (congrArg not dec_byt))
    | _ => exact absurd (show false = true from hs) Bool.false_ne_true
  | _ => cases y <;> exact absurd (show false = true from hs) Bool.false_ne_true
theorem op_lt : OpR X (compareOp .Lt) (rI0 fun i j => .bl (decide (i < j))) := opB0 fun _ _ _ _ _ _ _ q => lt_int q
theorem op_le : OpR X (compareOp .LtE) (rI0 fun i j => .bl (decide (i ≤ j))) := opB0 fun _ _ _ _ _ _ _ q => le_int q
theorem op_gt : OpR X (compareOp .Gt) (rI0 fun i j => .bl (decide (j < i))) := opB0 fun _ _ _ _ _ _ _ q => gt_int q
theorem op_ge : OpR X (compareOp .GtE) (rI0 fun i j => .bl (decide (j ≤ i))) := opB0 fun _ _ _ _ _ _ _ q => ge_int q
theorem op_isN : OpR X (compareOp .Is) (fun x y H Q => y = .non ∧ Q (.bl (decide (x = .non))) H) := by
  intro pins s σ H x y v u Q I rx ry h
  obtain ⟨rfl, q⟩ := h
  cases ry
  refine is_none_gen (fin_bl I q ?_)
  cases x <;> first
    | (cases rx; rfl)
    | (obtain ⟨t, rfl⟩ := rx; rfl)
theorem op_notN : OpR X (compareOp .IsNot) (fun x y H Q => y = .non ∧ Q (.bl (!decide (x = .non))) H) := by
  intro pins s σ H x y v u Q I rx ry h
  obtain ⟨rfl, q⟩ := h
  cases ry
  refine isnot_none_gen (fin_bl I q ?_)
  cases x <;> first
    | (cases rx; rfl)
    | (obtain ⟨t, rfl⟩ := rx; rfl)
theorem nomark (b : Expr) {op : CmpOp} (h : op ≠ .In := by decide) (h2 : op ≠ .NotIn := by decide) : behindInMarks op b = false := by
  have e1 : (op == CmpOp.In) = false := by cases op <;> first | rfl | exact absurd rfl h
  have e2 : (op == CmpOp.NotIn) = false := by cases op <;> first | rfl | exact absurd rfl h2
  cases b <;> simp [behindInMarks, e1, e2]
theorem pe_cmpR {op : CmpOp} {r : R2} (ho : OpR X (compareOp op) r) (ha : PE X a ta) (hb : PE X b tb) (hm : behindInMarks op b = false) : PE X (.Compare a [op] [b] pos) (tOp r ta tb) := by
  intro pins s σ H Q I h
  exact wpAny_Compare1 (binT ha hb I h fun v u s2 x y H2 I2 rx ry q => ho pins s2 σ H2 x y v u Q I2 rx ry q) hm
noncomputable def tTest (t : TE) : TT := fun σ H Q => t σ H fun x H' => ∃ k, x = .bl k ∧ Q k H'
theorem pt_cmpR {op : CmpOp} {r : R2} (ho : OpR X (compareOp op) r) (ha : PE X a ta) (hb : PE X b tb) (hm : behindInMarks op b = false) : PT X (.Compare a [op] [b] pos) (tTest (tOp r ta tb)) := by
  intro pins s σ H Q I h
  refine wpAny_isTrue_Compare1 (thn (ha pins s σ H _ I h) fun v s1 ⟨x, H1, I1, r1, q1⟩ => thn (hb pins s1 σ H1 _ I1 q1) fun u s2 ⟨y, H2, I2, r2, q2⟩ =>
    thn (ho pins s2 σ H2 x y v u _ I2 r1 r2 q2) fun c s3 ⟨z, H3, I3, r3, k, e, q3⟩ => ?_) hm
  subst e
  cases r3
  exact wpAny_truthy_bool ⟨H3, I3, q3⟩
noncomputable def tChain (r r' : R2) (ta tb tc : TE) : TE := fun σ H Q => ta σ H fun x H1 => tb σ H1 fun y H2 => r x y H2 fun z H3 => ∃ k, z = .bl k ∧
  (if k = true then tc σ H3 fun w' H4 => r' y w' H4 Q else Q (.bl false) H3)
theorem pe_chain {op op' : CmpOp} {r r' : R2} (ho : OpR X (compareOp op) r) (ho' : OpR X (compareOp op') r') (ha : PE X a ta) (hb : PE X b tb) (hc : PE X c tc)
    (hm : lastMarks [op, op'] [b, c] = false := by with_unfolding_all rfl) : PE X (.Compare a [op, op'] [b, c] pos) (tChain r r' ta tb tc) := by
  intro pins s σ H Q I h
  refine Compare_chain (thn (ha pins s σ H _ I h) fun v s1 ⟨x, H1, I1, r1, q1⟩ => chain_link (thn (hb pins s1 σ H1 _ I1 q1) fun u s2 ⟨y, H2, I2, r2, q2⟩ =>
    thn (ho pins s2 σ H2 x y v u _ I2 r1 r2 q2) fun d s3 ⟨z, H3, I3, r3, k, e, q3⟩ => ?_)) hm
  subst e
  cases r3
  refine wpAny_truthy_bool ?_
  cases k with
  | false => exact ite_ff ⟨.bl false, H3, I3, rfl, q3⟩
  | true => exact ite_tt (chain_last (thn (hc pins s3 σ H3 _ I3 q3) fun w' s4 ⟨z', H4, I4, r4, q4⟩ => ho' pins s4 σ H4 y z' u w' Q I4 r2 r4 q4))
theorem line63 : (sizeLine : Nat) < 2 ^ 63 := by rw [sizeLine_eq]; decide
theorem vals1 {x : V} {us : List Value} (r : Vals [x] us) : ∃ u, us = [u] ∧ RelV x u := by
  cases r with
  | cons r1 r2 => cases r2; exact ⟨_, rfl, r1⟩
theorem vals2 {x y : V} {us : List Value} (r : Vals [x, y] us) : ∃ u w', us = [u, w'] ∧ RelV x u ∧ RelV y w' := by
  cases r with
  | cons r1 r2 =>
    cases r2 with
    | cons r3 r4 => cases r4; exact ⟨_, _, rfl, r1, r3⟩
theorem call_abs : CallR X (.builtin "abs") (fun xs H Q => ∃ i, xs = [.int i] ∧ Q (.int (if i < 0 then -i else i)) H) := by
  intro pins s σ H xs us Q I r h
  obtain ⟨i, rfl, q⟩ := h
  obtain ⟨u, rfl, t, rfl⟩ := vals1 r
  exact call_abs_int fun u tk => ⟨.int (if i < 0 then -i else i), H, I.tok _, ⟨_, rfl⟩, q⟩
theorem call_max2 (hc : X.calm = true) : CallR X (.builtin "max") (fun xs H Q => ∃ i j, xs = [.int i, .int j] ∧ Q (.int (if j > i then j else i)) H) := by
  intro pins s σ H xs us Q I r h
  obtain ⟨i, j, rfl, q⟩ := h
  obtain ⟨u, w', rfl, ⟨t, rfl⟩, ⟨t', rfl⟩⟩ := vals2 r
  refine max_two_ints (I.ok.hd hc) fun h' tk k => ⟨_, H, I.kept k, ?_, q⟩
  by_cases hj : j > i
  · rw [if_pos hj, if_pos hj]; exact ⟨_, rfl⟩
  · rw [if_neg hj, if_neg hj]; exact ⟨_, rfl⟩
theorem call_min2 (hc : X.calm = true) : CallR X (.builtin "min") (fun xs H Q => ∃ i j, xs = [.int i, .int j] ∧ Q (.int (if j < i then j else i)) H) := by
  intro pins s σ H xs us Q I r h
  obtain ⟨i, j, rfl, q⟩ := h
  obtain ⟨u, w', rfl, ⟨t, rfl⟩, ⟨t', rfl⟩⟩ := vals2 r
  refine min_two_ints (I.ok.hd hc) fun h' tk k => ⟨_, H, I.kept k, ?_, q⟩
  by_cases hj : j < i
  · rw [if_pos hj, if_pos hj]; exact ⟨_, rfl⟩
  · rw [if_neg hj, if_neg hj]; exact ⟨_, rfl⟩
theorem call_int1 : CallR X (.type "int") (fun xs H Q => (∃ i, xs = [.int i] ∧ Q (.int i) H) ∨ ∃ k, xs = [.bl k] ∧ Q (.int (if k then 1 else 0)) H) := by
  intro pins s σ H xs us Q I r h
  rcases h with ⟨i, rfl, q⟩ | ⟨k, rfl, q⟩
  · obtain ⟨u, rfl, t, rfl⟩ := vals1 r
    exact call_int_int ⟨.int i, H, I, ⟨_, rfl⟩, q⟩
  · obtain ⟨u, rfl, r1⟩ := vals1 r
    cases r1
    exact call_int_bool ⟨.int (if k then 1 else 0), H, I.tok _, ⟨_, rfl⟩, q⟩
end
end L2
namespace L2
open PySem PySem.Spec PyProof.Rows
structure ObjM (h : Heap) (x dx C : Addr) (mA : Str → Option Value) : Prop where
  obj : h.get? x = some (PySem.W.instObj C dx)
  ns : h.Ns1 dx mA
  ne : dx ≠ x
theorem lookIn_ns {h : Heap} {dx : Addr} {mA : Str → Option Value} (n : h.Ns1 dx mA) : ∃ od, h.get? dx = some od ∧ ∀ name, PySem.W.lookIn name od = some (mA name) := by
  obtain ⟨o, es, ep, ho, hd, hk, _, hm⟩ := n
  refine ⟨o, ho, fun name => ?_⟩
  have e := hm name
  unfold nsFind findBy at e
  rw [← Array.find?_toList] at e
  unfold PySem.W.lookIn
  rw [hd]
  dsimp only
  split
  · rename_i y q
    rw [q] at e
    exact congrArg some e
  · rename_i q
    rw [q] at e
    have a : es.toList.any (·.refKey) = false := by
      rw [List.any_eq_false]
      intro y hy
      obtain ⟨z, t, hkey⟩ := hk y (Array.mem_toList_iff.mp hy)
      simp [DictEntry.refKey, hkey]
    have a' : ¬ es.toList.any (·.refKey) = true := by rw [a]; exact Bool.false_ne_true
    rw [if_neg a']
    exact congrArg some e
theorem ObjM.look {h : Heap} {x dx C : Addr} {mA : Str → Option Value} (I : ObjM h x dx C mA) : ∃ od, PySem.W.InstAt h x (PySem.W.instObj C dx) C (some od) ∧ ∀ name, PySem.W.lookIn name od = some (mA name) :=
  let ⟨od, ho, hl⟩ := lookIn_ns I.ns
  ⟨od, ⟨I.obj, rfl, rfl, ho⟩, hl⟩
section
variable {prog : Program} {w : World} {A : Around} {E : Value → Shared → Prop} {s : Shared} {K : PySem.W.Frag} {x dx C f : Addr} {mA : Str → Option Value} {name : Str} {v : Value}
end
theorem RelO.some_of {v : V} {o : Option Value} (r : RelO (some v) o) : ∃ u, o = some u ∧ RelV v u := by
  cases o with
  | none => exact (show False from r).elim
  | some u => exact ⟨u, rfl, r⟩
section
variable {P : Program} {w : World} {H H' : Hp} {h h' : Heap} {a C dx : Addr} {fs fs' : List (Str × V)}
theorem ins_get (hok : HOk P w H h) (e : H a = some (.ins C dx fs)) : ∃ mA, ObjM h a dx C mA ∧ (∀ f, RelO (fs.lookup f) (mA f)) ∧ PySem.Within mA (fs.map (·.1)) ∧ fs.length ≤ 1000 ∧ H dx = some (.own a) := by
  obtain ⟨d, z, ne, ob, mA, n, r, q⟩ := (show ObjOk P w H h a (.ins C dx fs) from hok a _ e)
  exact ⟨mA, ⟨ob, n, ne⟩, r, q, z, d⟩
end
structure Cls (K : PySem.W.Frag) (C : Addr) : Prop where
  pg : PySem.W.plainGet K C Str.empty = true
  hd : PySem.W.hasDictIn K C = true
  po : PySem.W.plainOver K C = true
  sa : PySem.W.findIn K (.ref C) "__setattr__" = some (some (.builtin "object.__setattr__"))
theorem Cls.get {K : PySem.W.Frag} {C : Addr} (c : Cls K C) (f : Str) : PySem.W.plainGet K C f = true := c.pg
section
variable {X : Cx} {pins : List (Addr × Obj)} {σ : St} {H : Hp} {s : Shared} {a C dx : Addr} {fs : List (Str × V)} {f : Str} {v : V} {A : Around} {E : Value → Shared → Prop}
end
section
variable {X : Cx} {o e value : Expr} {f : Str} {pos pos' tpos : Pos} {ta tv : TE}
end
section
variable {X : Cx} {pins : List (Addr × Obj)} {σ : St} {H : Hp} {s : Shared} {A : Around} {E : Value → Shared → Prop} {Q : Value → Shared → Prop} {c : Value} {b : Bool}
inductive TyOf (K : PySem.W.Frag) (H : Hp) : V → Value → Prop where
  | non : TyOf K H .non (.type "NoneType")
  | bl (x : Bool) : TyOf K H (.bl x) (.type "bool")
  | int (i : Int) : TyOf K H (.int i) (.type "int")
  | str (x : Str) : TyOf K H (.str x) (.type "str")
  | flt (x : UInt64) : TyOf K H (.flt x) (.type "float")
  | lst {a : Addr} {xs : List V} (e : H a = some (.lst xs)) : TyOf K H (.ref a) (.type "list")
  | frz {a : Addr} {o : Obj} {xs : List V} (e : H a = some (.frz o (.lst xs))) : TyOf K H (.ref a) (.type "list")
  | tup {a : Addr} {xs : List V} (e : H a = some (.tup xs)) : TyOf K H (.ref a) (.type "tuple")
  | dK {a : Addr} {kvs : List (Key × V)} (e : H a = some (.dK kvs)) : TyOf K H (.ref a) (.type "dict")
  | dT {a : Addr} {kvs : List (List Key × V)} (e : H a = some (.dT kvs)) : TyOf K H (.ref a) (.type "dict")
  | ins {a C dx : Addr} {fs : List (Str × V)} (e : H a = some (.ins C dx fs)) (cl : Cls K C) (ha : PySem.W.findIn K (.ref C) "__class__" = some (some (.builtin "object.__class__")))
      (hn : PySem.W.specialIn K (.builtin "object.__class__") "__get__" = some (some (.builtin "getset_descriptor.__get__"))) (htk : PySem.W.takesIn K (.builtin "object.__class__") = some true)
      (hm : PySem.W.mroIn K C (.type "object") = some true) : TyOf K H (.ref a) (.ref C)
theorem isinst_ok {x : V} {u t : Value} (I : Inv X pins σ H s) (rx : RelV x u) (ty : TyOf X.K H x t) (e : PySem.W.kitOne X.K t c = some b) (h : ∀ tk, Q (.bool b) { s with toks := tk }) :
    wpAny (model X.prog X.w) A (call (.builtin "isinstance") [u, c]) Q E s := by
  cases ty with
  | non => cases (show u = Value.none from rx); exact PySem.W.kia_one PySem.W.kitx_none I.kIn True.intro e (fun z => nomatch z) h
  | bl y => cases (show u = Value.bool y from rx); exact PySem.W.kia_one PySem.W.kitx_bool I.kIn True.intro e (fun z => nomatch z) h
  | int i => obtain ⟨t, q⟩ := (show ∃ t, u = Value.int i t from rx); cases q; exact PySem.W.kia_one PySem.W.kitx_int I.kIn True.intro e (fun z => nomatch z) h
  | str y => obtain ⟨t, q⟩ := (show ∃ t, u = Value.str y t from rx); cases q; exact PySem.W.kia_one PySem.W.kitx_str I.kIn True.intro e (fun z => nomatch z) h
  | flt y => obtain ⟨t, q⟩ := (show ∃ t, u = Value.float y t from rx); cases q; exact PySem.W.kia_one PySem.W.kitx_float I.kIn True.intro e (fun z => nomatch z) h
  | @lst a xs ea =>
    cases (show u = Value.ref a from rx)
    obtain ⟨_, _, n, _, h1⟩ := (show ObjOk X.prog X.w H s.heap a (.lst xs) from I.hok a _ ea)
    exact PySem.W.kia_one PySem.W.kitx_list I.kIn ⟨_, h1, rfl⟩ e (fun z => nomatch z) h
  | @frz a ob xs ea =>
    cases (show u = Value.ref a from rx)
    obtain ⟨_, _, _, n, _, h1⟩ := (show ObjOk X.prog X.w H s.heap a (.frz ob (.lst xs)) from I.hok a _ ea)
    exact PySem.W.kia_one PySem.W.kitx_list I.kIn ⟨_, h1, rfl⟩ e (fun z => nomatch z) h
  | @tup a xs ea =>
    cases (show u = Value.ref a from rx)
    obtain ⟨_, _, _, p⟩ := (show ObjOk X.prog X.w H s.heap a (.tup xs) from I.hok a _ ea)
    obtain ⟨o, h1, h2, _⟩ := p
    exact PySem.W.kia_one PySem.W.kitx_tuple I.kIn ⟨o, h1, h2⟩ e (fun z => nomatch z) h
  | @dK a kvs ea =>
    cases (show u = Value.ref a from rx)
    obtain ⟨_, _, vs, _, p⟩ := (show ObjOk X.prog X.w H s.heap a (.dK kvs) from I.hok a _ ea)
    obtain ⟨o, es, ep, h1, h2, _⟩ := p
    exact PySem.W.kia_one PySem.W.kitx_dict I.kIn ⟨o, h1, h2.1⟩ e (fun z => nomatch z) h
  | @dT a kvs ea =>
    cases (show u = Value.ref a from rx)
    obtain ⟨_, _, xs, _, o, es, ep, h1, h2, _⟩ := (show ObjOk X.prog X.w H s.heap a (.dT kvs) from I.hok a _ ea)
    exact PySem.W.kia_one PySem.W.kitx_dict I.kIn ⟨o, h1, h2.1⟩ e (fun z => nomatch z) h
  | @ins a C dx fs ea cl ha hn htk hm =>
    cases (show u = Value.ref a from rx)
    obtain ⟨mA, O, _⟩ := ins_get I.hok ea
    obtain ⟨od, J, _⟩ := O.look
    exact PySem.W.kia_one (PySem.W.kitx_own (cl.get _) cl.hd ha hn htk hm) I.kIn J e (fun z => nomatch z) h
end
end L2
namespace L2
open PySem PySem.Spec PyProof.Rows
structure Room (k : Nat) (A : Around) : Prop where
  hd : A.handled = none
  dp : A.depth + 3 * k + 5 < recursionLimit
  un : A.units + 16 * k + 200 < cLine
theorem Room.mono {j k : Nat} {A : Around} (r : Room k A) (h : j ≤ k) : Room j A := ⟨r.hd, by have := r.dp; omega, by have := r.un; omega⟩
theorem Room.deeper {k : Nat} {A : Around} (r : Room (k + 1) A) (env : Env) : Room k (A.deeper env) :=
  ⟨r.hd, by have := r.dp; show A.depth + 1 + 3 * k + 5 < _; omega, by have := r.un; show A.units + 3 + 16 * k + 200 < _; omega⟩
theorem Room.depth {k : Nat} {A : Around} (r : Room k A) : A.depth < recursionLimit := by have := r.dp; omega
theorem Room.units {k : Nat} {A : Around} (r : Room k A) : A.units + 64 < cLine := by have := r.un; omega
noncomputable def tNil : TA := fun _ H Q => Q [] H
noncomputable def tCons (ta : TE) (tr : TA) : TA := fun σ H Q => ta σ H fun x H1 => tr σ H1 fun xs H2 => Q (x :: xs) H2
section
variable {X : Cx} {e : Expr} {es : List Expr} {te : TE} {t : TA} {pos : Pos}
theorem pa_nil : PA X [] tNil := fun _ _ _ _ H Q I h => Calls.spliced_nil ⟨[], H, I, .nil, h⟩
theorem pa_cons (ha : PE X e te) (hr : PA X es t) (hs : starEach (e :: es) X.env = (false, eval e X.env) :: starEach es X.env := by rfl) : PA X (e :: es) (tCons te t) := by
  intro pos pins s σ H Q I h
  rw [hs]
  show wpAny _ _ (spliced ((false, eval e X.env) :: backTo pos (starEach es X.env))) _ _ s
  refine Calls.spliced_cons (thn (ha pins s σ H _ I h) fun u s1 ⟨x, H1, I1, r1, q1⟩ => ?_)
  exact thn (hr pos pins s1 σ H1 _ I1 q1) fun us s2 ⟨xs, H2, I2, r2, q2⟩ => ⟨x :: xs, H2, I2, .cons r1 r2, q2⟩
noncomputable def tTup (t : TA) : TE := fun σ H Q => t σ H fun xs H1 => xs.length ≤ sizeLine ∧ ∀ p, H1 p = none → Q (.ref p) (upd H1 p (.tup xs))
noncomputable def tLst (t : TA) : TE := fun σ H Q => t σ H fun xs H1 => xs.length ≤ sizeLine ∧ ∀ p, H1 p = none → Q (.ref p) (upd H1 p (.lst xs))
theorem pe_tup {x1} (h : PA X es t) : PE X (.Tuple es x1 pos) (tTup t) := by
  intro pins s σ H Q I hq
  refine wpAny_Tuple_spliced (thn (h pos pins s σ H _ I hq) fun us s1 ⟨xs, H1, I1, r, z, q⟩ => ⟨by rw [← r.length]; exact z, ?_⟩)
  have hf : H1 s1.heap.objs.size = none := I1.hok.fresh (Nat.le_refl _)
  refine ⟨.ref s1.heap.objs.size, upd H1 s1.heap.objs.size (.tup xs), I1.laid (t' := s1.toks) (fun b u e => Heap.get?_push_of_some _ e) (Nat.le_refl _) ?_, rfl, q _ hf⟩
  exact ⟨z, us, r, ⟨_, Heap.get?_push_size _ rfl, rfl, _, rfl⟩⟩
theorem pe_lst (h : PA X es t) : PE X (.List es pos) (tLst t) := by
  intro pins s σ H Q I hq
  refine wpAny_List_spliced (thn (h pos pins s σ H _ I hq) fun us s1 ⟨xs, H1, I1, r, z, q⟩ => ⟨by rw [← r.length]; exact z, ?_⟩)
  have hf : H1 s1.heap.objs.size = none := I1.hok.fresh (Nat.le_refl _)
  refine ⟨.ref s1.heap.objs.size, upd H1 s1.heap.objs.size (.lst xs), I1.laid (t' := s1.toks) (fun b u e => Heap.get?_push_of_some _ e) (Nat.le_refl _) ?_, rfl, q _ hf⟩
  exact ⟨z, us, 0, r, Heap.get?_push_size _ rfl⟩
end
noncomputable abbrev Sp := List V → Hp → VK → XK → Prop
noncomputable abbrev CXT := List Env → Hp → Shared → XK → Value → Shared → Prop
structure Env0 (P : Program) (w : World) (K : PySem.W.Frag) (mg : Str → Option Value) (base : Heap) (A : Around) (outer : List Env) (s : Shared) (H : Hp) : Prop where
  frames : A.frames = some outer
  mod : Mod K mg base
  bs : ∀ b o, base.get? b = some o → s.heap.get? b = some o ∧ H b = none
  bsz : base.objs.size ≤ s.heap.objs.size
  funs : s.heap.FunFrames base outer
  frf : ∀ b ∈ frs outer, H b = none
  hok : HOk P w H s.heap
  bare : AllBare s.gens
noncomputable def CE (outer : List Env) (P : Program) (w : World) (H : Hp) (s : Shared) (Q : VK) (u : Value) (s' : Shared) : Prop :=
  ∃ v H', s'.os = s.os ∧ AllBare s'.gens ∧ Un (frs outer) [] H H' s.heap s'.heap ∧ HOk P w H' s'.heap ∧ RelV v u ∧ Q v H'
noncomputable def CR (CX : CXT) (outer : List Env) (P : Program) (w : World) (H : Hp) (s : Shared) (Q : VK) (E : XK) (r : Result) (s' : Shared) : Prop :=
  match r with
  | .ok (.ret u) => CE outer P w H s Q u s'
  | .ok _ => False
  | .error e => CX outer H s E e s'
structure FnOk (P : Program) (w : World) (K : PySem.W.Frag) (mg : Str → Option Value) (base : Heap) (CX : CXT) (k : Nat) (f : Addr) (fd : FuncData) (ps : List Str) (sp : Sp) : Prop where
  len : ∀ vs H Q E, sp vs H Q E → vs.length = ps.length
  run : ∀ (A : Around) (outer : List Env) (s : Shared) (H : Hp) (args : Args) (us : List Value) (vs : List V) (Q : VK) (E : XK), Room k A → Env0 P w K mg base A outer s H → BindsTo s fd args (ps.zip us) → Vals vs us → sp vs H Q E →
    codeAny (model P w) A (.call (.ref f) args) (CR CX outer P w H s Q E) s
section
variable {X : Cx} {pins : List (Addr × Obj)} {σ : St} {H : Hp} {s s' : Shared}
theorem Inv.env0 (I : Inv X pins σ H s) : Env0 X.prog X.w X.K X.mg X.base X.A X.stack s H :=
  ⟨I.ok.frames, I.ok.mod, I.bs, Nat.le_trans I.ok.bsz I.sz, I.stack, I.stkFree, I.hok, I.bare⟩
theorem Inv.after {Q : VK} {u : Value} (I : Inv X pins σ H s) (h : CE X.stack X.prog X.w H s Q u s') : EP X pins σ Q u s' := by
  obtain ⟨v, H', os, bare, un, hok, r, q⟩ := h
  obtain ⟨hh, g, d, t, os'⟩ := s'
  obtain rfl : os' = s.os := os
  exact ⟨v, H', I.call (h' := hh) (g' := g) (d' := d) (t' := t) (ch := []) un hok bare (fun b z => absurd z (by simp)), r, q⟩
end
noncomputable def tCall (sp : Sp) (dvs : List V) (E : XK) (t : TA) : TE := fun σ H Q => t σ H fun vs H1 => sp (vs ++ dvs) H1 Q E
noncomputable def Binds (K : PySem.W.Frag) (fd : FuncData) (ps : List Str) (ds : List Value) : Prop :=
  ∀ (s : Shared) (us : List Value), K.In s.heap → (us ++ ds).length = ps.length → BindsTo s fd ⟨us, []⟩ (ps.zip (us ++ ds))
theorem Binds.all {K : PySem.W.Frag} {fd : FuncData} {ps : List Str} (h : ∀ us : List Value, us.length = ps.length → bindArgs fd ⟨us, []⟩ = pure (ps.zip us)) : Binds K fd ps [] := fun s us _ hl => by
  rw [List.append_nil] at hl ⊢
  exact .of_eq (h us hl)
noncomputable def Passes (CX : CXT) (X : Cx) (E : XK) : Prop := ∀ (pins : List (Addr × Obj)) (σ : St) (H : Hp) (s : Shared) (e : Value) (s' : Shared), Inv X pins σ H s → CX X.stack H s E e s' → X.xe e s'
section
variable {X : Cx} {CX : CXT} {k : Nat} {f C : Addr} {fd : FuncData} {ps : List Str} {sp : Sp} {dvs : List V} {ds : List Value} {E : XK} {x m : Str} {p pos apos : Pos} {e o : Expr} {es : List Expr} {ta : TE} {t : TA}
theorem run_fn {pins : List (Addr × Obj)} {σ : St} {H : Hp} {s : Shared} {Q : VK} {us : List Value} {vs : List V} (F : FnOk X.prog X.w X.K X.mg X.base CX k f fd ps sp) (hr : Room k X.A) (hb : Binds X.K fd ps ds) (hd : Vals dvs ds) (hx : Passes CX X E)
    (I : Inv X pins σ H s) (r : Vals vs us) (h : sp (vs ++ dvs) H Q E) : wpAny (model X.prog X.w) X.A (call (.ref f) us) (EP X pins σ Q) X.xe s := by
  have r2 : Vals (vs ++ dvs) (us ++ ds) := r.append hd
  have hl : (us ++ ds).length = ps.length := by rw [← r2.length]; exact F.len _ _ _ _ h
  refine wpAny_call (codeAny_mono (F.run X.A X.stack s H ⟨us, []⟩ (us ++ ds) (vs ++ dvs) Q E hr I.env0 (hb s us I.kIn hl) r2 h) fun r s' hq => ?_)
  cases r with
  | error e => exact hx pins σ H s e s' I hq
  | ok fl =>
    cases fl with
    | ret u => exact I.after hq
    | next => exact False.elim hq
    | brk => exact False.elim hq
    | cont => exact False.elim hq
theorem pe_call (F : FnOk X.prog X.w X.K X.mg X.base CX k f fd ps sp) (hr : Room k X.A) (hg : Gl X x) (hm : X.mg x = some (.ref f)) (hk : PySem.W.keepIn X.K (.ref f) = true) (hb : Binds X.K fd ps ds) (hd : Vals dvs ds) (hx : Passes CX X E)
    (ha : PA X (e :: es) t) (hdb : (x == ("__debug__" : Str)) = false := by decide) (he : starEach (e :: es) X.env = (false, eval e X.env) :: starEach es X.env := by rfl) (hpl : (backTo pos (starEach es X.env)).any (·.1) = false := by rfl) :
    PE X (.Call (.Name x p) (e :: es) [] pos) (tCall sp dvs E t) := by
  intro pins s σ H Q I h
  refine wpAny_Call_Name_kw (ld_glob I hg hm ?_ hdb)
  refine PySem.W.callWith_K (h₀ := X.base) I.ok.mod.kin hk (thn (ha pos pins s σ H _ I h) fun us s1 ⟨vs, H1, I1, r, q⟩ => ⟨I1.kIn, ?_⟩) he hpl
  exact run_fn F hr hb hd hx I1 r q
end
section
variable {X : Cx} {CX : CXT} {k : Nat} {f C : Addr} {fd : FuncData} {ps ks : List Str} {sp : Sp} {E : XK} {x m : Str} {p pos apos kpos : Pos} {e o : Expr} {es : List Expr} {kws : List Keyword} {te ta : TE} {t tk : TA} {nm : Option Str}
variable {g : List Value → List Value → List Value} {gV : List V → List V → List V}
end
structure FnScope (N P : List Str) (sc : Scope) : Prop where
  kind : sc.kind = .function
  co : sc.isCoroutine = false
  gen : sc.isGenerator = false
  nd : N.Nodup
  pre : N.take P.length = P
  par : ∀ x ∈ P, sc.names.lookup x = some .local ∨ sc.names.lookup x = some .cell
  nofree : ∀ y ∈ sc.names, y.2 ≠ .free
theorem bindL_out {kindOf : Str → Option NameKind} {x : Str} : ∀ {binds : List (Str × Value)} {m : Str → Option Value}, (∀ v, (x, v) ∉ binds) → bindL kindOf binds m x = m x
  | [], _, _ => rfl
  | (n, v) :: r, m, h => by
    unfold bindL
    rw [bindL_out fun w hw => h w (List.mem_cons_of_mem _ hw)]
    split
    · have : x ≠ n := by rintro rfl; exact h v List.mem_cons_self
      simp [this]
    · rfl
theorem bindC_out {kindOf : Str → Option NameKind} {x : Str} : ∀ {binds : List (Str × Value)} {m : Str → Option Value}, (∀ v, (x, v) ∉ binds) → bindC kindOf binds m x = m x
  | [], _, _ => rfl
  | (n, v) :: r, m, h => by
    unfold bindC
    rw [bindC_out fun w hw => h w (List.mem_cons_of_mem _ hw)]
    split
    · rfl
    · have : x ≠ n := by rintro rfl; exact h v List.mem_cons_self
      simp [this]
theorem bindL_get {kindOf : Str → Option NameKind} {x : Str} {v : Value} : ∀ {P : List Str} {vs : List Value} {i : Nat} {m : Str → Option Value}, P.Nodup → P[i]? = some x → vs[i]? = some v → kindOf x = some .local →
    bindL kindOf (P.zip vs) m x = some v
  | [], _, _, _, _, h, _, _ => by simp at h
  | _ :: _, [], _, _, _, _, h, _ => by simp at h
  | p :: P, w :: vs, 0, m, nd, h1, h2, hk => by
    simp at h1 h2; subst h1; subst h2
    show bindL kindOf ((p, w) :: P.zip vs) m p = _
    unfold bindL
    rw [bindL_out fun v hv => (List.nodup_cons.mp nd).1 (List.of_mem_zip hv).1, if_pos hk]
    simp
  | p :: P, w :: vs, i + 1, m, nd, h1, h2, hk => by
    show bindL kindOf ((p, w) :: P.zip vs) m x = _
    unfold bindL
    exact bindL_get (i := i) (List.nodup_cons.mp nd).2 (by simpa using h1) (by simpa using h2) hk
theorem bindC_get {kindOf : Str → Option NameKind} {x : Str} {v : Value} : ∀ {P : List Str} {vs : List Value} {i : Nat} {m : Str → Option Value}, P.Nodup → P[i]? = some x → vs[i]? = some v → kindOf x ≠ some .local →
    bindC kindOf (P.zip vs) m x = some v
  | [], _, _, _, _, h, _, _ => by simp at h
  | _ :: _, [], _, _, _, _, h, _ => by simp at h
  | p :: P, w :: vs, 0, m, nd, h1, h2, hk => by
    simp at h1 h2; subst h1; subst h2
    show bindC kindOf ((p, w) :: P.zip vs) m p = _
    unfold bindC
    rw [bindC_out fun v hv => (List.nodup_cons.mp nd).1 (List.of_mem_zip hv).1, if_neg hk]
    simp
  | p :: P, w :: vs, i + 1, m, nd, h1, h2, hk => by
    show bindC kindOf ((p, w) :: P.zip vs) m x = _
    unfold bindC
    exact bindC_get (i := i) (List.nodup_cons.mp nd).2 (by simpa using h1) (by simpa using h2) hk
noncomputable def start (N : List Str) (vs : List V) : St := vs.map some ++ List.replicate (N.length - vs.length) none
noncomputable def cxOf (CX : CXT) (P : Program) (w : World) (K : PySem.W.Frag) (mg : Str → Option Value) (base : Heap) (N : List Str) (qual : Str) (scope : Scope) (f : Addr) (cd : Value) (A : Around) (outer : List Env) (s : Shared) (H : Hp) (E : XK) : Cx where
  prog := P
  w := w
  K := K
  mg := mg
  base := base
  A := A.deeper (envOfC qual scope s.heap.objs.size f cd)
  N := N
  s₀ := s
  H₀ := H
  env := envOfC qual scope s.heap.objs.size f cd
  outer := outer
  stack := envOfC qual scope s.heap.objs.size f cd :: outer
  ex := []
  calm := true
  fn := fun _ => true
  pn := []
  xe := fun e s' => wpAny (model P w) (A.deeper (envOfC qual scope s.heap.objs.size f cd)) (leaving (envOfC qual scope s.heap.objs.size f cd) e) (fun _ s'' => CX outer H s E e s'') (fun e' s'' => CX outer H s E e' s'') s'
theorem cell_has {sc : Scope} {n : Nat} {x : Str} (h : sc.names.lookup x = some .cell) : ∃ c, (cellsFrom n sc.names []).lookup x = some c := by
  have q := PySem.W.cellsFrom_some sc.names n [] (.inl h)
  exact Option.isSome_iff_exists.mp q
theorem inv_start {CX : CXT} {P : Program} {w : World} {K : PySem.W.Frag} {mg : Str → Option Value} {base : Heap} {N ps : List Str} {qual : Str} {scope : Scope} {f : Addr} {cd : Value} {A : Around} {outer : List Env} {s s1 : Shared} {H : Hp} {E : XK} {us : List Value} {vs : List V}
    (S : FnScope N ps scope) (hd : A.handled = none) (e0 : Env0 P w K mg base A outer s H) (hl : vs.length = ps.length) (r : Vals vs us)
    (x : InCallC s s.heap.objs.size (bindL (envOfC qual scope s.heap.objs.size f cd).kindOf (ps.zip us) fun _ => none) (cellsFrom (s.heap.objs.size + 1) scope.names []) (bindC (envOfC qual scope s.heap.objs.size f cd).kindOf (ps.zip us) fun _ => none) s1) :
    Inv (cxOf CX P w K mg base N qual scope f cd A outer s H E) [] (start N vs) H s1 := by
  have hpl : ps.length ≤ N.length := by have := congrArg List.length S.pre; rw [List.length_take] at this; omega
  obtain ⟨h1, tk, rfl, hk⟩ := x.done
  have noA : ∀ b : Addr, b ∉ (cxOf CX P w K mg base N qual scope f cd A outer s H E).ex := fun b z => absurd (show b ∈ ([] : List Addr) from z) (by simp)
  refine ⟨⟨e0.mod, S.kind, rfl, rfl, Nat.le_refl _, fun y z c h1 h2 => ?_, fun y hy => ?_, fun y c _ h => ?_, fun _ => hd, Around.frames_deeper e0.frames, .inr ⟨rfl, rfl⟩, fun b z => absurd z (noA b), e0.bs, e0.bsz, fun b _ _ => noA b, fun b z => absurd z (noA b), e0.funs, e0.frf⟩,
    rfl, e0.bare, Un.kept hk, ⟨_, x.toInCall.ns, fun i y v h1 h2 h3 => ?_⟩, fun y c h => ⟨_, x.cell y c h⟩, e0.hok.fresh (Nat.le_refl _), fun y c h => ?_, fun p hp => absurd (show p ∈ ([] : List (Addr × Obj)) from hp) (by simp), e0.hok.kept hk, ?_⟩
  · exact name_of_addr x.apart (PySem.mem_of_lookup h1) (PySem.mem_of_lookup h2)
  · have hy : scope.names.lookup y = some .cell ∨ scope.names.lookup y = some .free := hy
    rcases hy with hy | hy
    · exact cell_has hy
    · exact absurd rfl (S.nofree _ (PySem.mem_of_lookup hy))
  · exact Nat.le_of_lt (x.above y c (PySem.mem_of_lookup h))
  · have hi : i < vs.length := by
      unfold start at h2
      by_cases hi : i < vs.length
      · exact hi
      · rw [List.getElem?_append_right (by simpa using hi)] at h2
        rw [List.getElem?_replicate] at h2
        split at h2 <;> cases h2
    have ha : vs[i]? = some v := by
      unfold start at h2
      rw [List.getElem?_append_left (by simpa using hi), List.getElem?_map] at h2
      cases e : vs[i]? with
      | none => rw [e] at h2; cases h2
      | some a => rw [e] at h2; cases h2; rfl
    obtain ⟨u, hu, rv⟩ := r.get ha
    have hp : ps[i]? = some y := by
      rw [← S.pre, List.getElem?_take_of_lt (by omega)]; exact h1
    have ndP : ps.Nodup := by rw [← S.pre]; exact S.nd.sublist (List.take_sublist _ _)
    refine ⟨u, rv, ?_⟩
    rcases S.par y (List.mem_of_getElem? hp) with k | k
    · exact .inl ⟨k, bindL_get ndP hp hu k⟩
    · obtain ⟨c, e⟩ := cell_has (n := s.heap.objs.size + 1) k
      refine .inr ⟨.inl k, c, e, ?_⟩
      have q := x.cell y c e
      rw [bindC_get ndP hp hu (by show scope.names.lookup y ≠ _; rw [k]; decide)] at q
      exact q
  · exact e0.hok.fresh (Nat.le_of_lt (x.above y c (PySem.mem_of_lookup h)))
  · unfold start
    show _ = N.length
    rw [List.length_append, List.length_map, List.length_replicate]
    omega
theorem fn_of {CX : CXT} {P : Program} {w : World} {K : PySem.W.Frag} {mg : Str → Option Value} {base : Heap} {k : Nat} {f : Addr} {name qual : Str} {params : Arguments} {body : List Stmt} {scope : Scope} {dV kV doc pm cdv ct oc : Value} {an od : Option Addr}
    {osl : Array (Option Value)} {N ps : List Str} {sp : Sp} (lk : K.lookup f = some ⟨oc, od, .func (PySem.W.fnOf name qual params body scope dV kV doc pm an cdv ct), osl⟩) (hcd : PySem.W.codeIn K cdv qual = true) (S : FnScope N ps scope)
    (len : ∀ vs H Q E, sp vs H Q E → vs.length = ps.length)
    (hbody : ∀ (A : Around) (outer : List Env) (s : Shared) (H : Hp) (vs : List V) (Q : VK) (E : XK), Room k (A.deeper (envOfC qual scope s.heap.objs.size f cdv)) → sp vs H Q E →
      ∃ t, PSs (cxOf CX P w K mg base N qual scope f cdv A outer s H E) body t ∧ t { nx := fun _ H' => Q .non H', rt := Q } (start N vs) H) :
    FnOk P w K mg base CX (k + 1) f (PySem.W.fnOf name qual params body scope dV kV doc pm an cdv ct) ps sp := by
  refine ⟨len, fun A outer s H args us vs Q E hr e0 hb r hsp => ?_⟩
  have hl := len _ _ _ _ hsp
  have KX : K.In s.heap := e0.mod.kin.keeps fun b o e => (e0.bs b o e).1
  have lim : s.heap.NoLimit := e0.mod.nolimit.keeps fun b o e => (e0.bs b o e).1
  have hkind : ∀ y ∈ ps.zip us, scope.names.lookup y.1 = some .local ∨ (scope.names.lookup y.1 = some .cell ∧ ((cellsFrom (s.heap.objs.size + 1) scope.names []).lookup y.1).isSome = true) := fun ⟨n, v⟩ hy => by
    rcases S.par n (List.of_mem_zip hy).1 with q | q
    · exact .inl q
    · exact .inr ⟨q, PySem.W.cellsFrom_some _ _ _ (.inl q)⟩
  refine codeAny_call_function hr.depth (KX _ _ lk) rfl S.co S.gen rfl (PySem.W.codeRec_of KX hcd) (hb _ _ _ _ ?_)
  refine wpAny_newFunctionEnv_cells S.kind hkind fun env he s1 x => ?_
  subst he
  refine ⟨lim.keeps x.toInCall.keep, codeAny_func ?_⟩
  obtain ⟨t, ht, hq⟩ := hbody A outer s H vs Q E (hr.deeper _) hsp
  have I : Inv (cxOf CX P w K mg base N qual scope f cdv A outer s H E) [] (start N vs) H s1 := inv_start S hr.hd e0 hl r x
  refine wpAny_mono (ht [] s1 (start N vs) H _ I hq) (fun fl s' hs => ?_) fun e s' hs => hs
  have fin : ∀ {σ' : St} {H' : Hp} {v : V} {u : Value}, Inv (cxOf CX P w K mg base N qual scope f cdv A outer s H E) [] σ' H' s' → RelV v u → Q v H' → CE outer P w H s Q u s' :=
    fun {σ' H' v u} J rv q => ⟨v, H', J.os, J.bare, J.base, J.hok, rv, q⟩
  cases fl with
  | ret u =>
    obtain ⟨v, σ', H', J, rv, q⟩ := hs
    exact fin J rv q
  | next =>
    obtain ⟨σ', H', J, q⟩ := hs
    exact fin (v := V.non) (u := Value.none) J rfl q
  | brk =>
    obtain ⟨_, _, _, q⟩ := hs
    exact False.elim q
  | cont =>
    obtain ⟨_, _, _, q⟩ := hs
    exact False.elim q
end L2
namespace L2
open PySem PySem.Spec PyProof.Rows
section
variable {X : Cx} {x : Str} {p pos : Pos} {e : Expr} {es : List Expr} {t : TA} {id T : String} {r : List V → Hp → VK → Prop}
noncomputable def tCB (r : List V → Hp → VK → Prop) (t : TA) : TE := fun σ H Q => t σ H fun vs H1 => r vs H1 Q
theorem pe_callB (hc : CallR X (.builtin id) r) (hg : Gl X x) (hm : X.mg x = none) (hv : bootBuiltins x = some (.builtin id)) (ha : PA X (e :: es) t) (hn : x ≠ "__name__" := by decide) (hdb : (x == ("__debug__" : Str)) = false := by decide)
    (he : starEach (e :: es) X.env = (false, eval e X.env) :: starEach es X.env := by rfl) (hpl : (backTo pos (starEach es X.env)).any (·.1) = false := by rfl) : PE X (.Call (.Name x p) (e :: es) [] pos) (tCB r t) := by
  intro pins s σ H Q I h
  refine wpAny_Call_Name_kw (ld_blt I hg hm hv ?_ hn hdb)
  exact PyProof.Rows.callWith_builtin1 (thn (ha pos pins s σ H _ I h) fun us s1 ⟨vs, H1, I1, r1, q1⟩ => hc pins s1 σ H1 vs us Q I1 r1 q1) he hpl
theorem pe_callTy (hc : CallR X (.type T) r) (hg : Gl X x) (hm : X.mg x = none) (hv : bootBuiltins x = some (.type T)) (ha : PA X (e :: es) t) (hn : x ≠ "__name__" := by decide) (hdb : (x == ("__debug__" : Str)) = false := by decide)
    (he : starEach (e :: es) X.env = (false, eval e X.env) :: starEach es X.env := by rfl) (hpl : (backTo pos (starEach es X.env)).any (·.1) = false := by rfl) : PE X (.Call (.Name x p) (e :: es) [] pos) (tCB r t) := by
  intro pins s σ H Q I h
  refine wpAny_Call_Name_kw (ld_blt I hg hm hv ?_ hn hdb)
  exact PyProof.Rows.callWith_type1 (thn (ha pos pins s σ H _ I h) fun us s1 ⟨vs, H1, I1, r1, q1⟩ => hc pins s1 σ H1 vs us Q I1 r1 q1) he hpl
end
end L2
namespace HT
open PySem PyProof.Rows
section
open PySem.SeqAt
open PySem.AutoSeq1 (wpAny_loadPart')
open PySem.MeetsSeq PySem.MeetsSeq2 PySem.MeetsSeq3
end
section
variable {prog : Program} {w : World} {A : Around} {E : Value → Shared → Prop} {s : Shared}
theorem cat_tup {t b : Addr} {vs ws : List Value} {Q : Value → Shared → Prop} (ht : IsTup s.heap t vs.toArray) (hb : IsTup s.heap b ws.toArray) (hv : vs ≠ [])
    (h1 : ws = [] → Q (.ref t) s) (h2 : ws ≠ [] → Q (.ref s.heap.objs.size) { s with heap := s.heap.push { cls := .type "tuple", data := .seq (vs ++ ws).toArray } })
    (hsz : vs.length + ws.length ≤ sizeLine) : wpAny (model prog w) A (binaryOp .Add (.ref t) (.ref b)) Q E s := by
  obtain ⟨⟨cls, dd, data, sl⟩, ho, hc, n, hd⟩ := id ht
  obtain ⟨⟨cls2, dd2, data2, sl2⟩, ho2, hc2, n2, hd2⟩ := id hb
  simp only at hc hd hc2 hd2
  subst hc hd hc2 hd2
  have e : vs.toArray ++ ws.toArray = (vs ++ ws).toArray := by simp
  by_cases hw : ws = []
  · exact concat_meets ⟨_, ho, rfl⟩ ⟨_, ho2, rfl⟩ noFill_tuple_add seq_tuple_add PySem.F.slot_tuple_add PySem.F.entry_tuple_add (PySem.F.args_tuple_add_2 _ _)
      (tuple_addW1 t b vs.toArray ws.toArray n n2 dd dd2 sl sl2 (by simpa using hv) (by simp [hw])) ⟨ho, ho2, h1 hw⟩
  · refine concat_meets ⟨_, ho, rfl⟩ ⟨_, ho2, rfl⟩ noFill_tuple_add seq_tuple_add PySem.F.slot_tuple_add PySem.F.entry_tuple_add (PySem.F.args_tuple_add_2 _ _)
      (tuple_addW2 t b vs.toArray ws.toArray n n2 dd dd2 sl sl2 (by simpa using hv) (by simpa using hw) (by rw [List.size_toArray, List.size_toArray]; exact hsz)) ⟨ho, ho2, ?_⟩
    rw [e]
    exact h2 hw
noncomputable def sIx (n d : Nat) : Option Int → Nat
  | none => d
  | some v => if v < 0 then (v + (n : Int)).toNat else min v.toNat n
theorem sIx_none (n d : Nat) : sIx n d none = d := rfl
theorem sIx_nat (n d k : Nat) : sIx n d (some (k : Int)) = min k n := by
  show (if (k : Int) < 0 then ((k : Int) + (n : Int)).toNat else min (k : Int).toNat n) = min k n
  rw [if_neg (by omega), Int.toNat_natCast]
theorem sIx_le (n d : Nat) (hd : d ≤ n) (o : Option Int) : sIx n d o ≤ n := by
  cases o with
  | none => exact hd
  | some v =>
    show (if v < 0 then (v + (n : Int)).toNat else min v.toNat n) ≤ n
    by_cases hv : v < 0
    · rw [if_pos hv]; omega
    · rw [if_neg hv]; exact Nat.min_le_right _ _
theorem clip_eq (v : Int) (n d : Nat) : (if v < 0 then max (v + (n : Int)) 0 else min v (n : Int)) = ((sIx n d (some v) : Nat) : Int) := by
  show (if v < 0 then max (v + (n : Int)) 0 else min v (n : Int)) = (((if v < 0 then (v + (n : Int)).toNat else min v.toNat n) : Nat) : Int)
  by_cases hv : v < 0
  · simp only [if_pos hv]; omega
  · simp only [if_neg hv]; omega
theorem adjust_gen (lo hi : Option Int) (n : Nat) : Builtin.Slice.sliceAdjust lo hi 1 (n : Int) = (((sIx n 0 lo : Nat) : Int), ((sIx n n hi : Nat) : Int)) := by
  have h1 : ¬ ((1 : Int) < 0) := by omega
  unfold Builtin.Slice.sliceAdjust
  simp only [h1, if_false]
  refine Prod.ext ?_ ?_
  · cases lo with
    | none => rfl
    | some v => exact clip_eq v n 0
  · cases hi with
    | none => rfl
    | some v => exact clip_eq v n n
theorem places_gen (i j : Nat) : Builtin.Slice.slicePlaces (i : Int) (j : Int) 1 = j - i := by
  unfold Builtin.Slice.slicePlaces
  have h1 : (1 : Int) > 0 := by omega
  simp only [h1, if_true, Int.ediv_one]
  split <;> omega
theorem slicePart_ {v : Value} {o : Option Int} {Q : Option Int → Shared → Prop} (p : IsPart v o) (h : Q o s) : wpAny (model prog w) A (Builtin.Slice.slicePartIndex v) Q E s := by
  cases p with
  | none => exact slicePart_none h
  | int i t => exact slicePart_int h
theorem sliceApplied_gen {sl : Addr} {vl vu : Value} {lo hi : Option Int} {n : Nat} {Q : Int × Int × Nat → Shared → Prop} (hs : s.heap.IsSliceOf sl vl vu .none) (pl : IsPart vl lo) (pu : IsPart vu hi)
    (h : Q (((sIx n 0 lo : Nat) : Int), 1, sIx n n hi - sIx n 0 lo) s) : wpAny (model prog w) A (Builtin.Slice.sliceApplied (.ref sl) (pure (n : Int))) Q E s := by
  obtain ⟨os, hos, hcs, hds⟩ := id hs
  unfold Builtin.Slice.sliceApplied Builtin.Slice.sliceFields
  refine wpAny_bind (wpAny_bind (wpAny_field hos hds (x := vl) rfl (wpAny_bind (wpAny_field hos hds (x := vu) rfl (wpAny_bind (wpAny_field hos hds (x := .none) rfl (wpAny_pure ?_)))))))
  refine wpAny_bind (slicePart_none ?_)
  show wpAny _ _ (if ((1 : Int) == 0) = true then _ else _) _ _ s
  rw [if_neg (by decide)]
  refine wpAny_bind (slicePart_ pl (wpAny_bind (slicePart_ pu (wpAny_bind (wpAny_pure ?_)))))
  show wpAny _ _ (match Builtin.Slice.sliceAdjust lo hi 1 (n : Int) with | (lo, hi) => pure (lo, (1 : Int), Builtin.Slice.slicePlaces lo hi 1)) _ _ s
  rw [adjust_gen lo hi n]
  show wpAny _ _ (pure (((sIx n 0 lo : Nat) : Int), (1 : Int), Builtin.Slice.slicePlaces ((sIx n 0 lo : Nat) : Int) ((sIx n n hi : Nat) : Int) 1)) _ _ s
  rw [places_gen]
  exact wpAny_pure h
theorem pick_gen (xs : Array Value) (i k : Nat) : ((List.range k).filterMap fun (m : Nat) => xs[((i : Int) + (m : Int) * 1).toNat]?).toArray = ((xs.toList.drop i).take k).toArray := by
  have e : (fun (m : Nat) => xs[((i : Int) + (m : Int) * 1).toNat]?) = fun m => xs[i + m]? := by
    funext m
    have : ((i : Int) + (m : Int) * 1).toNat = i + m := by omega
    rw [this]
  rw [e]
  have := pick_run xs i k
  rw [List.filterMap_map] at this
  have e2 : ((fun x => xs[x]?) ∘ fun x => i + x) = fun m => xs[i + m]? := rfl
  rw [e2] at this
  rw [this]
theorem getItem_tuple_cut {t sl : Addr} {items : Array Value} {vl vu : Value} {lo hi : Option Int} {Q : Value → Shared → Prop} (ht : IsTup s.heap t items) (hs : s.heap.IsSliceOf sl vl vu .none) (pl : IsPart vl lo) (pu : IsPart vu hi)
    (hw : ¬ (sIx items.size 0 lo = 0 ∧ sIx items.size items.size hi = items.size))
    (h : Q (.ref s.heap.objs.size) { s with heap := s.heap.push { cls := .type "tuple", data := .seq ((items.toList.drop (sIx items.size 0 lo)).take (sIx items.size items.size hi - sIx items.size 0 lo)).toArray } })
    (hsz : items.size ≤ sizeLine) : wpAny (model prog w) A (getItem (.ref t) (.ref sl)) Q E s := by
  have htake : sizeOk (.seq ((items.toList.drop (sIx items.size 0 lo)).take (sIx items.size items.size hi - sIx items.size 0 lo)).toArray) := by
    show ((items.toList.drop (sIx items.size 0 lo)).take (sIx items.size items.size hi - sIx items.size 0 lo)).toArray.size ≤ sizeLine
    rw [List.size_toArray, List.length_take, List.length_drop, Array.length_toList]
    omega
  have hj : sIx items.size items.size hi ≤ items.size := sIx_le _ _ (Nat.le_refl _) hi
  obtain ⟨os, hos, hcs, hds⟩ := id hs
  have hTs : s.TypeIs (.ref sl) "slice" := ⟨os, hos, hcs⟩
  unfold getItem
  try with_reducible refine wpAny_holding ?_
  first | refine wpAny_bind (wpAny_pure ?_) | skip
  refine wpAny_bind (wpAny_sequenceKey ht.typeIs (by decide) ?_)
  refine wpAny_bind (wpAny_callSpecial?_slot (name := Str.ofString "__getitem__") ht.typeIs PyProof.Rows.slot_tuple_getitem
    (wpAny_call_entry PyProof.Rows.slot_tuple_getitem ht.typeIs entry_tuple_getitem ?_ (args_tuple_getitem _ _)))
  show wpAny _ _ (Builtin.Tuple.tupleItemsOf (.ref t) >>= _) _ _ s
  refine wpAny_bind (tupleItemsOf_ ht ?_)
  refine wpAny_bind (wpAny_typeOf hTs ?_)
  rw [if_pos (by decide)]
  refine wpAny_bind (sliceApplied_gen hs pl pu ?_)
  have hno : ¬ ((((sIx items.size 0 lo : Nat) : Int) == 0 && (1 : Int) == 1 && (sIx items.size items.size hi - sIx items.size 0 lo) == items.size) = true) := by
    intro q
    rw [Bool.and_eq_true, Bool.and_eq_true] at q
    have q1 : ((sIx items.size 0 lo : Nat) : Int) = 0 := eq_of_beq q.1.1
    have q2 : sIx items.size items.size hi - sIx items.size 0 lo = items.size := eq_of_beq q.2
    exact hw ⟨by omega, by omega⟩
  show wpAny _ _ (if (((sIx items.size 0 lo : Nat) : Int) == 0 && (1 : Int) == 1 && (sIx items.size items.size hi - sIx items.size 0 lo) == items.size) = true then _ else _) _ _ s
  rw [if_neg hno, pick_gen]
  first
    | exact wpAny_bind (m := Builtin.Tuple.tupleExact _) (wpAny_newObj_type (wpAny_pure ⟨_, rfl, wpAny_pure h⟩) htake)
    | exact wpAny_bind (m := Builtin.Tuple.tupleExact _) (wpAny_newObj_type (wpAny_bind (wpAny_pure (wpAny_pure ⟨_, rfl, wpAny_pure h⟩))) htake)
    | exact wpAny_bind (wpAny_bind (m := Builtin.Tuple.tupleExact _) (wpAny_newObj_type (wpAny_pure (wpAny_pure ⟨_, rfl, wpAny_pure h⟩)) htake))
    | exact wpAny_bind (wpAny_bind (m := Builtin.Tuple.tupleExact _) (wpAny_newObj_type (wpAny_pure ⟨_, rfl, wpAny_pure h⟩) htake))
end
end HT
namespace L2
open PySem PySem.Spec PyProof.Rows
noncomputable abbrev TO := St → Hp → (Option Int → Hp → Prop) → Prop
noncomputable def PO (X : Cx) (e : Option Expr) (t : TO) : Prop :=
  ∀ (pins : List (Addr × Obj)) (s : Shared) (σ : St) (H : Hp) (Q : Option Int → Hp → Prop), Inv X pins σ H s → t σ H Q →
    wpAny (model X.prog X.w) X.A (evalPart e X.env) (fun u s' => ∃ o H', Inv X pins σ H' s' ∧ IsPart u o ∧ Q o H') X.xe s
noncomputable def tNoPart : TO := fun _ H Q => Q none H
noncomputable def tPart (t : TE) : TO := fun σ H Q => t σ H fun x H1 => ∃ i, x = .int i ∧ Q (some i) H1
section
variable {X : Cx} {e : Expr} {te : TE} {lo hi : Option Expr} {tl th : TO} {pos p2 : Pos}
theorem po_none : PO X none tNoPart := by
  intro pins s σ H Q I h
  rw [evalPart_none]
  exact wpAny_pure ⟨none, H, I, .none, h⟩
theorem po_some (h : PE X e te) : PO X (some e) (tPart te) := by
  intro pins s σ H Q I hw
  rw [evalPart_some]
  refine thn (h pins s σ H _ I hw) fun u s1 ⟨x, H1, I1, r1, q1⟩ => ?_
  obtain ⟨i, rfl, q⟩ := q1
  obtain ⟨t, rfl⟩ := r1
  exact ⟨some i, H1, I1, .int i t, q⟩
noncomputable def SlR (X : Cx) (r : V → Option Int → Option Int → Hp → VK → Prop) : Prop :=
  ∀ (pins : List (Addr × Obj)) (s : Shared) (σ : St) (H : Hp) (x : V) (v vl vu : Value) (lo hi : Option Int) (sl : Addr) (Q : VK), Inv X pins σ H s → RelV x v → s.heap.IsSliceOf sl vl vu .none → IsPart vl lo → IsPart vu hi → r x lo hi H Q →
    ∃ T id, typeLookup (.type T) "__getitem__" = pure (some (.builtin id)) ∧ s.TypeIs v T ∧ wpAny (model X.prog X.w) X.A (getItem v (.ref sl)) (EP X pins σ Q) X.xe s
noncomputable def tSl (r : V → Option Int → Option Int → Hp → VK → Prop) (te : TE) (tl th : TO) : TE := fun σ H Q => te σ H fun x H1 => tl σ H1 fun l H2 => th σ H2 fun u H3 => r x l u H3 Q
theorem pe_slice {r : V → Option Int → Option Int → Hp → VK → Prop} (hr : SlR X r) (he : PE X e te) (hl : PO X lo tl) (hu : PO X hi th) : PE X (.Subscript e (.Slice lo hi none p2) pos) (tSl r te tl th) := by
  intro pins s σ H Q I h
  refine Subscript_ (thn (he pins s σ H _ I h) fun v s1 ⟨x, H1, I1, r1, q1⟩ => ?_)
  refine wpAny_Slice (thn (hl pins s1 σ H1 _ I1 q1) fun vl s2 ⟨l, H2, I2, pl, q2⟩ => thn (hu pins s2 σ H2 _ I2 q2) fun vu s3 ⟨u, H3, I3, pu, q3⟩ => ?_)
  rw [evalPart_none]
  refine wpAny_pure ?_
  have I4 : Inv X pins σ H3 { s3 with heap := s3.heap.push { cls := .type "slice", data := .fields #[vl, vu, .none] } } := I3.kept (t' := s3.toks) fun b ob q => Heap.get?_push_of_some _ q
  obtain ⟨T, id, hT, ht, hg⟩ := hr pins { s3 with heap := s3.heap.push { cls := .type "slice", data := .fields #[vl, vu, .none] } } σ H3 x v vl vu l u s3.heap.objs.size Q I4 r1 (Heap.IsSliceOf.new ..) pl pu q3
  show wpAny (model X.prog X.w) X.A (subscriptTail e (.Slice lo hi none p2) v (.ref s3.heap.objs.size)) (EP X pins σ Q) X.xe { s3 with heap := s3.heap.push { cls := .type "slice", data := .fields #[vl, vu, .none] } }
  exact tail_any (ops := [.ref s3.heap.objs.size, v]) ht hT hg (by with_unfolding_all rfl)
noncomputable def cutV (xs : List V) (lo hi : Option Int) : List V := (xs.drop (HT.sIx xs.length 0 lo)).take (HT.sIx xs.length xs.length hi - HT.sIx xs.length 0 lo)
theorem cutV_length (xs : List V) (lo hi : Option Int) : (cutV xs lo hi).length ≤ xs.length := by
  unfold cutV
  rw [List.length_take, List.length_drop]
  omega
noncomputable def rSlT (K : PySem.W.Frag) : V → Option Int → Option Int → Hp → VK → Prop := fun x lo hi H Q => ∃ a xs, x = .ref a ∧ SqT K H a xs ∧
  ¬ (HT.sIx xs.length 0 lo = 0 ∧ HT.sIx xs.length xs.length hi = xs.length) ∧ ∀ p, H p = none → Q (.ref p) (upd H p (.tup (cutV xs lo hi)))
theorem sl_tup : SlR X (rSlT X.K) := by
  intro pins s σ H x v vl vu lo hi sl Q I rx hs pl pu h
  obtain ⟨a, xs, rfl, hx, hw, q⟩ := h
  cases rx
  obtain ⟨its, r, ht, hz⟩ := I.tuple hx
  have hlen : its.toArray.size = xs.length := by rw [List.size_toArray]; exact r.length.symm
  refine ⟨"tuple", _, PyProof.Rows.slot_tuple_getitem.lookup, ht.typeIs, ?_⟩
  refine HT.getItem_tuple_cut ht hs pl pu (by rw [hlen]; exact hw) ?_ (by rw [hlen]; exact hz)
  rw [hlen]
  refine ⟨.ref s.heap.objs.size, _, I.laid (t' := s.toks) (o := .tup (cutV xs lo hi)) (fun b ob q => Heap.get?_push_of_some _ q) (Nat.le_refl _) ?_, rfl, q _ (I.hok.fresh (Nat.le_refl _))⟩
  exact ⟨Nat.le_trans (cutV_length xs lo hi) hz, _, (r.drop (HT.sIx xs.length 0 lo)).take (HT.sIx xs.length xs.length hi - HT.sIx xs.length 0 lo), IsTup.new _ _⟩
noncomputable def rCatT (K : PySem.W.Frag) : R2 := fun x y H Q => ∃ a b xs ys, x = .ref a ∧ y = .ref b ∧ SqT K H a xs ∧ SqT K H b ys ∧ xs ≠ [] ∧ xs.length + ys.length ≤ sizeLine ∧
  (ys = [] → Q (.ref a) H) ∧ (ys ≠ [] → ∀ p, H p = none → Q (.ref p) (upd H p (.tup (xs ++ ys))))
theorem Vals.nil_iff {xs : List V} {us : List Value} (r : Vals xs us) : us = [] ↔ xs = [] := by
  cases r with
  | nil => simp
  | cons _ _ => simp
theorem op_catT : OpR X (binaryOp .Add) (rCatT X.K) := by
  intro pins s σ H x y v u Q I rx ry h
  obtain ⟨a, b, xs, ys, rfl, rfl, ha, hb, hx, hz, q1, q2⟩ := h
  cases rx
  cases ry
  obtain ⟨its, r1, p1, _⟩ := I.tuple ha
  obtain ⟨its2, r2, p2, _⟩ := I.tuple hb
  refine HT.cat_tup p1 p2 (fun z => hx (r1.nil_iff.mp z)) (fun z => ⟨.ref a, H, I, rfl, q1 (r2.nil_iff.mp z)⟩) (fun z => ?_) (by rw [← r1.length, ← r2.length]; exact hz)
  refine ⟨.ref s.heap.objs.size, _, I.laid (t' := s.toks) (o := .tup (xs ++ ys)) (fun b ob q => Heap.get?_push_of_some _ q) (Nat.le_refl _) ?_, rfl, q2 (fun w => z (r2.nil_iff.mpr w)) _ (I.hok.fresh (Nat.le_refl _))⟩
  exact ⟨by rw [List.length_append]; exact hz, _, r1.append r2, IsTup.new _ _⟩
end
end L2
namespace L2
open PySem PySem.Spec PyProof.Rows
noncomputable def ixN (n : Nat) (i : Int) : Option Nat := if 0 ≤ i then (if i < n then some i.toNat else none) else if -(n : Int) ≤ i then some (i + n).toNat else none
noncomputable def atI {α : Type} (xs : List α) (i : Int) : Option α := (ixN xs.length i).bind fun j => xs[j]?
theorem ixN_seq {n : Nat} {i : Int} {j : Nat} (h : ixN n i = some j) : seqIndex? i n = some j ∧ j < n ∧ -(n : Int) ≤ i ∧ i < n := by
  unfold ixN at h
  by_cases h0 : 0 ≤ i
  · rw [if_pos h0] at h
    by_cases h1 : i < n
    · rw [if_pos h1] at h
      have e : i.toNat = j := Option.some.inj h
      exact ⟨by rw [seqIndex_of h0 h1, e], by omega, by omega, h1⟩
    · rw [if_neg h1] at h; cases h
  · rw [if_neg h0] at h
    by_cases h1 : -(n : Int) ≤ i
    · rw [if_pos h1] at h
      have e : (i + n).toNat = j := Option.some.inj h
      exact ⟨by rw [seqIndex_neg (by omega) h1, e], by omega, h1, by omega⟩
    · rw [if_neg h1] at h; cases h
theorem atI_get {α : Type} {xs : List α} {i : Int} {v : α} (h : atI xs i = some v) : ∃ j, seqIndex? i xs.length = some j ∧ xs[j]? = some v ∧ j < xs.length ∧ -(xs.length : Int) ≤ i ∧ i < xs.length := by
  unfold atI at h
  cases e : ixN xs.length i with
  | none => rw [e] at h; cases h
  | some j =>
    rw [e] at h
    obtain ⟨h1, h2, h3, h4⟩ := ixN_seq e
    exact ⟨j, h1, h, h2, h3, h4⟩
theorem atI_nat {α : Type} {xs : List α} {j : Nat} {v : α} (h : xs[j]? = some v) : atI xs (j : Int) = some v := by
  have hj : j < xs.length := (List.getElem?_eq_some_iff.mp h).1
  have e : ixN xs.length (j : Int) = some j := by
    unfold ixN
    rw [if_pos (by omega), if_pos (by omega)]; simp
  unfold atI; rw [e]; exact h
theorem atI_last {α : Type} (xs : List α) (v : α) : atI (xs ++ [v]) (-1) = some v := by
  have hl : (xs ++ [v]).length = xs.length + 1 := by simp
  have e : ixN (xs ++ [v]).length (-1) = some xs.length := by
    unfold ixN
    rw [hl, if_neg (by decide), if_pos (by omega)]
    congr 1
    omega
  unfold atI
  rw [e]
  show (xs ++ [v])[xs.length]? = some v
  simp
noncomputable def PlainIx (b : Expr) : Prop := ∀ o i, subscripted b false o i = operate [o, i] (getItem o i)
noncomputable def IxR (X : Cx) (r : R2) : Prop :=
  ∀ (value slice : Expr) (pins : List (Addr × Obj)) (s : Shared) (σ : St) (H : Hp) (x y : V) (v u : Value) (Q : VK), Inv X pins σ H s → RelV x v → RelV y u → r x y H Q →
    subscripted slice false v u = operate [v, u] (getItem v u) → wpAny (model X.prog X.w) X.A (subscriptTail value slice v u) (EP X pins σ Q) X.xe s
noncomputable def MtR (X : Cx) (id : String) (r : V → List V → Hp → VK → Prop) : Prop :=
  ∀ (pins : List (Addr × Obj)) (s : Shared) (σ : St) (H : Hp) (x : V) (xs : List V) (v : Value) (us : List Value) (Q : VK), Inv X pins σ H s → RelV x v → Vals xs us → r x xs H Q →
    wpAny (model X.prog X.w) X.A (call (.builtin id) (v :: us)) (EP X pins σ Q) X.xe s
section
variable {X : Cx} {a b : Expr} {ta tb : TE} {pos : Pos}
theorem pe_ix {r : R2} (hr : IxR X r) (ha : PE X a ta) (hb : PE X b tb) (hs : PlainIx b) : PE X (.Subscript a b pos) (tOp r ta tb) := by
  intro pins s σ H Q I h
  exact Subscript_ (binT ha hb I h fun v u s2 x y H2 I2 rx ry q => hr a b pins s2 σ H2 x y v u Q I2 rx ry q (hs _ _))
noncomputable def rIxL (K : PySem.W.Frag) : R2 := fun x y H Q => ∃ p xs i v, x = .ref p ∧ y = .int i ∧ SqL K H p xs ∧ atI xs i = some v ∧ Q v H
noncomputable def rIxT (K : PySem.W.Frag) : R2 := fun x y H Q => ∃ p xs i v, x = .ref p ∧ y = .int i ∧ SqT K H p xs ∧ atI xs i = some v ∧ Q v H
noncomputable def rIxS : R2 := fun x y H Q => ∃ z i c, x = .str z ∧ y = .int i ∧ z.length ≤ sizeLine ∧ atI z.cps.toList i = some c ∧ Q (.str ⟨#[c]⟩) H
theorem ix_list : IxR X (rIxL X.K) := by
  intro value slice pins s σ H x y v u Q I rx ry h hs
  obtain ⟨p, xs, i, z, rfl, rfl, hq, he, q⟩ := h
  cases rx
  obtain ⟨t, rfl⟩ := ry
  obtain ⟨its, r, pl, hz⟩ := I.list hq
  obtain ⟨j, h1, h2, h3, h4, h5⟩ := atI_get he
  obtain ⟨w, ew, rw'⟩ := r.get h2
  have hl := r.length
  have hn := line63
  have fin : EP X pins σ Q w s := ⟨z, H, I, rw', q⟩
  by_cases h0 : 0 ≤ i
  · have hj : i.toNat = j := by
      rw [seqIndex_of h0 h5] at h1
      exact Option.some.inj h1
    exact item_listR pl.isList h0 (by omega) (by rw [hj]; simpa using ew) fin hs
  · have hj : (i + (its.toArray.size : Int)).toNat = j := by
      rw [seqIndex_neg (by omega) h4] at h1
      rw [List.size_toArray, ← hl]
      exact Option.some.inj h1
    exact subscriptTail_builtinR (x := w) pl.isList.typeIs slot_list_getitem.lookup
      (wpAny_getItem_list_neg (Q := fun r s' => r = w ∧ EP X pins σ Q r s') pl.isList (by omega) (by rw [List.size_toArray] <;> omega) (by omega) (by rw [hj]; simpa using ew) ⟨rfl, fin⟩) hs
theorem ix_tup : IxR X (rIxT X.K) := by
  intro value slice pins s σ H x y v u Q I rx ry h hs
  obtain ⟨p, xs, i, z, rfl, rfl, hq, he, q⟩ := h
  cases rx
  obtain ⟨t, rfl⟩ := ry
  obtain ⟨its, r, pl, hz⟩ := I.tuple hq
  obtain ⟨j, h1, h2, h3, h4, h5⟩ := atI_get he
  obtain ⟨w, ew, rw'⟩ := r.get h2
  have hl := r.length
  have hn := line63
  have fin : EP X pins σ Q w s := ⟨z, H, I, rw', q⟩
  exact subscriptTail_builtinR (x := w) pl.typeIs slot_tuple_getitem.lookup
    (getItem_tuple (j := j) (Q := fun r s' => r = w ∧ EP X pins σ Q r s') pl (by omega) (by omega) (by rw [List.size_toArray, ← hl]; exact h1) (by simpa using ew) ⟨rfl, fin⟩) hs
theorem ix_str : IxR X rIxS := by
  intro value slice pins s σ H x y v u Q I rx ry h hs
  obtain ⟨z, i, c, rfl, rfl, hz, he, q⟩ := h
  obtain ⟨t, rfl⟩ := rx
  obtain ⟨t', rfl⟩ := ry
  obtain ⟨j, h1, h2, h3, h4, h5⟩ := atI_get he
  have hl : z.cps.toList.length = z.length := by simp [Str.length]
  rw [hl] at h1 h4 h5
  have hn := line63
  exact tail_any (typeIs_str s z t) slot_str_getitem.lookup (getItem_str (c := c) (by
    have e1 : decide (i < -(2 ^ 63 : Int)) = false := decide_eq_false (by omega)
    have e2 : decide (i ≥ 2 ^ 63) = false := decide_eq_false (by omega)
    rw [e1, e2, Bool.or_false]) (by rw [h1]; simpa using h2) ⟨.str ⟨#[c]⟩, H, I.tok _, ⟨_, rfl⟩, q⟩) hs
theorem Inv.lst {pins : List (Addr × Obj)} {σ : St} {H : Hp} {s : Shared} {p : Addr} {xs : List V} (I : Inv X pins σ H s) (h : H p = some (.lst xs)) :
    ∃ (its : List Value) (n : Nat), Vals xs its ∧ s.heap.get? p = some { cls := .type "list", data := .seq its.toArray n } ∧ xs.length ≤ sizeLine := by
  obtain ⟨z, its, n, r, e⟩ := I.hok p _ h
  exact ⟨its, n, r, e, z⟩
theorem slice_bounds (lo hi : Option Int) (n : Nat) : (sliceBounds lo hi none n).1 = ((HT.sIx n 0 lo : Nat) : Int) ∧ (sliceBounds lo hi none n).2.1 = ((HT.sIx n n hi : Nat) : Int) ∧ (sliceBounds lo hi none n).2.2 = 1 := by
  refine ⟨?_, ?_, rfl⟩
  · cases lo with
    | none => simp [sliceBounds, HT.sIx]
    | some i =>
      simp only [sliceBounds, HT.sIx, Option.getD_none, show (1 : Int) > 0 by decide, if_true]
      by_cases h : i < 0
      · simp only [h, if_true] <;> omega
      · simp only [h, if_false] <;> omega
  · cases hi with
    | none => simp [sliceBounds, HT.sIx]
    | some i =>
      simp only [sliceBounds, HT.sIx, Option.getD_none, show (1 : Int) > 0 by decide, if_true]
      by_cases h : i < 0
      · simp only [h, if_true] <;> omega
      · simp only [h, if_false] <;> omega
theorem slicePick_cut (its : List Value) (lo hi : Option Int) : slicePick its.toArray lo hi none = ((its.drop (HT.sIx its.length 0 lo)).take (HT.sIx its.length its.length hi - HT.sIx its.length 0 lo)).toArray := by
  obtain ⟨h1, h2, h3⟩ := slice_bounds lo hi its.toArray.size
  unfold slicePick
  rw [h1, h2, h3]
  simp only [sliceRange_one, pick_run, List.size_toArray] <;> rfl
noncomputable def rSlL (K : PySem.W.Frag) : V → Option Int → Option Int → Hp → VK → Prop := fun x lo hi H Q => ∃ a xs, x = .ref a ∧ SqL K H a xs ∧ ∀ p, H p = none → Q (.ref p) (upd H p (.lst (cutV xs lo hi)))
theorem sl_list : SlR X (rSlL X.K) := by
  intro pins s σ H x v vl vu lo hi sl Q I rx hs pl pu h
  obtain ⟨a, xs, rfl, hx, q⟩ := h
  cases rx
  obtain ⟨its, r, ht, hz⟩ := I.list hx
  have hlen := r.length
  refine ⟨"list", _, slot_list_getitem.lookup, ht.isList.typeIs, ?_⟩
  refine wpAny_getItem_list_slice ht.isList hs pl pu .none (by simp) ?_ (by rw [List.size_toArray] <;> omega)
  rw [slicePick_cut, ← hlen]
  refine ⟨.ref s.heap.objs.size, _, I.laid (t' := s.toks) (o := .lst (cutV xs lo hi)) (fun b ob q => Heap.get?_push_of_some _ q) (Nat.le_refl _) ?_, rfl, q _ (I.hok.fresh (Nat.le_refl _))⟩
  exact ⟨Nat.le_trans (cutV_length xs lo hi) hz, _, 0, (r.drop (HT.sIx xs.length 0 lo)).take (HT.sIx xs.length xs.length hi - HT.sIx xs.length 0 lo), Heap.get?_push_size _ rfl⟩
theorem call_len_seq : CallR X (.builtin "len") (fun xs H Q => ∃ p ys, xs = [.ref p] ∧ (SqL X.K H p ys ∨ SqT X.K H p ys) ∧ Q (.int ys.length) H) := by
  intro pins s σ H xs us Q I r h
  obtain ⟨p, ys, rfl, hq, q⟩ := h
  obtain ⟨u, rfl, rx⟩ := vals1 r
  cases rx
  have hn := line63
  rcases hq with hq | hq
  · obtain ⟨its, r', pl, hz⟩ := I.list hq
    have hlen := r'.length
    exact Calls.call_len_list pl.isList (by simp only [List.size_toArray] <;> omega) ⟨.int ys.length, H, I.tok _, ⟨s.toks + 1, by rw [List.size_toArray, hlen]⟩, q⟩
  · obtain ⟨its, r', pl, hz⟩ := I.tuple hq
    have hlen := r'.length
    exact len_tuple pl (by simp only [List.size_toArray] <;> omega) ⟨.int ys.length, H, I.tok _, ⟨s.toks + 1, by rw [List.size_toArray, hlen]⟩, q⟩
theorem call_len_str : CallR X (.builtin "len") (fun xs H Q => ∃ z, xs = [.str z] ∧ z.length ≤ sizeLine ∧ Q (.int z.length) H) := by
  intro pins s σ H xs us Q I r h
  obtain ⟨z, rfl, hz, q⟩ := h
  obtain ⟨u, rfl, t, rfl⟩ := vals1 r
  have hn := line63
  exact len_str (by omega) ⟨.int z.length, H, I.tok _, ⟨_, rfl⟩, q⟩
theorem call_tuple_of : CallR X (.type "tuple") (fun xs H Q => ∃ p ys, xs = [.ref p] ∧ ((SqL X.K H p ys ∧ ∀ l, H l = none → Q (.ref l) (upd H l (.tup ys))) ∨ (SqT X.K H p ys ∧ Q (.ref p) H))) := by
  intro pins s σ H xs us Q I r h
  obtain ⟨p, ys, rfl, h⟩ := h
  obtain ⟨u, rfl, rx⟩ := vals1 r
  cases rx
  rcases h with ⟨hq, q⟩ | ⟨hq, q⟩
  · obtain ⟨its, r', pl, hz⟩ := I.list hq
    have hlen := r'.length
    refine call_tuple_list pl.isList (fun h' kp => ?_) (by simp only [List.size_toArray] <;> omega)
    have I1 : Inv X pins σ H { s with heap := h' } := I.kept (t' := s.toks) kp
    have I2 : Inv X pins σ (upd H h'.objs.size (.tup ys)) { s with heap := h'.push { cls := .type "tuple", data := .seq its.toArray } } :=
      I1.laid (t' := s.toks) (fun b o e => Heap.get?_push_of_some _ e) (Nat.le_refl _) (show ObjOk X.prog X.w _ _ _ (.tup ys) from ⟨hz, its, r', IsTup.new _ _⟩)
    exact ⟨.ref h'.objs.size, _, I2, rfl, q _ (I1.hok.fresh (Nat.le_refl _))⟩
  · obtain ⟨its, r', pl, hz⟩ := I.tuple hq
    exact call_tuple_same pl ⟨.ref p, H, I, rfl, q⟩
noncomputable def tyV (K : PySem.W.Frag) (T : String) (x : V) (H : Hp) : Prop := match x with
  | .str _ => T = "str"
  | .int _ => T = "int"
  | .ref p => (T = "list" ∧ ∃ xs, SqL K H p xs) ∨ (T = "tuple" ∧ ∃ o, K.lookup p = some o ∧ o.cls = .type "tuple" ∧ o.dict = none) ∨
      (T = "dict" ∧ ((∃ kvs, H p = some (.dK kvs)) ∨ ∃ kvs, H p = some (.dT kvs))) ∨ (T = "set" ∧ ∃ S n, H p = some (.set S n))
  | _ => False
theorem tyV_is {pins : List (Addr × Obj)} {σ : St} {H : Hp} {s : Shared} {T : String} {x : V} {v : Value} (I : Inv X pins σ H s) (r : RelV x v) (ty : tyV X.K T x H) :
    s.TypeIs v T ∧ ∀ a, v = .ref a → ∃ ob, s.heap.get? a = some ob ∧ ob.dict = none := by
  cases x with
  | str z =>
    obtain ⟨t, rfl⟩ := r
    cases (show T = "str" from ty)
    exact ⟨typeIs_str s z t, fun _ e => nomatch e⟩
  | int i =>
    obtain ⟨t, rfl⟩ := r
    cases (show T = "int" from ty)
    exact ⟨typeIs_int s i t, fun _ e => nomatch e⟩
  | ref p =>
    cases r
    rcases ty with ⟨rfl, xs, hq⟩ | ⟨rfl, o, hk, hc, hd⟩ | ⟨rfl, hk⟩ | ⟨rfl, S, n, hk⟩
    · obtain ⟨its, _, pl, _⟩ := I.list hq
      refine ⟨pl.isList.typeIs, fun a e => ?_⟩
      cases e
      obtain ⟨o, n, e, c, hd, _⟩ := pl
      exact ⟨o, e, hd⟩
    · refine ⟨⟨o, I.kIn p o hk, hc⟩, fun a e => ?_⟩
      cases e
      exact ⟨o, I.kIn _ o hk, hd⟩
    · have z : ∃ o, s.heap.get? p = some o ∧ o.ExactDict := by
        rcases hk with ⟨kvs, hk⟩ | ⟨kvs, hk⟩
        · obtain ⟨_, _, _, _, o, _, _, e, ex, _⟩ := I.hok p _ hk
          exact ⟨o, e, ex⟩
        · obtain ⟨_, _, _, _, o, _, _, e, ex, _⟩ := I.hok p _ hk
          exact ⟨o, e, ex⟩
      obtain ⟨o, e, ex⟩ := z
      refine ⟨⟨o, e, ex.1⟩, fun a e2 => ?_⟩
      cases e2
      exact ⟨o, e, ex.2.1⟩
    · obtain ⟨o, _, _, _, e, ex, _⟩ := I.hok p _ hk
      refine ⟨⟨o, e, ex.1⟩, fun a e2 => ?_⟩
      cases e2
      exact ⟨o, e, ex.2.1⟩
  | _ => exact False.elim ty
noncomputable def tBM (K : PySem.W.Frag) (T : String) (r : V → List V → Hp → VK → Prop) (to : TE) (t : TA) : TE := fun σ H Q => to σ H fun x H1 => tyV K T x H1 ∧ t σ H1 fun xs H2 => r x xs H2 Q
variable {o e : Expr} {es : List Expr} {to : TE} {t : TA} {name : Str} {apos cpos : Pos} {T id : String} {r : V → List V → Hp → VK → Prop}
theorem pe_bm (pa : PlainAttrs T) (slot : Slot T name id) (hty : typeOf (.builtin id) = pure (.type "method_descriptor")) (hm : MtR X id r) (ho : PE X o to) (ha : PA X (e :: es) t)
    (hbase : attributeBase o name X.env (eval o X.env) = eval o X.env := by rfl)
    (hfew : ((backTo cpos (starEach (e :: es) X.env)).all (fun x => !x.1) && (backToKw cpos (keywordEach [] X.env)).all (fun x => x.1.isSome)
      && decide ((e :: es).length + ([] : List Keyword).length + (if ([] : List Keyword).isEmpty then 0 else 1) < 30)) = true := by rfl)
    (hline : (apos.endLine == cpos.line) = true := by rfl) (hs : starEach (e :: es) X.env = (false, eval e X.env) :: starEach es X.env := by rfl) (hplain : (backTo cpos (starEach es X.env)).any (·.1) = false := by rfl) :
    PE X (.Call (.Attribute o name apos) (e :: es) [] cpos) (tBM X.K T r to t) := by
  intro pins s σ H Q I h
  refine wpAny_Call_method_late hbase hfew hline rfl (thn (ho pins s σ H _ I h) fun v s1 ⟨x, H1, I1, r1, ty, q1⟩ => ?_)
  obtain ⟨h1, h2⟩ := tyV_is I1 r1 ty
  refine ⟨T, id, pa, slot, hty, h1, h2, ?_⟩
  have hA := ha cpos pins s1 σ H1 _ I1 q1
  rw [hs] at hA ⊢
  refine Calls.callWith_builtin (by show (false || (backTo cpos (starEach es X.env)).any (·.1)) = false; rw [hplain] <;> rfl) (Calls.evalArgs_plain ?_)
  exact thn hA fun us s2 ⟨vs, H2, I2, r2, q2⟩ => hm pins s2 σ H2 x vs v us Q I2 r1 r2 q2
end
end L2
namespace L2
open PySem PySem.Spec PyProof.Rows
noncomputable def MtM (X : Cx) (id : String) (r : V → List V → Hp → VK → Prop) : Prop :=
  ∀ (pins : List (Addr × Obj)) (s : Shared) (σ : St) (H : Hp) (x : V) (xs : List V) (v : Value) (us : List Value) (Q : VK), Inv X pins σ H s → RelV x v → Vals xs us → r x xs H Q →
    wpAny (model X.prog X.w) X.A (call (.builtin id) (v :: us)) (EP X pins σ Q) X.xe s
theorem Vals.one : ∀ {x : V} {us : List Value}, Vals [x] us → ∃ u, us = [u] ∧ RelV x u := fun h => by
  cases h with
  | cons r t =>
    cases t
    exact ⟨_, rfl, r⟩
section
variable {X : Cx} {pins : List (Addr × Obj)} {σ : St} {H : Hp} {s : Shared} {l b : Addr} {xs ys zs : List V}
theorem Inv.lset {its its' : List Value} {n : Nat} {f : Array Value → Array Value} {t' : Nat} (I : Inv X pins σ H s) (hH : H l = some (.lst xs))
    (e : s.heap.get? l = some { cls := .type "list", data := .seq its.toArray n }) (hf : f its.toArray = its'.toArray) (hv : Vals ys its') (hz : ys.length ≤ sizeLine) :
    Inv X pins σ (upd H l (.lst ys)) { s with heap := s.heap.update l (Obj.mapSeq f), toks := t' } := by
  have q := PySem.IsL.update e f
  rw [hf] at q
  refine I.write (x := l) (e := l) (by rw [hH]; exact trivial) (.inl rfl) (fun b' u hb hu => (Heap.get?_update_other s.heap (Obj.mapSeq f) (Ne.symm hb)).trans hu) ⟨_, q⟩ ?_
  exact ⟨hz, its', _, hv, q⟩
theorem Inv.lnew {its : List Value} {t' : Nat} (I : Inv X pins σ H s) (hv : Vals ys its) (hz : ys.length ≤ sizeLine) :
    Inv X pins σ (upd H s.heap.objs.size (.lst ys)) { s with heap := s.heap.push { cls := .type "list", data := .seq its.toArray }, toks := t' } :=
  I.laid (fun _ _ q => Heap.get?_push_of_some _ q) (Nat.le_refl _) ⟨hz, its, 0, hv, Heap.get?_push_size _ rfl⟩
theorem Inv.fresh (I : Inv X pins σ H s) : H s.heap.objs.size = none := I.hok.fresh (Nat.le_refl _)
theorem Inv.lstM (I : Inv X pins σ H s) (hH : H l = some (.lst xs)) : xs.length ≤ sizeLine ∧ ∃ (its : List Value) (n : Nat), Vals xs its ∧ xs.length = its.length ∧ s.heap.get? l = some { cls := .type "list", data := .seq its.toArray n } := by
  obtain ⟨z, its, n, r, e⟩ := I.hok l _ hH
  exact ⟨z, its, n, r, r.length, e⟩
theorem notLongL {n : Nat} (h : n ≤ sizeLine) : Builtin.List.listTooLong n = false := by
  unfold Builtin.List.listTooLong
  exact decide_eq_false (by omega)
end
section
variable {X : Cx}
noncomputable def rAppend : V → List V → Hp → VK → Prop := fun x vs H Q => ∃ l xs y, x = .ref l ∧ vs = [y] ∧ H l = some (.lst xs) ∧ xs.length < sizeLine ∧ Q .non (upd H l (.lst (xs ++ [y])))
theorem mt_append : MtM X "list.append" rAppend := by
  intro pins s σ H x vs v us Q I rx rv h
  obtain ⟨l, xs, y, rfl, rfl, hH, hz, q⟩ := h
  cases rx
  obtain ⟨u, rfl, ru⟩ := rv.one
  obtain ⟨z, its, n, r, hl, e⟩ := I.lstM hH
  refine call_meets F.slot_list_append ⟨_, e, rfl⟩ F.entry_list_append (F.args_list_append_2 _ _) (PySem.list_append l its.toArray n u (by rw [List.size_toArray]; omega)) ⟨e, ?_⟩
  refine ⟨.non, _, I.lset (its' := its ++ [u]) hH e (by simp) (r.append (.cons ru .nil)) ?_, rfl, q⟩
  rw [List.length_append, List.length_singleton]
  omega
noncomputable def rExtend : V → List V → Hp → VK → Prop := fun x vs H Q => ∃ l b xs zs, x = .ref l ∧ vs = [.ref b] ∧ H l = some (.lst xs) ∧ H b = some (.lst zs) ∧ xs.length + zs.length ≤ sizeLine ∧ Q .non (upd H l (.lst (xs ++ zs)))
theorem mt_extend : MtM X "list.extend" rExtend := by
  intro pins s σ H x vs v us Q I rx rv h
  obtain ⟨l, b, xs, zs, rfl, rfl, hH, hB, hz, q⟩ := h
  cases rx
  obtain ⟨u, rfl, ru⟩ := rv.one
  cases ru
  obtain ⟨z, its, n, r, hl, e⟩ := I.lstM hH
  obtain ⟨z2, its2, n2, r2, hl2, e2⟩ := I.lstM hB
  have hsz : its.toArray.size + its2.toArray.size ≤ sizeLine := by rw [List.size_toArray, List.size_toArray]; omega
  have hlong : ¬ (!its.toArray.isEmpty && Builtin.List.listTooLong (its.toArray.size + its2.toArray.size)) = true := by
    rw [notLongL hsz, Bool.and_false]
    exact Bool.false_ne_true
  refine call_meets F.slot_list_extend ⟨_, e, rfl⟩ F.entry_list_extend (F.args_list_extend_2 _ _)
    (AutoSeq1.list_extend_list_list_0 l its.toArray n b its2.toArray n2 hlong (by rw [List.size_toArray]; omega) (by omega)) ⟨e, e2, ?_⟩
  refine ⟨.non, _, I.lset (its' := its ++ its2) hH e (by simp) (r.append r2) ?_, rfl, q⟩
  rw [List.length_append]
  omega
noncomputable def rCat : R2 := fun x y H Q => ∃ l b xs zs, x = .ref l ∧ y = .ref b ∧ H l = some (.lst xs) ∧ H b = some (.lst zs) ∧ xs.length + zs.length ≤ sizeLine ∧ ∀ p, H p = none → Q (.ref p) (upd H p (.lst (xs ++ zs)))
theorem op_cat : OpR X (binaryOp .Add) rCat := by
  intro pins s σ H x y v u Q I rx ry h
  obtain ⟨l, b, xs, zs, rfl, rfl, hH, hB, hz, q⟩ := h
  cases rx
  cases ry
  obtain ⟨z, its, n, r, hl, e⟩ := I.lstM hH
  obtain ⟨z2, its2, n2, r2, hl2, e2⟩ := I.lstM hB
  refine PySem.P.add_list e e2 ?_ (by rw [List.size_toArray, List.size_toArray]; omega)
  have ea : its.toArray ++ its2.toArray = (its ++ its2).toArray := by simp
  rw [ea]
  exact ⟨.ref _, _, I.lnew (t' := s.toks) (r.append r2) (by rw [List.length_append]; omega), rfl, q _ I.fresh⟩
end
section
variable {prog : Program} {w : World} {A : Around} {E : Value → Shared → Prop} {s : Shared}
end
section
variable {X : Cx}
end
end L2
namespace Att
open PySem PySem.W PySem.Calls PyProof.Rows
theorem ints_of_wellAll {P : Params} {h : Heap} : ∀ (ns : List Int) (vs : List Value), WellAll P h vs (ns.map WData.int) → IntsAre vs ns := by
  intro ns
  induction ns with
  | nil =>
    intro vs w
    rw [List.map_nil] at w
    cases w
    exact .nil
  | cons n ns ih =>
    intro vs w
    rw [List.map_cons] at w
    cases w with
    | cons a b =>
      cases a
      exact .cons _ _ (ih _ b)
theorem script_of {l : OpenLaw} {n : Nat} (hn : l.most = some n) {P : Params} {h : Heap} {args : List WData} {vals : List Value}
    (hpre : l.row.toRowW.claim.pre args = true) (hwl : WellAll P h vals args) :
    ∃ a vs ns, vals = [Value.ref a] ∧ args = [WData.list (ns.map WData.int)] ∧ h.get? a = some { cls := .type "list", data := .seq vs.toArray } ∧ IntsAre vs ns ∧ ns.length ≤ n := by
  have hsh : WShape.hasAll [] args [.list .int] = true := (pre_splitW hpre).1
  have hc : l.pre.holds [] { args := args } = true := (pre_splitW hpre).2
  obtain ⟨d, r, rfl, h1, h2⟩ := hasAllW_cons hsh
  obtain rfl := hasAllW_nil h2
  obtain ⟨xs, rfl, h3⟩ := hasW_list h1
  obtain ⟨ns, rfl⟩ := items_int h3
  have hlen : ns.length ≤ n := by
    unfold OpenLaw.pre at hc
    have h4 : (WTm.not (.lt (.lit (.int (n : Int))) (.len (.arg 0)))).holds [] { args := [.list (ns.map .int)] } = true := by
      have h4 := (holds_andW hc).1
      rw [hn] at h4
      exact h4
    have h5 := condW_of h4 (w_not (w_lt w_lit (w_len_list (w_arg rfl))))
    rw [List.length_map] at h5
    refine Nat.le_of_not_lt fun q => ?_
    have q' : (n : Int) < ((ns.length : Nat) : Int) := by omega
    first
      | (rw [decide_eq_true q'] at h5; exact absurd h5 (by decide))
      | (simp at h5; omega)
  cases hwl with
  | cons w1 w2 =>
    cases w2
    cases w1 with
    | list ho hall => exact ⟨_, _, ns, rfl, rfl, ho, ints_of_wellAll ns _ hall, hlen⟩
theorem post_true (l : OpenLaw) (args : List WData) : l.row.toRowW.claim.post args (.bool true) args = true :=
  postW_of (r := l.row.toRowW) (X := (true == true))
    (show WShape.has [] (.bool true) .bool = true by first | rfl | decide | simp [WShape.has, WShape.arms, WShape.armsAll])
    (show (WTm.eq .res (.lit (.bool true))).value [] { args := args, res := some (.bool true), after := args } = some (.bool (true == true)) from w_eq_bool (w_res rfl) w_lit) rfl
theorem attach_call {l : OpenLaw} {n : Nat} {q : Program} {loose : List Str} {XP : (Str → Option Value) → Heap → Prop} {YP : World → Heap → Prop} {d : DefRec}
    (hn : l.most = some n) (hdf : d.params.defaults = [])
    (call : ∀ (w : World) (s₀ s₁ : Shared) (mg mb : Str → Option Value) (fa : Addr) (o : Obj) (pm cd doc : Value) (a : Addr) (vs : List Value) (ns : List Int),
      Ground q loose [] XP w s₀ mg mb s₁.heap → YP w s₁.heap →
      s₁.heap.get? fa = some o → o.data = .func (docDef d.name d.params d.body d.scope pm cd doc) → s₁.heap.CodeRec cd d.name → mg d.name = some (.ref fa) →
      s₁.heap.get? a = some { cls := .type "list", data := .seq vs.toArray } → IntsAre vs ns → ns.length ≤ n → s₁.gens = #[] →
      codeAny (model l.prog w) callerA (.call (.ref fa) ⟨[.ref a], []⟩) (fun r s' => r = .ok (.ret (.bool true)) ∧ OldK s₁.heap s'.heap ∧ s'.os = s₁.os ∧ AllBare s'.gens) s₁) :
    WalkO q loose XP YP l.row.toRowW d [] (fun f vs => PySem.call f vs) := by
  intro w s₀ s₁ mg mb G Y fa o pm cd doc dV kV ho hd hcd hD hmg hg args vals as hpre hlay hrd hwl hlo
  obtain rfl : dV = .none := Dflts.none hD hdf
  obtain rfl : kV = .none := Dflts.noKw hD
  obtain ⟨a, vs, ns, rfl, rfl, hobj, hints, hlen⟩ := script_of hn hpre hwl
  refine enter_call (codeAny_mono (call w s₀ s₁ mg mb fa o pm cd doc a vs ns G Y ho (fd_plain hd) hcd hmg hobj hints hlen hg) fun r s' hq => ?_)
  obtain ⟨rfl, h2, h3, h4⟩ := hq
  exact ⟨.inl ⟨.bool true, .bool true, [], rfl, fun _ => rfl, .bool true, post_true l _, fun _ => ⟨List.Pairwise.nil, fun _ hm => (nomatch hm)⟩⟩, h2, h3, h4⟩
section
variable {prog : Program} {w : World} {A : Around} {E : Value → Shared → Prop} {s : Shared} {K : Frag}
end
end Att
namespace L2
open PySem PySem.Spec PyProof.Rows
theorem vals_ints : ∀ {vs : List Value} {ns : List Int}, IntsAre vs ns → Vals (ns.map V.int) vs
  | _, _, .nil => .nil
  | _, _, .cons n t h => .cons ⟨t, rfl⟩ (vals_ints h)
noncomputable def Only (H : Hp) : Prop := ∀ b, H b = none ∨ ∃ o xs, H b = some (.frz o (.lst xs))
theorem law_call {P : Program} {w : World} {K : PySem.W.Frag} {mg mb : Str → Option Value} {CX : CXT} {k : Nat} {fa a : Addr} {fd : FuncData} {x : Str} {sp : Sp} {s₁ : Shared} {vs : List Value} {ns : List Int}
    (KX : K.In s₁.heap) (hns : s₁.heap.Ns mainGlobals mg) (hb : s₁.heap.Ns builtinsNs mb) (hbb : ∀ x : Str, x ≠ "__name__" → mb x = bootBuiltins x) (hlim : s₁.heap.NoLimit) (hg : s₁.gens = #[])
    (ha : s₁.heap.get? a = some { cls := .type "list", data := .seq vs.toArray }) (hi : IntsAre vs ns) (hl : ns.length ≤ sizeLine) (hr : Room k callerA)
    (F : ∀ base : Heap, K.In base → base.Ns mainGlobals mg → FnOk P w K mg base CX k fa fd [x] sp) (hbind : ∀ (s : Shared) (u : Value), BindsTo s fd ⟨[u], []⟩ [(x, u)])
    (hsp : ∀ H : Hp, Only H → SqL K H a (ns.map V.int) → sp [.ref a] H (fun v _ => v = .bl true) fun _ _ _ => False)
    (hCX : ∀ H e s', CX [] H s₁ (fun _ _ _ => False) e s' → False) :
    codeAny (model P w) callerA (.call (.ref fa) ⟨[.ref a], []⟩) (fun r s' => r = .ok (.ret (.bool true)) ∧ OldK s₁.heap s'.heap ∧ s'.os = s₁.os ∧ AllBare s'.gens) s₁ := by
  have rv := vals_ints hi
  have lenV := hi.length
  -- from an abstract heap in which nothing but the script may be tracked
  have core : ∀ H : Hp, Only H → SqL K H a (ns.map V.int) → HOk P w H s₁.heap → (∀ b, H b ≠ none → b = a) → (H a ≠ none → K.lookup a = none) →
      codeAny (model P w) callerA (.call (.ref fa) ⟨[.ref a], []⟩) (fun r s' => r = .ok (.ret (.bool true)) ∧ OldK s₁.heap s'.heap ∧ s'.os = s₁.os ∧ AllBare s'.gens) s₁ := by
    intro H hO hS hok hA hK
    have base_of : ∀ {b : Addr} {o : Obj}, s₁.heap.get? b = some o → H b = none → (hidT s₁.heap H).get? b = some o := fun e n => hidT_get e n
    have noA : ∀ {b : Addr} {o : Obj} {es : Array DictEntry} {ep : Nat}, s₁.heap.get? b = some o → o.data = .dict es ep → H b = none := fun {b o es ep} e d => by
      cases q : H b with
      | none => rfl
      | some u =>
        have e' : b = a := hA b (by rw [q]; simp)
        subst e'
        rw [ha] at e; cases e
        have d' : Data.seq vs.toArray _ = Data.dict es ep := d
        cases d'
    have nsK : ∀ {b : Addr} {m : Str → Option Value}, s₁.heap.Ns b m → (hidT s₁.heap H).Ns b m := fun {b m} ⟨o, es, ep, e, d, r⟩ => ⟨o, es, ep, base_of e (noA e d), d, r⟩
    have hKb : K.In (hidT s₁.heap H) := fun b o e => base_of (KX b o e) (by
      cases q : H b with
      | none => rfl
      | some u =>
        have e' : b = a := hA b (by rw [q]; simp)
        subst e'
        rw [hK (by rw [q]; simp)] at e; cases e)
    have hM : Mod K mg (hidT s₁.heap H) := ⟨hKb, nsK hns, ⟨mb, nsK hb, hbb⟩, let ⟨mc, h1, h2⟩ := hlim; ⟨mc, nsK h1, h2⟩⟩
    have e0 : Env0 P w K mg (hidT s₁.heap H) callerA [] s₁ H := ⟨rfl, hM, fun b o e => of_hidT e, Nat.le_of_eq (hidT_size _ _), trivial, fun b hb => absurd (show b ∈ ([] : List Addr) from hb) (by simp), hok, .of_eq hg⟩
    refine codeAny_mono ((F _ hKb (nsK hns)).run callerA [] s₁ H ⟨[.ref a], []⟩ [.ref a] [.ref a] _ _ hr e0 (hbind s₁ (.ref a)) (.cons rfl .nil) (hsp H hO hS)) fun r s' h => ?_
    cases r with
    | error e => exact (hCX H e s' h).elim
    | ok fl =>
      cases fl with
      | next => exact False.elim h
      | brk => exact False.elim h
      | cont => exact False.elim h
      | ret u =>
        obtain ⟨v, H', os, bare, un, hok', r', q⟩ := h
        have q' : v = .bl true := q
        subst q'
        obtain rfl : u = Value.bool true := r'
        refine ⟨rfl, OldK.of_keep fun b o e => ?_, os, bare⟩
        cases q : H b with
        | none => exact un.keep b o e q (by intro z; exact absurd (show b ∈ ([] : List Addr) from z) (by simp)) (by simp)
        | some u =>
          rcases hO b with z | ⟨ob, xs, z⟩
          · rw [q] at z; cases z
          · have z2 := un.frzs b ob _ z
            obtain ⟨e1, _⟩ := hok b _ z
            obtain ⟨e2, _⟩ := hok' b _ z2
            rw [e] at e1; cases e1
            exact e2
  cases hk : K.lookup a with
  | some o =>
    -- the script is one of the module's own objects
    have e := KX a o hk
    rw [ha] at e
    cases e
    refine core (fun _ => none) (fun _ => .inl rfl) (.inr ⟨_, vs.toArray, _, hk, rfl, rfl, rfl, by rw [List.size_toArray, lenV]; exact hl, by simpa using rv⟩) (fun b u z => by have z' : (none : Option HO) = some u := z; cases z') (fun b z => absurd rfl z) fun z => absurd rfl z
  | none =>
    refine core (fun b => if b = a then some (.frz { cls := .type "list", data := .seq vs.toArray } (.lst (ns.map V.int))) else none) (fun b => ?_) (.inl (.inr ⟨{ cls := .type "list", data := .seq vs.toArray }, if_pos rfl⟩)) (fun b u z => ?_) (fun b z => ?_) fun _ => hk
    · by_cases hb : b = a
      · exact .inr ⟨_, _, if_pos hb⟩
      · exact .inl (if_neg hb)
    · by_cases hb : b = a
      · have z' := (if_pos hb).symm.trans z
        cases z'
        subst hb
        exact ⟨ha, by rw [List.length_map]; exact hl, vs, _, rv, ha⟩
      · have z' := (if_neg hb).symm.trans z
        cases z'
    · by_cases hb : b = a
      · exact hb
      · exact absurd (if_neg hb) z
end L2
namespace L2
open PySem PySem.Spec PyProof.Rows
theorem walk_of {l : PySem.W.OpenLaw} {n k : Nat} {q : Program} {loose : List Str} {XP : (Str → Option Value) → Heap → Prop} {YP : World → Heap → Prop} {d : DefRec} {K : Params → PySem.W.Frag} {CX : World → CXT} {sp : World → Sp} {x : Str}
    (hn : l.most = some n) (hn2 : n ≤ sizeLine) (hdf : d.params.defaults = []) (hr : Room k callerA)
    (hY : ∀ (w : World) (h : Heap), YP w h → (K w.params).In h)
    (F : ∀ (w : World) (mg : Str → Option Value) (fa : Addr) (h : Heap), (K w.params).In h → h.Ns mainGlobals mg → mg d.name = some (.ref fa) →
      ∃ fd : FuncData, (∀ (s : Shared) (u : Value), BindsTo s fd ⟨[u], []⟩ [(x, u)]) ∧
        ∀ base : Heap, (K w.params).In base → base.Ns mainGlobals mg → FnOk l.prog w (K w.params) mg base (CX w) k fa fd [x] (sp w))
    (hsp : ∀ (w : World) (H : Hp) (a : Addr) (ns : List Int), ns.length ≤ n → Only H → SqL (K w.params) H a (ns.map V.int) → sp w [.ref a] H (fun v _ => v = .bl true) fun _ _ _ => False)
    (hCX : ∀ (w : World) (H : Hp) (s : Shared) (e : Value) (s' : Shared), CX w [] H s (fun _ _ _ => False) e s' → False) :
    PySem.W.WalkO q loose XP YP l.row.toRowW d [] (fun f vs => PySem.call f vs) := by
  refine Att.attach_call hn hdf fun w s₀ s₁ mg mb fa o pm cd doc a vs ns G Y ho hd hcd hmg hobj hints hlen hg => ?_
  have KX := hY w _ Y
  obtain ⟨fd, hb, hF⟩ := F w mg fa _ KX G.T.g hmg
  exact law_call KX G.T.g G.T.b G.T.builtins G.T.nolimit hg hobj hints (Nat.le_trans hlen hn2) hr hF hb (fun H hO hS => hsp w H a ns hlen hO hS) fun H e s' => hCX w H s₁ e s'
end L2
namespace L2
open PySem PySem.Spec PyProof.Rows
noncomputable def defArgs (s : Stmt) : Arguments := match s with
  | .FunctionDef _ a _ _ _ _ _ _ _ _ => a
  | _ => { posonlyargs := [], args := [], vararg := none, kwonlyargs := [], kw_defaults := [], kwarg := none, defaults := [] }
noncomputable def defBody (s : Stmt) : List Stmt := match s with
  | .FunctionDef _ _ b _ _ _ _ _ _ _ => b
  | _ => []
noncomputable def defScope (s : Stmt) : Scope := match s with
  | .FunctionDef _ _ _ _ _ _ sc _ _ _ => sc
  | _ => { kind := .function, names := [], isGenerator := false, isCoroutine := false }
noncomputable abbrev CX0 : CXT := fun _ _ _ _ _ _ => False
noncomputable abbrev E0 : XK := fun _ _ _ => False
theorem pass0 {X : Cx} : Passes CX0 X E0 := fun _ _ _ _ _ _ _ h => h.elim
structure Fun (K : PySem.W.Frag) (x qual : Str) (st : Stmt) (f : Addr) (fd : FuncData) : Prop where
  ex : ∃ (oc : Value) (od : Option Addr) (kV doc pm : Value) (an : Option Addr) (cdv ct : Value) (osl : Array (Option Value)),
    fd = PySem.W.fnOf x qual (defArgs st) (defBody st) (defScope st) .none kV doc pm an cdv ct ∧ K.lookup f = some ⟨oc, od, .func fd, osl⟩ ∧ PySem.W.codeIn K cdv qual = true
  kp : PySem.W.keepIn K (.ref f) = true
section
variable {P : Program} {w : World} {K : PySem.W.Frag} {mg : Str → Option Value} {base : Heap}
theorem Fun.ok {x qual : Str} {st : Stmt} {f : Addr} {fd : FuncData} {N ps : List Str} {k : Nat} {sp : Sp} (F : Fun K x qual st f fd) (S : FnScope N ps (defScope st)) (len : ∀ vs H Q E, sp vs H Q E → vs.length = ps.length)
    (hbody : ∀ (cdv : Value) (A : Around) (outer : List Env) (s : Shared) (H : Hp) (vs : List V) (Q : VK) (E : XK), Room k (A.deeper (envOfC qual (defScope st) s.heap.objs.size f cdv)) → sp vs H Q E →
      ∃ t, PSs (cxOf CX0 P w K mg base N qual (defScope st) f cdv A outer s H E).nox (defBody st) t ∧ t { nx := fun _ H' => Q .non H', rt := Q } (start N vs) H) : FnOk P w K mg base CX0 (k + 1) f fd ps sp := by
  obtain ⟨oc, od, kV, doc, pm, an, cdv, ct, osl, rfl, lk, hcd⟩ := F.ex
  refine fn_of lk hcd S len fun A outer s H vs Q E hr hsp => ?_
  obtain ⟨t, h, q⟩ := hbody cdv A outer s H vs Q E hr hsp
  exact ⟨t, h.nox, q⟩
theorem Fun.binds {x qual : Str} {st : Stmt} {f : Addr} {fd : FuncData} {ps : List Str} (F : Fun K x qual st f fd)
    (h : ∀ (kV doc pm : Value) (an : Option Addr) (cdv ct : Value) (us : List Value), us.length = ps.length → bindArgs (PySem.W.fnOf x qual (defArgs st) (defBody st) (defScope st) .none kV doc pm an cdv ct) ⟨us, []⟩ = pure (ps.zip us)) : Binds K fd ps [] := by
  obtain ⟨oc, od, kV, doc, pm, an, cdv, ct, osl, rfl, lk, hcd⟩ := F.ex
  exact .all (h kV doc pm an cdv ct)
theorem fun_mk {x qual : Str} {st : Stmt} {f : Addr} {oc : Value} {od an : Option Addr} {osl : Array (Option Value)} {kV doc pm cdv ct : Value} (l : K.lookup f = some ⟨oc, od, .func (PySem.W.fnOf x qual (defArgs st) (defBody st) (defScope st) .none kV doc pm an cdv ct), osl⟩)
    (c : PySem.W.codeIn K cdv qual = true) (k : PySem.W.keepIn K (.ref f) = true) : Fun K x qual st f (PySem.W.fnOf x qual (defArgs st) (defBody st) (defScope st) .none kV doc pm an cdv ct) := ⟨⟨oc, od, kV, doc, pm, an, cdv, ct, osl, rfl, l, c⟩, k⟩
end
theorem hu_of {A : Around} {k : Nat} (hr : Room k A) : A.units + 1 < cLine := Nat.lt_of_le_of_lt (Nat.add_le_add_left (by decide : 1 ≤ 64) _) hr.units
section
variable {X : Cx}
theorem pv (i : Nat) {x : Str} {pos : Pos} (hN : X.N[i]? = some x := by rfl) (hv : Vis X.env.scope x := by first | exact Or.inl rfl | exact Or.inr (Or.inl rfl) | exact Or.inr (Or.inr rfl)) (hd : (x == ("__debug__" : Str)) = false := by decide)
    (hcd : (x == ("__classdict__" : Str)) = false := by decide) : PE X (.Name x pos) (tVar i) := pe_var hN hv hd hcd
end
theorem iteF {A B : Prop} (h : B) : if false = true then A else B := by
  rw [if_neg Bool.false_ne_true]
  exact h
theorem iteT {A B : Prop} (h : A) : if true = true then A else B := by
  rw [if_pos rfl]
  exact h
theorem ite2 {c A B : Prop} [Decidable c] (h1 : c → A) (h2 : ¬ c → B) : if c then A else B := by
  by_cases h : c
  · rw [if_pos h]
    exact h1 h
  · rw [if_neg h]
    exact h2 h
end L2
set_option Elab.async false
set_option linter.all false
set_option maxRecDepth 100000
set_option maxHeartbeats 4000000
namespace L2
open PySem PySem.Spec PyProof.Rows
structure Blk where
  s : Shared
  H : Hp
  fp : List Addr
  C : Addr
noncomputable def clOf (names : List (Str × NameKind)) (cells : List (Str × Addr)) : List (Str × Addr) :=
  names.foldl (fun acc p => if p.2 == .free then (p.1, (cells.lookup p.1).getD 0) :: acc else acc) []
noncomputable def blk (X : Cx) (sc : Scope) (own : List Str) (js : List Nat) (z : Blk) : Cx where
  prog := X.prog
  w := X.w
  K := X.K
  mg := X.mg
  base := X.base
  A := X.A
  N := own ++ js.map fun j => X.N.getD j ""
  s₀ := z.s
  H₀ := z.H
  env := compEnvC sc (clOf sc.names X.env.cells) z.C X.env
  outer := X.stack
  stack := X.stack
  ex := z.fp
  fn := fun _ => false
  calm := X.calm
  pn := []
  xe := fun _ _ => False
noncomputable def okBlk (sc out : Scope) : Bool := sc.names.all fun p => p.2 != .cell && (p.2 != .local || sc.names.lookup p.1 == some .local) && (p.2 != .free || out.names.lookup p.1 == some .cell || out.names.lookup p.1 == some .free)
noncomputable def okCap (sc : Scope) (N : List Str) (js : List Nat) : Bool := js.all fun j => decide (j < N.length) && (sc.names.lookup (N.getD j "") == some .free)
noncomputable def capt (n : Nat) (js : List Nat) (σ : St) : St := List.replicate n none ++ js.map fun j => (σ[j]?).join
theorem clOf_gen (cells : List (Str × Addr)) : ∀ (names : List (Str × NameKind)) (acc : List (Str × Addr)) (x : Str) (c : Addr),
    (names.foldl (fun acc p => if p.2 == .free then (p.1, (cells.lookup p.1).getD 0) :: acc else acc) acc).lookup x = some c →
    ((x, NameKind.free) ∈ names ∧ c = (cells.lookup x).getD 0) ∨ acc.lookup x = some c
  | [], acc, x, c, h => .inr h
  | (n, k) :: r, acc, x, c, h => by
    rw [List.foldl_cons] at h
    rcases clOf_gen cells r _ x c h with ⟨h1, h2⟩ | h1
    · exact .inl ⟨List.mem_cons_of_mem _ h1, h2⟩
    · cases hk : (k == NameKind.free) with
      | false => 
        simp only [hk] at h1
        exact .inr h1
      | true =>
        simp only [hk, if_true] at h1
        rw [List.lookup_cons] at h1
        cases hx : (x == n) with
        | false => rw [hx] at h1; exact .inr h1
        | true =>
          rw [hx] at h1
          have e1 : x = n := by simpa using hx
          have e2 : k = .free := by simpa using hk
          subst e1 e2
          exact .inl ⟨List.mem_cons_self, (Option.some.inj h1).symm⟩
theorem clOf_has (cells : List (Str × Addr)) : ∀ (names : List (Str × NameKind)) (acc : List (Str × Addr)) (x : Str),
    ((x, NameKind.free) ∈ names ∨ (acc.lookup x).isSome = true) → ((names.foldl (fun acc p => if p.2 == .free then (p.1, (cells.lookup p.1).getD 0) :: acc else acc) acc).lookup x).isSome = true
  | [], acc, x, h => by
    rcases h with h | h
    · simp at h
    · exact h
  | (n, k) :: r, acc, x, h => by
    rw [List.foldl_cons]
    apply clOf_has cells r
    rcases h with h | h
    · rcases List.mem_cons.mp h with e | h
      · right
        cases e
        simp [List.lookup_cons]
      · exact .inl h
    · right
      cases hk : (k == NameKind.free) with
      | false => simpa [hk] using h
      | true =>
        simp only [hk, if_true, List.lookup_cons]
        cases hx : (x == n) with
        | true => rfl
        | false => exact h
theorem closure_eq {env : Env} {sc : Scope} (h : ∀ p ∈ sc.names, p.2 = .free → ∃ c, env.cells.lookup p.1 = some c) : closureFor sc env = pure (clOf sc.names env.cells) := by
  have go : ∀ (names : List (Str × NameKind)) (acc : List (Str × Addr)), (∀ p ∈ names, p.2 = NameKind.free → ∃ c, env.cells.lookup p.1 = some c) →
      (forIn names acc fun (p : Str × NameKind) (r : List (Str × Addr)) => (match p with | (name, kind) => if (kind == NameKind.free) = true then do let c ← cellOf env name; pure (ForInStep.yield ((name, c) :: r)) else pure (ForInStep.yield r) : Sem _)) =
      pure (names.foldl (fun acc p => if p.2 == .free then (p.1, (env.cells.lookup p.1).getD 0) :: acc else acc) acc) := by
    intro names
    induction names with
    | nil => intro acc _; rfl
    | cons p r ih =>
      intro acc hp
      obtain ⟨n, k⟩ := p
      rw [List.forIn_cons, List.foldl_cons]
      cases hk : (k == NameKind.free) with
      | false =>
        simp only [hk, Bool.false_eq_true, if_false]
        exact ih acc fun q hq => hp q (List.mem_cons_of_mem _ hq)
      | true =>
        obtain ⟨c, hc⟩ := hp (n, k) List.mem_cons_self (by simpa using hk)
        have e : cellOf env n = pure c := by
          unfold cellOf
          rw [show env.cells.lookup n = some c from hc]
        simp only [hk, if_true, e]
        have hc' : env.cells.lookup n = some c := hc
        rw [hc']
        exact ih _ fun q hq => hp q (List.mem_cons_of_mem _ hq)
  unfold closureFor clOf
  have := go sc.names [] h
  simp only [this]
  rfl
noncomputable def PCs (X : Cx) (ifs : List Expr) (t : TT) : Prop :=
  ∀ (pins : List (Addr × Obj)) (s : Shared) (σ : St) (H : Hp) (Q : Bool → Hp → Prop), Inv X pins σ H s → t σ H Q →
    wpAny (model X.prog X.w) X.A (forIn ifs true fun c r => if r = true then do let ok ← isTrue c X.env (eval c X.env); pure (ForInStep.yield ok) else pure (ForInStep.yield r)) (TP X pins σ Q) X.xe s
noncomputable def tYes : TT := fun _ H Q => Q true H
theorem pcs_nil {X : Cx} : PCs X [] tYes := fun _ _ _ H _ I h => wpAny_tests_nil ⟨H, I, h⟩
theorem pcs_one {X : Cx} {c : Expr} {t : TT} (h : PT X c t) : PCs X [c] t := fun pins s σ H Q I hq => wpAny_tests_one (h pins s σ H Q I hq)
theorem compLoop_own {prog : Program} {w : World} {A : Around} {R : Result → Shared → Prop} {t0 : Shared} {elt tgt iter : Expr} {ifs : List Expr} {sc : Scope} {ps : Pos} {itv acc : Value} {ce : Env} (Wd : Nat → Shared → Prop)
    (step : ∀ k t, Wd k t → wpAny (model prog w) A (pyNext itv) (fun got t1 =>
      match got with
      | none => R (.ok .next) t1
      | some u => wpAny (model prog w) A (letOwnedTupleGo tgt itv u) (fun _ t2 => wpAny (model prog w) A (assign tgt ce u) (fun _ t3 =>
          wpAny (model prog w) A (forIn ifs true fun c r => if r = true then do let ok ← isTrue c ce (eval c ce); pure (ForInStep.yield ok) else pure (ForInStep.yield r)) (fun yes t4 =>
            if yes = true then wpAny (model prog w) A (eval elt ce) (fun val t5 => wpAny (model prog w) A (call (.builtin "list.append") [acc, val]) (fun _ t6 => ∃ m, m < k ∧ Wd m t6) (fun _ _ => False) t5) (fun _ _ => False) t4
            else ∃ m, m < k ∧ Wd m t4) (fun _ _ => False) t3) (fun _ _ => False) t2) (fun _ _ => False) t1) (fun _ _ => False) t)
    (k0 : Nat) (start : Wd k0 t0) : codeAny (model prog w) A (.compLoop (.ListComp elt [⟨tgt, iter, ifs, 0⟩] sc ps) 0 itv acc ce) R t0 := by
  refine codeAny_loop rfl Wd (fun k t hW => ?turn) k0 start
  case turn =>
    have nox : ∀ {α : Type} {m : Sem α} {Q : α → Shared → Prop} {E : Value → Shared → Prop} {z : Shared}, wpAny (model prog w) A m Q (fun _ _ => False) z → wpAny (model prog w) A m Q E z := fun h => wpAny_mono h (fun _ _ q => q) fun _ _ f => f.elim
    show wpAny _ A ((compTurn (.ListComp elt [⟨tgt, iter, ifs, 0⟩] sc ps) 0 itv acc ce).onRaise (fun x => do noteFrame x ce; theTreesLotGoes x)) _ _ t
    apply wpAny_noted
    rw [compTurn_list]
    refine wpAny_bind (wpAny_standAt (wpAny_bind (nox (wpAny_mono (step k t hW) (fun got t1 h1 => ?_) fun _ _ f => f))))
    cases got with
    | none => exact wpAny_pure h1
    | some u =>
      refine wpAny_bind (nox (wpAny_mono h1 (fun _ t2 h2 => ?_) fun _ _ f => f))
      refine wpAny_bind (nox (wpAny_mono h2 (fun _ t3 h3 => ?_) fun _ _ f => f))
      refine wpAny_bind (nox (wpAny_mono h3 (fun yes t4 h4 => ?_) fun _ _ f => f))
      cases yes with
      | false =>
        rw [if_neg Bool.false_ne_true] at h4
        exact wpAny_pure ⟨rfl, h4⟩
      | true =>
        rw [if_pos rfl] at h4
        refine wpAny_bind (wpAny_bind (nox (wpAny_mono h4 (fun val t5 h5 => ?_) fun _ _ f => f)))
        exact wpAny_bind (nox (wpAny_mono h5 (fun _ t6 h6 => wpAny_pure (wpAny_pure ⟨rfl, h6⟩)) fun _ _ f => f))
section
variable {X : Cx} {pins : List (Addr × Obj)} {σ : St} {H : Hp} {s : Shared}
noncomputable def listObj (its : List Value) (n : Nat) : Obj := { cls := .type "list", data := .seq its.toArray n }
theorem okBlk_free {sc out : Scope} (h : okBlk sc out = true) {p : Str × NameKind} (hp : p ∈ sc.names) (hf : p.2 = .free) : out.names.lookup p.1 = some .cell ∨ out.names.lookup p.1 = some .free := by
  have := List.all_eq_true.mp h p hp
  simp only [hf, Bool.and_eq_true, Bool.or_eq_true, beq_iff_eq, bne_iff_ne, ne_eq, not_true, false_or] at this
  exact this.2
theorem okBlk_cell {sc out : Scope} (h : okBlk sc out = true) {p : Str × NameKind} (hp : p ∈ sc.names) : p.2 ≠ .cell := by
  have := List.all_eq_true.mp h p hp
  simp only [Bool.and_eq_true, bne_iff_ne, ne_eq] at this
  exact this.1.1
theorem okBlk_local {sc out : Scope} (h : okBlk sc out = true) {p : Str × NameKind} (hp : p ∈ sc.names) (hf : p.2 = .local) : sc.names.lookup p.1 = some .local := by
  have := List.all_eq_true.mp h p hp
  simp only [hf, Bool.and_eq_true, Bool.or_eq_true, beq_iff_eq, bne_iff_ne, ne_eq, not_true, false_or] at this
  exact this.1.2
theorem relabel_lookup {sc : Scope} {env : Env} {x : Str} : ∀ {names : List (Str × NameKind)} {k : NameKind}, (names.map fun (p : Str × NameKind) => match p with | (n, k) => if (k == NameKind.free && env.scope.kind == .function && env.kindOf n == some .cell) then (n, NameKind.cell) else (n, k)).lookup x = some k →
    ∃ k', names.lookup x = some k' ∧ (k' = k ∨ (k' = .free ∧ k = .cell))
  | [], _, h => by simp at h
  | (n, q) :: r, k, h => by
    rw [List.map_cons] at h
    rw [List.lookup_cons]
    cases hx : (x == n) with
    | true =>
      refine ⟨q, rfl, ?_⟩
      by_cases hc : (q == NameKind.free && env.scope.kind == .function && env.kindOf n == some .cell) = true
      · simp only [hc, if_true, List.lookup_cons, hx] at h
        right
        simp only [Bool.and_eq_true, beq_iff_eq] at hc
        exact ⟨hc.1.1, (Option.some.inj h).symm⟩
      · left
        have h2 : List.lookup x ((n, q) :: (r.map fun (p : Str × NameKind) => match p with | (n, k) => if (k == NameKind.free && env.scope.kind == .function && env.kindOf n == some .cell) then (n, NameKind.cell) else (n, k))) = some k := by
          have h3 := h
          dsimp only at h3
          rw [if_neg hc] at h3
          exact h3
        rw [List.lookup_cons, hx] at h2
        exact Option.some.inj h2
    | false =>
      have : List.lookup x (r.map fun (p : Str × NameKind) => match p with | (n, k) => if (k == NameKind.free && env.scope.kind == .function && env.kindOf n == some .cell) then (n, NameKind.cell) else (n, k)) = some k := by
        by_cases hc : (q == NameKind.free && env.scope.kind == .function && env.kindOf n == some .cell) = true
        · simpa only [hc, if_true, List.lookup_cons, hx] using h
        · dsimp only at h
          rw [if_neg hc, List.lookup_cons, hx] at h
          exact h
      exact relabel_lookup (sc := sc) this
theorem mem_of_lookup' {names : List (Str × NameKind)} {x : Str} {k : NameKind} (h : names.lookup x = some k) : (x, k) ∈ names := PySem.mem_of_lookup h
theorem cl_sub (ok : X.Ok) {sc : Scope} (hb : okBlk sc X.env.scope = true) {x : Str} {c : Addr} (h : (clOf sc.names X.env.cells).lookup x = some c) : X.env.cells.lookup x = some c := by
  rcases clOf_gen X.env.cells sc.names [] x c h with ⟨h1, h2⟩ | h1
  · obtain ⟨d, hd⟩ := ok.has x (okBlk_free hb h1 rfl)
    rw [hd] at h2 ⊢
    rw [h2]
    rfl
  · simp at h1
theorem cl_has {sc : Scope} {x : Str} {cells : List (Str × Addr)} (h : (x, NameKind.free) ∈ sc.names) : ∃ c, (clOf sc.names cells).lookup x = some c :=
  Option.isSome_iff_exists.mp (clOf_has cells sc.names [] x (.inl h))
theorem Inv.stk_lt (I : Inv X pins σ H s) {b : Addr} (hb : b ∈ frs X.stack) : b < s.heap.objs.size := by
  rcases List.mem_cons.mp (I.stkSub b hb) with e | h
  · rw [e]; exact I.lt
  · obtain ⟨_, o, ho, _⟩ := I.ok.funs.mem h
    exact Nat.lt_of_lt_of_le (Heap.lt_size ho) I.sz
theorem Inv.cell_lt (I : Inv X pins σ H s) {x : Str} {c : Addr} (h : X.env.cells.lookup x = some c) : c < s.heap.objs.size := by
  obtain ⟨v, q⟩ := I.cell x c h
  exact q.lt
theorem Inv.pin_lt (I : Inv X pins σ H s) {p : Addr × Obj} (h : p ∈ X.pn ++ pins) : p.1 < s.heap.objs.size := Heap.lt_size (I.pin p h).1
theorem blk_ok (I : Inv X pins σ H s) {sc : Scope} {own : List Str} {js : List Nat} {fp : List Addr} {C : Nat} (hk : sc.kind = .function) (hb : okBlk sc X.env.scope = true)
    (hfp : ∀ b ∈ fp, FpOk X pins H b) (hC : s.heap.objs.size ≤ C) (hlt : ∀ b ∈ fp, b < s.heap.objs.size) : (blk X sc own js ⟨s, H, fp, C⟩).Ok where
  mod := I.ok.mod
  kind := hk
  glob := I.ok.glob
  blt := I.ok.blt
  above := hC
  inj := fun x y c h1 h2 => I.ok.inj x y c (cl_sub I.ok hb h1) (cl_sub I.ok hb h2)
  has := fun x hx => by
    have hx' : (relabel sc X.env).names.lookup x = some .cell ∨ (relabel sc X.env).names.lookup x = some .free := hx
    have go : ∀ k, (relabel sc X.env).names.lookup x = some k → (k = .cell ∨ k = .free) → ∃ c, (clOf sc.names X.env.cells).lookup x = some c := fun k h hkk => by
      obtain ⟨k', h1, h2⟩ := relabel_lookup (sc := sc) (env := X.env) h
      have m := mem_of_lookup' h1
      rcases h2 with h2 | ⟨h2, _⟩
      · subst h2
        rcases hkk with e | e
        · exact absurd e (okBlk_cell hb m)
        · rw [e] at m; exact cl_has m
      · rw [h2] at m; exact cl_has m
    rcases hx' with h | h
    · exact go _ h (.inl rfl)
    · exact go _ h (.inr rfl)
  cab := fun x c h _ => by cases h
  hd := I.ok.hd
  frames := I.ok.frames
  stk := .inl rfl
  exf := fun b hb' => ⟨Nat.ne_of_lt (Nat.lt_of_lt_of_le (hlt b hb') hC), fun x c e => (hfp b hb').2.2.2.2.1 x c (cl_sub I.ok hb e)⟩
  bs := I.bs
  bsz := Nat.le_trans I.ok.bsz I.sz
  noex := fun b o e hb' => by
    rcases (hfp b hb').2.2.2.1 with z | z
    · exact I.ok.noex b o e z
    · exact absurd (Nat.lt_of_lt_of_le (Heap.lt_size e) (Nat.le_trans I.ok.bsz z)) (Nat.lt_irrefl _)
  exfs := fun b hb' hm => by
    rcases List.mem_cons.mp (I.stkSub b hm) with e | h
    · exact (hfp b hb').2.1 e
    · exact (hfp b hb').2.2.1 h
  funs := I.stack
  frf := I.stkFree
theorem capt_get {n : Nat} {js : List Nat} {i : Nat} {v : V} (h : (capt n js σ)[i]? = some (some v)) : ∃ k j, i = n + k ∧ js[k]? = some j ∧ σ[j]? = some (some v) := by
  unfold capt at h
  by_cases hi : i < n
  · rw [List.getElem?_append_left (by simpa using hi), List.getElem?_replicate] at h
    split at h <;> cases h
  · rw [List.getElem?_append_right (by simpa using Nat.le_of_not_lt hi), List.length_replicate, List.getElem?_map] at h
    cases e : js[i - n]? with
    | none => rw [e] at h; cases h
    | some j =>
      rw [e] at h
      refine ⟨i - n, j, by omega, e, ?_⟩
      have h' : (σ[j]?).join = some v := by simpa using h
      cases q : σ[j]? with
      | none => rw [q] at h'; cases h'
      | some o =>
        rw [q] at h'
        have : o = some v := h'
        rw [this]
theorem blk_inv (I : Inv X pins σ H s) {sc : Scope} {own : List Str} {js : List Nat} {fp : List Addr} {C D : Nat} {h1 : Heap} {tk : Nat} {o : Obj} {m : Str → Option Value} (hk : sc.kind = .function) (hb : okBlk sc X.env.scope = true) (hj : okCap sc X.N js = true)
    (hfp : ∀ b ∈ fp, FpOk X pins H b) (hlt : ∀ b ∈ fp, b < s.heap.objs.size) (hD : D = s.heap.objs.size) (hC : C = s.heap.objs.size + 1) (old : ∀ b o, s.heap.get? b = some o → h1.get? b = some o)
    (hDo : h1.get? D = some o) (hod : ∀ v, o.data ≠ .cell v) (hm : h1.Ns C m) :
    Inv (blk X sc own js ⟨s, H, fp, C⟩) [(D, o)] (capt own.length js σ) H { s with heap := h1, toks := tk } where
  ok := blk_ok I hk hb hfp (show @LE.le Nat _ s.heap.objs.size C by omega) hlt
  os := rfl
  bare := I.bare
  base := Un.kept old
  loc := by
    refine ⟨m, hm, fun i x v e1 e2 e3 => ?_⟩
    obtain ⟨k, j, rfl, ej, es⟩ := capt_get e2
    have e1' : (own ++ js.map fun j => X.N.getD j "")[own.length + k]? = some x := e1
    rw [List.getElem?_append_right (by omega), Nat.add_sub_cancel_left, List.getElem?_map, ej] at e1'
    have ex : X.N.getD j "" = x := by simpa using e1'
    have hjj := List.all_eq_true.mp hj j (List.mem_of_getElem? ej)
    simp only [Bool.and_eq_true, decide_eq_true_eq, beq_iff_eq] at hjj
    have exN : X.N[j]? = some x := by
      rw [← ex, List.getD_eq_getElem?_getD, List.getElem?_eq_getElem hjj.1]
      rfl
    have hfree : sc.names.lookup x = some .free := by rw [← ex]; exact hjj.2
    have hmem := mem_of_lookup' hfree
    have hout := okBlk_free hb hmem rfl
    obtain ⟨m0, hn0, hl0⟩ := I.loc
    obtain ⟨u, r, l⟩ := hl0 j x v exN es (by rcases hout with z | z; exact .inr (.inl z); exact .inr (.inr z))
    refine ⟨u, r, ?_⟩
    obtain ⟨c, hc⟩ := cl_has (cells := X.env.cells) hmem
    have hc' := cl_sub I.ok hb hc
    have hcell : s.heap.IsCell c (some u) := by
      rcases l with ⟨z, _⟩ | ⟨_, c', e', q⟩
      · have z' : X.env.scope.names.lookup x = some .local := z
        rcases hout with w | w <;> (rw [z'] at w; cases w)
      · rw [hc'] at e'; cases e'; exact q
    have hcell1 : h1.IsCell c (some u) := by
      obtain ⟨oc, ho, hd⟩ := hcell
      exact ⟨oc, old c oc ho, hd⟩
    right
    refine ⟨?_, c, hc, hcell1⟩
    have e3' : (relabel sc X.env).names.lookup x = some .local ∨ (relabel sc X.env).names.lookup x = some .cell ∨ (relabel sc X.env).names.lookup x = some .free := e3
    rcases e3' with z | z
    · obtain ⟨k', z1, z2⟩ := relabel_lookup (sc := sc) (env := X.env) z
      rw [hfree] at z1
      rcases z2 with z2 | ⟨_, z2⟩
      · rw [z2] at z1; cases z1
      · cases z2
    · exact z
  cell := fun x c e => by
    obtain ⟨v, oc, ho, hd⟩ := I.cell x c (cl_sub I.ok hb e)
    exact ⟨v, oc, old c oc ho, hd⟩
  free := I.hok.fresh (show @LE.le Nat _ s.heap.objs.size C by omega)
  freeC := fun x c e => I.freeC x c (cl_sub I.ok hb e)
  pin := fun p hp => by
    have e : p = (D, o) := by simpa [blk] using hp
    subst e
    refine ⟨hDo, I.hok.fresh (show @LE.le Nat _ s.heap.objs.size D by omega), ?_, fun z => ?_, hod⟩
    · exact Nat.ne_of_lt (show @LT.lt Nat _ D C by omega)
    · have h9 : @LT.lt Nat _ D s.heap.objs.size := I.stk_lt (b := D) z
      omega
  hok := I.hok.kept old
  len := by
    show (capt own.length js σ).length = (own ++ js.map fun j => X.N.getD j "").length
    simp [capt]
noncomputable def CompBody (J : It) (n : Nat) (js : List Nat) (g : TG) (tc : TT) (te : TE) (σ : St) (H : Hp) (Q : VK) : Prop :=
  ∃ W : Nat → Nat → List V → Hp → Prop, (∃ m, W 0 m [] H) ∧ ∀ i m ys H', W i m ys H' →
    (J.stop i H' ∧ ∀ p, H' p = none → Q (.ref p) (upd H' p (.lst ys))) ∨
    (J.go i H' ∧ ys.length < sizeLine ∧ ∃ N : List V → Hp → Prop, (∀ ys' H2, N ys' H2 → ∃ m', m' < m ∧ W (i + 1) m' ys' H2) ∧ ∀ x H2, J.yld i H' x H2 → g x (capt n js σ) H2 fun σ2 H3 => tc σ2 H3 fun b H4 =>
      if b = true then te σ2 H4 fun v H5 => N (ys ++ [v]) H5 else N ys H4)
noncomputable def tComp (n : Nat) (js : List Nat) (wi : TI) (g : TG) (tc : TT) (te : TE) : TE := fun σ H Q => wi σ H fun J H1 => CompBody J n js g tc te σ H1 Q
theorem comp_core {elt tg iter : Expr} {ifs : List Expr} {sc : Scope} {pos : Pos} {own : List Str} {js : List Nat} {g : TG} {tc : TT} {te : TE} {J : It} {it : Addr} {fp : List Addr} {tn : Nat → Heap → Prop} {RR : Value → Addr → Result → Shared → Prop} {E : Value → Shared → Prop}
    {Q : VK} {W : Nat → Nat → List V → Hp → Prop} (hk : sc.kind = .function) (hb : okBlk sc X.env.scope = true) (hj : okCap sc X.N js = true) (hc : X.calm = true)
    (hg : ∀ z, PG (blk X sc own js z) tg g) (ht : ∀ z, PCs (blk X sc own js z) ifs tc) (he : ∀ z, PE (blk X sc own js z) elt te)
    (I : Inv X pins σ H s) (T : Turn X.prog X.w X.K tg J fp it tn) (st : tn 0 s.heap) (hfp : ∀ b ∈ fp, FpOk X pins H b) (w0 : ∃ m, W 0 m [] H)
    (turn : ∀ i m ys H', W i m ys H' → (J.stop i H' ∧ ∀ p, H' p = none → Q (.ref p) (upd H' p (.lst ys))) ∨
      (J.go i H' ∧ ys.length < sizeLine ∧ ∃ N : List V → Hp → Prop, (∀ ys' H2, N ys' H2 → ∃ m', m' < m ∧ W (i + 1) m' ys' H2) ∧ ∀ x H2, J.yld i H' x H2 → g x (capt own.length js σ) H2 fun σ2 H3 => tc σ2 H3 fun b H4 =>
        if b = true then te σ2 H4 fun v H5 => N (ys ++ [v]) H5 else N ys H4))
    (fin : ∀ D C s' ys H', H' D = none → Inv X pins σ (upd H' D (.lst ys)) s' → FpOk X pins (upd H' D (.lst ys)) C → (∃ m, s'.heap.Ns C m) → s.heap.objs.size ≤ C → Q (.ref D) (upd H' D (.lst ys)) → RR (.ref D) C (.ok .next) s') :
    wpAny (model X.prog X.w) X.A (newList []) (fun acc s₃ => wpAny (model X.prog X.w) X.A (newFunctionEnv sc X.env.globals (clOf sc.names X.env.cells) [] X.env.qual none .none (some X.env)) (fun cenv s₄ =>
      codeAny (model X.prog X.w) X.A (.compStart (.ListComp elt [⟨tg, iter, ifs, 0⟩] sc pos) 0 (.ref it) acc { cenv with scope := relabel sc X.env }) (RR acc cenv.locals) s₄) E s₃) E s := by
  have hlt : ∀ b ∈ fp, b < s.heap.objs.size := fun b hb' => by
    obtain ⟨o, e, _⟩ := T.obj 0 s.heap st b hb'
    exact Heap.lt_size e
  refine wpAny_newObj_type (wpAny_newFunctionEnv (fun y hy => okBlk_cell hb hy) (by intro y hy; simp at hy) (fun h₁ hns₁ hsb₁ => ?_) hk)
  dsimp only at hns₁ hsb₁ ⊢
  generalize hH2 : s.heap.push { cls := .type "list", dict := none, data := .seq ([] : List Value).toArray } = H2 at hns₁ hsb₁ ⊢
  have hCs : H2.objs.size = s.heap.objs.size + 1 := by rw [← hH2, Heap.size_push]
  generalize hCe : H2.objs.size = C at *
  have below : ∀ b : Nat, b < s.heap.objs.size → b ≠ C := fun b hb' => by omega
  have old : ∀ b o, s.heap.get? b = some o → h₁.get? b = some o := fun b o e => hsb₁.extBut b o (below b (Heap.lt_size e)) (Heap.get?_push_of_some _ (hH2 ▸ Heap.get?_push_of_some _ e))
  have hDo : h₁.get? s.heap.objs.size = some (listObj [] 0) := hsb₁.extBut _ _ (show @Ne Nat s.heap.objs.size C by omega) (Heap.get?_push_of_some _ (hH2 ▸ Heap.get?_push_size _ rfl))
  generalize hDe : s.heap.objs.size = D at *
  -- the loop's word
  let Y : Cx := blk X sc own js ⟨s, H, fp, C⟩
  have J0 : Inv Y [(D, listObj [] 0)] (capt own.length js σ) H { s with heap := h₁, toks := s.toks + ([] : List (Str × Value)).length } :=
    blk_inv I hk hb hj hfp (by rw [hDe]; exact hlt) hDe.symm (by rw [hDe]; exact hCs) old hDo (fun v z => by cases z) hns₁
  have ndC : @Ne Nat D C := by omega
  have statF : ∀ {P' : List (Addr × Obj)} {H' : Hp}, (∀ b ∈ fp, H' b = none) → (∀ p ∈ P', p.1 ∉ fp) → ∀ b ∈ fp, FpOk Y P' H' b := fun {P' H'} hn hp b hb' => by
    obtain ⟨f0, f1, f2, f3, f4, f5⟩ := hfp b hb'
    refine ⟨hn b hb', fun z => below b (hlt b hb') z, fun z => ?_, .inl hb', fun x c e => f4 x c (cl_sub I.ok hb e), fun p hp' z => ?_⟩
    · rcases List.mem_cons.mp (I.stkSub b z) with e | h
      · exact f1 e
      · exact f2 h
    · have : p ∈ P' := by simpa [Y, blk] using hp'
      exact hp p this (by rw [z]; exact hb')
  have Dfp : D ∉ fp := fun z => by have h9 : @LT.lt Nat _ D D := hlt D z; omega
  have st1 : tn 0 h₁ := T.keep 0 s.heap h₁ st fun b _ o e => old b o e
  have loop : ∀ s₃ : Shared, s₃ = { s with heap := h₁, toks := s.toks + ([] : List (Str × Value)).length } →
      codeAny (model X.prog X.w) X.A (.compLoop (.ListComp elt [⟨tg, iter, ifs, 0⟩] sc pos) 0 (.ref it) (.ref D) Y.env) (RR (.ref D) C) s₃ := by
    rintro s₃ rfl
    obtain ⟨m0, w0⟩ := w0
    refine compLoop_own (fun n s' => ∃ i ys its q H', Inv Y [(D, listObj its q)] (capt own.length js σ) H' s' ∧ Vals ys its ∧ ys.length ≤ sizeLine ∧ tn i s'.heap ∧ (∀ b ∈ fp, H' b = none) ∧ W i n ys H') ?_ m0
      ⟨0, [], [], 0, H, J0, .nil, Nat.zero_le _, st1, fun b hb' => (hfp b hb').1, w0⟩
    rintro n s3 ⟨i, ys, its, q, H3, I3, rv, hz, st3, fr3, w3⟩
    have pD : ∀ p ∈ [(D, listObj its q)], p.1 ∉ fp := fun p hp => by
      have e : p = (D, listObj its q) := by simpa using hp
      rw [e]; exact Dfp
    rcases turn i n ys H3 w3 with ⟨stop, qn⟩ | ⟨go, hlen, N, hN, step⟩
    · -- the end
      refine thn (T.done Y rfl rfl rfl hc i _ s3 _ H3 _ I3 (statF fr3 pD) st3 stop) fun r s4 ⟨hr, I4⟩ => ?_
      subst hr
      show RR (.ref D) C (.ok .next) s4
      have hDp := I4.pin (D, listObj its q) (List.mem_append_right _ (List.mem_singleton.mpr rfl))
      have hD4 : s4.heap.get? D = some (listObj its q) := hDp.1
      have nD : H3 D = none := hDp.2.1
      have U : Un (frs X.stack) fp H H3 s.heap s4.heap := I4.base
      have neD : ∀ b o, s.heap.get? b = some o → b ≠ D := fun b o e => Nat.ne_of_lt (by have h9 : @LT.lt Nat _ b s.heap.objs.size := Heap.lt_size e; omega)
      have neDH : ∀ b o, H b = some o → b ≠ D := fun b o e => Nat.ne_of_lt (by have h9 : @LT.lt Nat _ b s.heap.objs.size := I.hok.lt e; omega)
      have U2 : Un (frs X.stack) fp H (upd H3 D (.lst ys)) s.heap s4.heap :=
        ⟨U.keep, U.slot, fun b o e n hx => by rw [upd_ne (neD b o e)]; exact U.free b o e n hx, U.there, fun b xs e => by rw [upd_ne (neDH b _ e)]; exact U.tups b xs e,
          fun b o u e => by rw [upd_ne (neDH b _ e)]; exact U.frzs b o u e, fun b ps e => by rw [upd_ne (neDH b _ e)]; exact U.tbls b ps e⟩
      have hok2 : HOk X.prog X.w (upd H3 D (.lst ys)) s4.heap := fun b o e => by
        by_cases hb' : b = D
        · subst hb'
          rw [upd_same] at e
          cases e
          exact ⟨hz, its, q, rv, hD4⟩
        · rw [upd_ne hb'] at e
          exact (I4.hok b o e).stay (fun c u _ z => z) (fun c z => by rw [upd_ne (ne_of_none z nD)]; exact z) fun c xs z => by rw [upd_ne (ne_of_none z nD)]; exact z
      have IX : Inv X pins σ (upd H3 D (.lst ys)) s4 := I.call' (ch := fp) I4.os U2 hok2 I4.bare fun b hb' => by
        obtain ⟨f0, f1, f2, f3, f4, f5⟩ := hfp b hb'
        exact ⟨f3, f1, f4, f5⟩
      obtain ⟨m4, hn4, _⟩ := I4.loc
      have nC : H3 C = none := I4.free
      refine fin D C s4 ys H3 nD IX ?_ ⟨m4, hn4⟩ (show @LE.le Nat _ D C by omega) (qn D nD)
      refine ⟨by rw [upd_ne (Ne.symm ndC)]; exact nC, ?_, ?_, ?_, ?_, ?_⟩
      · have h9 : @LT.lt Nat _ X.env.locals s.heap.objs.size := I.lt
        exact Nat.ne_of_gt (show @LT.lt Nat _ X.env.locals C by omega)
      · exact I.nofs (show @LE.le Nat _ s.heap.objs.size C by omega)
      · right
        have h9 : @LE.le Nat _ X.s₀.heap.objs.size s.heap.objs.size := I.sz
        exact (show @LE.le Nat _ X.s₀.heap.objs.size C by omega)
      · intro x c e
        have h9 : @LT.lt Nat _ c s.heap.objs.size := I.cell_lt e
        exact Nat.ne_of_lt (show @LT.lt Nat _ c C by omega)
      · intro p hp
        have h9 : @LT.lt Nat _ p.1 s.heap.objs.size := I.pin_lt hp
        exact Nat.ne_of_lt (show @LT.lt Nat _ p.1 C by omega)
    · -- a turn
      refine thn (T.item Y rfl rfl rfl hc i _ s3 _ H3 _ I3 (statF fr3 pD) st3 go) fun r s4 ⟨u, hr, h4⟩ => ?_
      subst hr
      refine thn h4 fun _ s5 ⟨x, H5, I5, r5, y5, st5, fr5⟩ => ?_
      have I5' := I5.pinned (statF fr5 pD) (T.obj _ _ st5)
      refine thn (hg _ _ s5 _ H5 x u _ I5' r5 (step x H5 y5)) fun _ s6 ⟨σ6, H6, I6, q6⟩ => ?_
      refine thn (ht _ _ s6 σ6 H6 _ I6 q6) fun ok s7 ⟨H7, I7, q7⟩ => ?_
      have back : ∀ {s' : Shared} {σ' : St} {H' : Hp} {ys' : List V} {its' : List Value} {q' : Nat}, Inv Y ([(D, listObj its' q')] ++ pinsAt fp s5.heap) σ' H' s' → Vals ys' its' → ys'.length ≤ sizeLine → N ys' H' →
          ∃ m, m < n ∧ ∃ i ys its q H', Inv Y [(D, listObj its q)] (capt own.length js σ) H' s' ∧ Vals ys its ∧ ys.length ≤ sizeLine ∧ tn i s'.heap ∧ (∀ b ∈ fp, H' b = none) ∧ W i m ys H' := by
        intro s' σ' H' ys' its' q' I' rv' hz' nn
        obtain ⟨m', hm, w'⟩ := hN ys' H' nn
        have hpin : ∀ b ∈ fp, ∀ o, s5.heap.get? b = some o → s'.heap.get? b = some o ∧ H' b = none := fun b hb' o e => by
          have := I'.pin (b, o) (List.mem_append_right _ (List.mem_append_right _ (mem_pinsAt hb' e)))
          exact ⟨this.1, this.2.1⟩
        refine ⟨m', hm, i + 1, ys', its', q', H', ?_, rv', hz', T.keep _ _ _ st5 fun b hb' o e => (hpin b hb' o e).1, fun b hb' => ?_, w'⟩
        · have I'' := I'.unpinned
          obtain ⟨mm, hmm, _⟩ := id I''.loc
          refine ⟨I''.ok, I''.os, I''.bare, I''.base, ⟨mm, hmm, fun k x v e1 e2 e3 => ?_⟩, I''.cell, I''.free, I''.freeC, I''.pin, I''.hok, ?_⟩
          · -- the captured names: their cells are as they were at the block's beginning
            obtain ⟨m1, hn1, hl1⟩ := J0.loc
            obtain ⟨u1, r1, l1⟩ := hl1 k x v e1 e2 e3
            refine ⟨u1, r1, ?_⟩
            rcases l1 with ⟨z, zz⟩ | ⟨z, c, e, zz⟩
            · -- a captured name is no local one
              exfalso
              obtain ⟨k', j, rfl, ej, es⟩ := capt_get e2
              have e1' : (own ++ js.map fun j => X.N.getD j "")[own.length + k']? = some x := e1
              rw [List.getElem?_append_right (by omega), Nat.add_sub_cancel_left, List.getElem?_map, ej] at e1'
              have ex : X.N.getD j "" = x := by simpa using e1'
              have hjj := List.all_eq_true.mp hj j (List.mem_of_getElem? ej)
              simp only [Bool.and_eq_true, decide_eq_true_eq, beq_iff_eq] at hjj
              have hfree : sc.names.lookup x = some .free := by rw [← ex]; exact hjj.2
              obtain ⟨k2, z1, z2⟩ := relabel_lookup (sc := sc) (env := X.env) (show (relabel sc X.env).names.lookup x = some .local from z)
              rw [hfree] at z1
              rcases z2 with z2 | ⟨_, z2⟩
              · rw [z2] at z1; cases z1
              · cases z2
            · refine .inr ⟨z, c, e, ?_⟩
              have hcs : X.env.cells.lookup x = some c := cl_sub I.ok hb e
              obtain ⟨ov, oc, hoc, hdc⟩ := I.cell x c hcs
              have hoc1 := old c oc hoc
              obtain ⟨oz, hoz, hdz⟩ := zz
              have hoz' : h₁.get? c = some oz := hoz
              rw [hoc1] at hoz'
              cases hoz'
              have cnf : c ∉ fp := fun z' => (hfp c z').2.2.2.2.1 x c hcs rfl
              obtain ⟨sl, hh⟩ := I''.base.any hoc (I.freeC x c hcs) cnf
              exact ⟨_, hh, hdz⟩
          · show (capt own.length js σ).length = _
            exact J0.len
        · obtain ⟨o, e, d⟩ := T.obj _ _ st5 b hb'
          exact (hpin b hb' o e).2
      cases ok with
      | false =>
        rw [if_neg Bool.false_ne_true] at q7 ⊢
        exact back I7 rv hz q7
      | true =>
        rw [if_pos rfl] at q7 ⊢
        refine thn (he _ _ s7 σ6 H7 _ I7 q7) fun xv s8 ⟨v, H8, I8, r8, q8⟩ => ?_
        have hDp := I8.pin (D, listObj its q) (List.mem_append_right _ (List.mem_append_left _ (List.mem_singleton.mpr rfl)))
        have hD8 : s8.heap.get? D = some { cls := .type "list", data := .seq its.toArray q } := hDp.1
        have hl := rv.length
        refine call_meets F.slot_list_append ⟨_, hD8, rfl⟩ F.entry_list_append (F.args_list_append_2 _ _) (PySem.list_append D its.toArray q xv (by rw [List.size_toArray]; omega)) ⟨hD8, ?_⟩
        have qq := PySem.IsL.update hD8 (fun a => a.push xv)
        have eqs : its.toArray.push xv = (its ++ [xv]).toArray := by simp
        rw [eqs] at qq
        obtain ⟨q2, hq2⟩ : ∃ q2, (s8.heap.update D (Obj.mapSeq fun a => a.push xv)).get? D = some (listObj (its ++ [xv]) q2) := ⟨_, qq⟩
        -- without the pin of D, the record turns, then it is pinned again
        have I8a : Inv Y (pinsAt fp s5.heap) σ6 H8 s8 := I8.pins_of fun p hp => I8.pin p (List.mem_append_right _ (List.mem_append_right _ hp))
        have nD8 : H8 D = none := hDp.2.1
        have I9 : Inv Y (pinsAt fp s5.heap) σ6 H8 { s8 with heap := s8.heap.update D (Obj.mapSeq fun a => a.push xv), toks := s8.toks } := by
          refine I8a.turned (it := D) (fun b o hb' e => (Heap.get?_update_other s8.heap (Obj.mapSeq fun a => a.push xv) (Ne.symm hb')).trans e) nD8 ndC (.inr (show @LE.le Nat _ s.heap.objs.size D by omega)) (fun x c e => ?_) fun p hp => ?_
          · have h9 : @LT.lt Nat _ c s.heap.objs.size := I.cell_lt (cl_sub I.ok hb e)
            exact Nat.ne_of_lt (show @LT.lt Nat _ c D by omega)
          · have hp' : p ∈ pinsAt fp s5.heap := by simpa [Y, blk] using hp
            obtain ⟨h1, _⟩ := of_pinsAt hp'
            exact fun z => Dfp (z ▸ h1)
        refine back (ys' := ys ++ [v]) (its' := its ++ [xv]) (q' := q2) (I9.pins_of fun p hp => ?_) (rv.append (.cons r8 .nil)) (by rw [List.length_append, List.length_singleton]; omega) q8
        rcases List.mem_append.mp hp with hp | hp
        · have e : p = (D, listObj (its ++ [xv]) q2) := by simpa using hp
          subst e
          refine ⟨hq2, nD8, ndC, fun z => ?_, fun v z => by cases z⟩
          have h9 : @LT.lt Nat _ D s.heap.objs.size := I.stk_lt (b := D) z
          omega
        · exact I9.pin p (List.mem_append_right _ hp)
  exact codeAny_compStart_list (loop _ rfl) (T.self X.A 0 { s with heap := h₁, toks := s.toks + ([] : List (Str × Value)).length } _ _ st1 (loop _ rfl))
theorem pe_comp {elt tg iter : Expr} {ifs : List Expr} {sc : Scope} {pos : Pos} (own : List Str) (js : List Nat) {wi : TI} {g : TG} {tc : TT} {te : TE} (hi : PI X tg iter wi) (hg : ∀ z, PG (blk X sc own js z) tg g) (ht : ∀ z, PCs (blk X sc own js z) ifs tc)
    (he : ∀ z, PE (blk X sc own js z) elt te) (hc : X.calm = true := by rfl) (hk : sc.kind = .function := by rfl) (hb : okBlk sc X.env.scope = true := by rfl) (hj : okCap sc X.N js = true := by rfl)
    (hs : ∀ x, foldedSetIterable iter X.env x = pure x := by intro _; rfl) : PE X (.ListComp elt [⟨tg, iter, ifs, 0⟩] sc pos) (tComp own.length js wi g tc te) := by
  intro pins s σ H Q I h
  rw [eval_ListComp]
  refine wpAny_comprehension_free (use := none) rfl hs (closure_eq fun p hp hf => I.ok.has p.1 (okBlk_free hb hp hf)) hk (fun p hp hl => okBlk_local hb hp hl) (thn (hi pins s σ H _ I h) fun v s1 h1 => thn h1 fun itv s2 h2 => ?_)
  obtain ⟨it, fp, tn, J, H2, e, I2, T, st2, f2, W, w0, turn⟩ := h2
  subst e
  refine comp_core (RR := fun acc C => compPost (model X.prog X.w) X.A X.xe none (EP X pins σ Q) acc C) hk hb hj hc hg ht he I2 T st2 f2 w0 turn ?_
  intro D C s' ys H' nD I' hC ⟨m, hm⟩ _ q
  refine ⟨m, hm, fun h' hs' => ?_⟩
  obtain ⟨f0, f1, f2, f3, f4, f5⟩ := hC
  exact ⟨.ref D, _, I'.turned (t' := s'.toks) (it := C) (fun b o hb' e => (hs'.2 b hb').trans e) f0 f1 f3 f4 f5, rfl, q⟩
theorem ps_setComp {i : Nat} {y : Str} {py : Pos} {elt tg iter : Expr} {ifs : List Expr} {sc : Scope} {pos spos : Pos} (own : List Str) (js : List Nat) {wi : TI} {g : TG} {tc : TT} {te : TE} (hN : X.N.Nodup) (hi' : X.N[i]? = some y) (hx : Loc X.env.scope y)
    (hi : PI X tg iter wi) (hg : ∀ z, PG (blk X sc own js z) tg g) (ht : ∀ z, PCs (blk X sc own js z) ifs tc)
    (he : ∀ z, PE (blk X sc own js z) elt te) (hsw : swapsWith (.ListComp elt [⟨tg, iter, ifs, 0⟩] sc pos) (some (.Name y py)) spos.line X.env = pure true := by rfl) (hc : X.calm = true := by rfl) (hk : sc.kind = .function := by rfl) (hb : okBlk sc X.env.scope = true := by rfl) (hj : okCap sc X.N js = true := by rfl)
    (hs : ∀ x, foldedSetIterable iter X.env x = pure x := by intro _; rfl) (hf : X.fn y = true ∨ X.env.scope.names.lookup y = some .local := by first | exact .inl rfl | exact .inr rfl | assumption) :
    PS X (.Assign [.Name y py] (.ListComp elt [⟨tg, iter, ifs, 0⟩] sc pos) spos) (tAsg (tComp own.length js wi g tc te) (gName i)) := by
  intro pins s σ H D' I h
  rw [exec_Assign_Name_used _ _ _ _ hsw]
  refine wpAny_bind (wpAny_standAt (wpAny_bind ?_))
  show wpAny _ X.A (do let _ ← comprehension (.ListComp elt [⟨tg, iter, ifs, 0⟩] sc pos) sc X.env _ (newList []) false (eval iter X.env) (some (assign (.Name y py) X.env))) _ _ s
  refine wpAny_bind (wpAny_mono (wpAny_comprehension_free (use := some (assign (.Name y py) X.env)) (Q := fun _ s' => SP X pins D' .next s') rfl hs (closure_eq fun p hp hf => I.ok.has p.1 (okBlk_free hb hp hf)) hk (fun p hp hl => okBlk_local hb hp hl)
    (thn (hi pins s σ H _ I h) fun v s1 h1 => thn h1 fun itv s2 h2 => ?_)) (fun _ s' hq => wpAny_pure (wpAny_pure hq)) fun _ _ e => e)
  obtain ⟨it, fp, tn, J, H2, e, I2, T, st2, f2, W, w0, turn⟩ := h2
  subst e
  refine comp_core (Q := fun x H1 => gName i x σ H1 D'.nx) (RR := fun acc C => compPost (model X.prog X.w) X.A X.xe (some (assign (.Name y py) X.env)) (fun _ s' => SP X pins D' .next s') acc C) hk hb hj hc hg ht he I2 T st2 f2 w0 turn ?_
  intro D C s' ys H' nD I' hC ⟨m, hm⟩ hCs q
  show wpAny _ X.A (assign (.Name y py) X.env (.ref D)) _ _ _
  refine wpAny_assign_Name (store_ok2 I' hN hi' hx (v := .ref D) rfl (fun s'' I'' ⟨a, hsb, ha⟩ => ?_) hf)
  obtain ⟨f0, f1, f2, f3, f4, f5⟩ := hC
  have hac : a ≠ C := by
    rcases ha with rfl | ha
    · exact Ne.symm f1
    · exact f4 y a ha
  refine ⟨m, hm.sameBut hsb (Ne.symm hac), fun h' hs' => ?_⟩
  exact ⟨_, _, I''.turned (t' := s''.toks) (it := C) (fun b o hb' e => (hs'.2 b hb').trans e) f0 f1 f3 f4 f5, q⟩
end
theorem comp_list {K : PySem.W.Frag} {a : Addr} {xs : List V} {n : Nat} {js : List Nat} {g : TG} {tc : TT} {te : TE} {Q : VK} {σ : St} {H : Hp} (Pv : Nat → List V → Hp → Prop) (hz : xs.length ≤ sizeLine) (h0 : Pv 0 [] H) (hl : ∀ i ys H, i ≤ xs.length → Pv i ys H → SqL K H a xs ∧ ys.length ≤ i)
    (hs : ∀ i x ys H, xs[i]? = some x → Pv i ys H → g x (capt n js σ) H fun σ2 H3 => tc σ2 H3 fun b H4 => if b = true then te σ2 H4 fun v H5 => Pv (i + 1) (ys ++ [v]) H5 else Pv (i + 1) ys H4)
    (hd : ∀ ys H p, Pv xs.length ys H → H p = none → Q (.ref p) (upd H p (.lst ys))) : CompBody (Itl K a) n js g tc te σ H Q := by
  refine ⟨fun i m ys H => m = xs.length - i ∧ i ≤ xs.length ∧ Pv i ys H, ⟨xs.length, by simp, Nat.zero_le _, h0⟩, ?_⟩
  rintro i m ys H ⟨rfl, hi, p⟩
  have q := hl i ys H hi p
  by_cases hlt : i < xs.length
  · refine .inr ⟨⟨xs, xs[i], q.1, by simp [hlt]⟩, by have := q.2; omega, Pv (i + 1), fun ys' H' p' => ⟨xs.length - (i + 1), by omega, rfl, hlt, p'⟩, fun x H' y => ?_⟩
    obtain ⟨e, y⟩ := y
    subst e
    exact hs i x ys _ (y xs q.1) p
  · have e : i = xs.length := by omega
    subst e
    exact .inl ⟨⟨xs, q.1, Nat.le_refl _⟩, fun p' hp => hd ys H p' p hp⟩
theorem comp_tup {K : PySem.W.Frag} {a : Addr} {xs : List V} {n : Nat} {js : List Nat} {g : TG} {tc : TT} {te : TE} {Q : VK} {σ : St} {H : Hp} (Pv : Nat → List V → Hp → Prop) (hz : xs.length ≤ sizeLine) (h0 : Pv 0 [] H) (hl : ∀ i ys H, i ≤ xs.length → Pv i ys H → SqT K H a xs ∧ ys.length ≤ i)
    (hs : ∀ i x ys H, xs[i]? = some x → Pv i ys H → g x (capt n js σ) H fun σ2 H3 => tc σ2 H3 fun b H4 => if b = true then te σ2 H4 fun v H5 => Pv (i + 1) (ys ++ [v]) H5 else Pv (i + 1) ys H4)
    (hd : ∀ ys H p, Pv xs.length ys H → H p = none → Q (.ref p) (upd H p (.lst ys))) : CompBody (Itt K a) n js g tc te σ H Q := by
  refine ⟨fun i m ys H => m = xs.length - i ∧ i ≤ xs.length ∧ Pv i ys H, ⟨xs.length, by simp, Nat.zero_le _, h0⟩, ?_⟩
  rintro i m ys H ⟨rfl, hi, p⟩
  have q := hl i ys H hi p
  by_cases hlt : i < xs.length
  · refine .inr ⟨⟨xs, xs[i], q.1, by simp [hlt]⟩, by have := q.2; omega, Pv (i + 1), fun ys' H' p' => ⟨xs.length - (i + 1), by omega, rfl, hlt, p'⟩, fun x H' y => ?_⟩
    obtain ⟨e, y⟩ := y
    subst e
    exact hs i x ys _ (y xs q.1) p
  · have e : i = xs.length := by omega
    subst e
    exact .inl ⟨⟨xs, q.1, Nat.le_refl _⟩, fun p' hp => hd ys H p' p hp⟩
theorem comp_range {lo : Int} {N n : Nat} {js : List Nat} {g : TG} {tc : TT} {te : TE} {Q : VK} {σ : St} {H : Hp} (Pv : Nat → List V → Hp → Prop) (hz : N ≤ sizeLine) (h0 : Pv 0 [] H) (hl : ∀ i ys H, i ≤ N → Pv i ys H → ys.length ≤ i)
    (hs : ∀ i ys H, i < N → Pv i ys H → g (.int (lo + i)) (capt n js σ) H fun σ2 H3 => tc σ2 H3 fun b H4 => if b = true then te σ2 H4 fun v H5 => Pv (i + 1) (ys ++ [v]) H5 else Pv (i + 1) ys H4)
    (hd : ∀ ys H p, Pv N ys H → H p = none → Q (.ref p) (upd H p (.lst ys))) : CompBody (Itr lo N) n js g tc te σ H Q := by
  refine ⟨fun i m ys H => m = N - i ∧ i ≤ N ∧ Pv i ys H, ⟨N, by simp, Nat.zero_le _, h0⟩, ?_⟩
  rintro i m ys H ⟨rfl, hi, p⟩
  have q := hl i ys H hi p
  by_cases hlt : i < N
  · refine .inr ⟨hlt, by omega, Pv (i + 1), fun ys' H' p' => ⟨N - (i + 1), by omega, rfl, hlt, p'⟩, fun x H' y => ?_⟩
    obtain ⟨e, y⟩ := y
    subst e y
    exact hs i ys _ hlt p
  · have e : i = N := by omega
    subst e
    exact .inl ⟨Nat.le_refl _, fun p' hp => hd ys H p' p hp⟩
end L2
set_option Elab.async false
set_option linter.all false
set_option maxRecDepth 100000
set_option maxHeartbeats 4000000
namespace L2
open PySem PySem.Spec PyProof.Rows
structure Cal (P : Program) (w : World) (K : PySem.W.Frag) (mg : Str → Option Value) (base : Heap) (x : Str) (k : Nat) (ps : List Str) (sp : Sp) : Prop where
  ex : ∃ (f : Addr) (fd : FuncData), mg x = some (.ref f) ∧ PySem.W.keepIn K (.ref f) = true ∧ Binds K fd ps [] ∧ FnOk P w K mg base CX0 k f fd ps sp
structure Dfn (K : PySem.W.Frag) (mg : Str → Option Value) (x : Str) (st : Stmt) (ps : List Str) : Prop where
  ex : ∃ (f : Addr) (fd : FuncData), mg x = some (.ref f) ∧ Fun K x x st f fd ∧ Binds K fd ps []
section
variable {P : Program} {w : World} {K : PySem.W.Frag} {mg : Str → Option Value} {base : Heap}
theorem Dfn.ok {x : Str} {st : Stmt} {N ps : List Str} {k : Nat} {sp : Sp} (D : Dfn K mg x st ps) (S : FnScope N ps (defScope st)) (len : ∀ vs H Q E, sp vs H Q E → vs.length = ps.length)
    (hbody : ∀ (X : Cx) (hX : ∃ f cdv A outer s H E, X = (cxOf CX0 P w K mg base N x (defScope st) f cdv A outer s H E).nox ∧ Room k X.A) (H : Hp) (vs : List V) (Q : VK) (E : XK), sp vs H Q E →
      ∃ t, PSs X (defBody st) t ∧ t { nx := fun _ H' => Q .non H', rt := Q } (start N vs) H) : Cal P w K mg base x (k + 1) ps sp := by
  obtain ⟨f, fd, hm, F, hb⟩ := D.ex
  exact ⟨f, fd, hm, F.kp, hb, F.ok S len fun cdv A outer s H vs Q E hr h => hbody _ ⟨f, cdv, A, outer, s, H, E, rfl, hr⟩ H vs Q E h⟩
end
section
variable {X : Cx}
theorem pe_cal {x : Str} {k j : Nat} {ps : List Str} {sp : Sp} {e : Expr} {es : List Expr} {t : TA} {p pos : Pos} (C : Cal X.prog X.w X.K X.mg X.base x j ps sp) (hr : Room k X.A) (ha : PA X (e :: es) t) (hjk : j ≤ k := by decide) (hg : Gl X x := by rfl) (hdb : (x == ("__debug__" : Str)) = false := by decide)
    (he : starEach (e :: es) X.env = (false, eval e X.env) :: starEach es X.env := by rfl) (hpl : (backTo pos (starEach es X.env)).any (·.1) = false := by rfl) :
    PE X (.Call (.Name x p) (e :: es) [] pos) (tCall sp [] E0 t) := by
  obtain ⟨f, fd, hm, hk, hb, F⟩ := C.ex
  exact pe_call F (hr.mono hjk) hg hm hk hb .nil pass0 ha hdb he hpl
theorem op_fdivL : OpR X (binaryOp .FloorDiv) (rI (fun _ j => 0 < j ∧ j < 2 ^ 64) fun i j => .int (i / j)) := opI fun i j _ _ _ _ _ hc q => by
  have h1 : (0 : Int) < j := hc.1
  have h2 : j < 2 ^ 64 := hc.2
  refine floordiv_int (by omega) (by rw [Int.fdiv_eq_ediv_of_nonneg i (by omega)]; exact q) (.inl (PyProof.noPylong_of_log2 ?_))
  have h0 : j.natAbs ≠ 0 := by omega
  have h64 : j.natAbs < 2 ^ 64 := by omega
  have := (Nat.log2_lt h0).mpr h64
  omega
noncomputable def kindV (H : Hp) : V → String → Prop
  | .non, n => n = "NoneType"
  | .bl _, n => n = "bool"
  | .int _, n => n = "int"
  | .str _, n => n = "str"
  | .ref a, n => (n = "list" ∧ ∃ xs, H a = some (.lst xs)) ∨ (n = "tuple" ∧ ∃ xs, H a = some (.tup xs))
  | _, _ => False
theorem kindV.ty {K : PySem.W.Frag} {H : Hp} {x : V} {n : String} (h : kindV H x n) : TyOf K H x (.type n) := by
  cases x with
  | non => cases (show n = "NoneType" from h); exact .non
  | bl b => cases (show n = "bool" from h); exact .bl b
  | int i => cases (show n = "int" from h); exact .int i
  | str z => cases (show n = "str" from h); exact .str z
  | ref a =>
    rcases h with ⟨rfl, xs, e⟩ | ⟨rfl, xs, e⟩
    · exact .lst e
    · exact .tup e
  | _ => exact False.elim h
noncomputable def isiR (a b c d e : Bool) : String → Option Bool
  | "tuple" => some a | "int" => some b | "bool" => some c | "list" => some d | "str" => some e | _ => none
noncomputable def isiB : String → String → Option Bool
  | "NoneType" => isiR false false false false false
  | "bool" => isiR false true true false false
  | "int" => isiR false true false false false
  | "str" => isiR false false false false true
  | "list" => isiR false false false true false
  | "tuple" => isiR true false false false false
  | _ => fun _ => none
theorem isiB_kit {K : PySem.W.Frag} {n T : String} {b : Bool} (h : isiB n T = some b) : PySem.W.kitOne K (.type n) (.type T) = some b := by
  unfold isiB at h
  split at h <;> first
    | (unfold isiR at h; split at h <;> first | (cases h; kernel_rfl) | cases h)
    | cases h
noncomputable def rIsi : List V → Hp → VK → Prop := fun xs H Q => ∃ x n T b, xs = [x, .ty T] ∧ kindV H x n ∧ isiB n T = some b ∧ Q (.bl b) H
theorem call_isi : CallR X (.builtin "isinstance") rIsi := by
  intro pins s σ H xs us Q I r h
  obtain ⟨x, n, T, b, rfl, hk, hb, q⟩ := h
  obtain ⟨u, w', rfl, r1, r2⟩ := vals2 r
  cases (show w' = Value.type T from r2)
  exact isinst_ok I r1 hk.ty (isiB_kit hb) fun tk => ⟨.bl b, H, I.tok tk, rfl, q⟩
noncomputable def rLen (K : PySem.W.Frag) : List V → Hp → VK → Prop := fun xs H Q => ∃ p ys, xs = [.ref p] ∧ (SqL K H p ys ∨ SqT K H p ys) ∧ Q (.int ys.length) H
theorem call_lenN : CallR X (.builtin "len") (rLen X.K) := call_len_seq
noncomputable def rTupOf (K : PySem.W.Frag) : List V → Hp → VK → Prop := fun xs H Q => ∃ p ys, xs = [.ref p] ∧ ((SqL K H p ys ∧ ∀ l, H l = none → Q (.ref l) (upd H l (.tup ys))) ∨ (SqT K H p ys ∧ Q (.ref p) H))
theorem call_tupN : CallR X (.type "tuple") (rTupOf X.K) := call_tuple_of
noncomputable def rInt1 : List V → Hp → VK → Prop := fun xs H Q => (∃ i, xs = [.int i] ∧ Q (.int i) H) ∨ ∃ k, xs = [.bl k] ∧ Q (.int (if k then 1 else 0)) H
theorem call_intN : CallR X (.type "int") rInt1 := call_int1
noncomputable def rMax2 : List V → Hp → VK → Prop := fun xs H Q => ∃ i j, xs = [.int i, .int j] ∧ Q (.int (if j > i then j else i)) H
theorem call_max2N (hc : X.calm = true) : CallR X (.builtin "max") rMax2 := call_max2 hc
noncomputable def rMin2 : List V → Hp → VK → Prop := fun xs H Q => ∃ i j, xs = [.int i, .int j] ∧ Q (.int (if j < i then j else i)) H
theorem call_min2N (hc : X.calm = true) : CallR X (.builtin "min") rMin2 := call_min2 hc
end
end L2
set_option Elab.async false
set_option linter.all false
set_option maxRecDepth 100000
set_option maxHeartbeats 4000000
namespace L2
open PySem PySem.Spec PyProof.Rows
noncomputable def Ext (H H' : Hp) : Prop := ∀ b o, H b = some o → H' b = some o
theorem Ext.rfl' (H : Hp) : Ext H H := fun _ _ h => h
theorem Ext.trans {H H1 H2 : Hp} (a : Ext H H1) (b : Ext H1 H2) : Ext H H2 := fun x o h => b x o (a x o h)
theorem Ext.none {H H' : Hp} (e : Ext H H') {l : Addr} (h : H' l = Option.none) : H l = Option.none := by
  cases q : H l with
  | none => rfl
  | some o => rw [e l o q] at h; cases h
section
variable {X : Cx} (K : PySem.W.Frag)
theorem ix_listK (h : X.K = K := by rfl) : IxR X (rIxL K) := by subst h; exact ix_list
theorem ix_tupK (h : X.K = K := by rfl) : IxR X (rIxT K) := by subst h; exact ix_tup
theorem call_lenK (h : X.K = K := by rfl) : CallR X (.builtin "len") (rLen K) := by subst h; exact call_lenN
theorem call_tupK (h : X.K = K := by rfl) : CallR X (.type "tuple") (rTupOf K) := by subst h; exact call_tupN
theorem pi_listK {tg l : Expr} {tl : TE} (hl : PE X l tl) (h : X.K = K := by rfl) : PI X tg l (iList K tl) := by subst h; exact pi_list hl
theorem pi_tupK {tg l : Expr} {tl : TE} (hl : PE X l tl) (h : X.K = K := by rfl) : PI X tg l (iTup K tl) := by subst h; exact pi_tup hl
theorem pg_tupK {es : List Expr} {k : Nat} {t : TGs} {n : Nat} {pos : Pos} (hc : X.calm = true) (hg : PGs X es t) (h : X.K = K := by rfl)
    (hn : (assignEach es X.env).length = n := by rfl) (hst : (assignEach es X.env).findIdx? (·.1) = none := by rfl) : PG X (.Tuple es k pos) (gTup K n t) := by subst h; exact pg_tup hc hg hn hst
theorem pe_bmK {o e : Expr} {es : List Expr} {to : TE} {t : TA} {name : Str} {apos cpos : Pos} {T id : String} {r : V → List V → Hp → VK → Prop} (pa : PlainAttrs T) (slot : Slot T name id) (hty : typeOf (.builtin id) = pure (.type "method_descriptor")) (hm : MtR X id r) (ho : PE X o to) (ha : PA X (e :: es) t) (h : X.K = K := by rfl)
    (hbase : attributeBase o name X.env (eval o X.env) = eval o X.env := by rfl)
    (hfew : ((backTo cpos (starEach (e :: es) X.env)).all (fun x => !x.1) && (backToKw cpos (keywordEach [] X.env)).all (fun x => x.1.isSome)
      && decide ((e :: es).length + ([] : List Keyword).length + (if ([] : List Keyword).isEmpty then 0 else 1) < 30)) = true := by rfl)
    (hline : (apos.endLine == cpos.line) = true := by rfl) (hs : starEach (e :: es) X.env = (false, eval e X.env) :: starEach es X.env := by rfl) (hplain : (backTo cpos (starEach es X.env)).any (·.1) = false := by rfl) :
    PE X (.Call (.Attribute o name apos) (e :: es) [] cpos) (tBM K T r to t) := by subst h; exact pe_bm pa slot hty hm ho ha hbase hfew hline hs hplain
end
noncomputable def tInts (ns : List Int) : TA := fun _ H Q => Q (ns.map V.int) H
inductive IntsE : List Expr → List Int → Prop
  | n : IntsE [] []
  | c {i j pos es ns} : IntsE es ns → IntsE (.Constant (.int i) j pos :: es) (i :: ns)
theorem pa_ints {X : Cx} {es : List Expr} {ns : List Int} (h : IntsE es ns) : PA X es (tInts ns) := by
  induction h with
  | n => exact pa_nil
  | @c i j pos es ns _ ih =>
    intro p pins s σ H Q I hq
    exact pa_cons (e := .Constant (.int i) j pos) pe_int ih rfl p pins s σ H Q I hq
theorem rd_ints {σ : St} {H : Hp} {ns : List Int} {R : List V → Hp → Prop} (h : R (ns.map V.int) H) : tInts ns σ H R := h
noncomputable def tIfJ (c : TT) (t u : TS) : TS := fun D σ H => ∃ R : St → Hp → Prop, (c σ H fun b H1 => if b = true then t { D with nx := R } σ H1 else u { D with nx := R } σ H1) ∧ ∀ σ' H', R σ' H' → D.nx σ' H'
theorem ps_ifJ {X : Cx} {c : Expr} {a b : List Stmt} {tc : TT} {t u : TS} {pos : Pos} (hc : PT X c tc) (ha : PSs X a t) (hb : PSs X b u) : PS X (.If c a b pos) (tIfJ tc t u) := by
  intro pins s σ H D I h
  obtain ⟨R, h, hR⟩ := h
  refine thn (ps_if hc ha hb pins s σ H { D with nx := R } I h) fun f s1 q => ?_
  cases f with
  | next =>
    obtain ⟨σ', H', I', q⟩ := q
    exact ⟨σ', H', I', hR σ' H' q⟩
  | ret v => exact q
  | brk => exact q
  | cont => exact q
noncomputable def rItL (K : PySem.W.Frag) : V → Hp → (It → Hp → Prop) → Prop := fun x H R => ∃ a, x = .ref a ∧ (∃ xs, SqL K H a xs) ∧ R (Itl K a) H
noncomputable def rItT (K : PySem.W.Frag) : V → Hp → (It → Hp → Prop) → Prop := fun x H R => ∃ a, x = .ref a ∧ (∃ xs, SqT K H a xs) ∧ R (Itt K a) H
noncomputable def rIt1 : List V → Hp → (It → Hp → Prop) → Prop := fun vs H R => ∃ j : Int, vs = [.int j] ∧ -(2 ^ 62) ≤ j ∧ j < 2 ^ 62 ∧ R (Itr 0 j.toNat) H
noncomputable def ForBody (J : It) (g : TG) (tb : TS) (D : Ends) (σ : St) (H : Hp) : Prop := ∃ W : Nat → Nat → St → Hp → Prop, (∃ m, W 0 m σ H) ∧ ∀ i m σ H, W i m σ H →
  (J.stop i H ∧ D.nx σ H) ∨ (J.go i H ∧ ∃ N : St → Hp → Prop, (∀ σ' H', N σ' H' → ∃ m', m' < m ∧ W (i + 1) m' σ' H') ∧ ∀ x H', J.yld i H x H' → g x σ H' fun σ2 H2 => tb { D with nx := N, ct := N, bk := D.nx } σ2 H2)
theorem forL {K : PySem.W.Frag} {a : Addr} {xs : List V} {g : TG} {tb : TS} {D : Ends} {σ : St} {H : Hp} (Pv : Nat → St → Hp → Prop) (h0 : Pv 0 σ H) (hl : ∀ i σ H, i ≤ xs.length → Pv i σ H → SqL K H a xs)
    (hs : ∀ i x σ H, xs[i]? = some x → Pv i σ H → g x σ H fun σ2 H2 => tb ⟨Pv (i + 1), D.rt, D.nx, Pv (i + 1)⟩ σ2 H2) (hd : ∀ σ H, Pv xs.length σ H → D.nx σ H) : ForBody (Itl K a) g tb D σ H := for_list Pv h0 hl hs hd
theorem forR {lo : Int} {n : Nat} {g : TG} {tb : TS} {D : Ends} {σ : St} {H : Hp} (Pv : Nat → St → Hp → Prop) (h0 : Pv 0 σ H)
    (hs : ∀ i σ H, i < n → Pv i σ H → g (.int (lo + i)) σ H fun σ2 H2 => tb ⟨Pv (i + 1), D.rt, D.nx, Pv (i + 1)⟩ σ2 H2) (hd : ∀ σ H, Pv n σ H → D.nx σ H) : ForBody (Itr lo n) g tb D σ H := for_range Pv h0 hs hd
noncomputable def New (H : Hp) (o : HO) (R : VK) : Prop := ∀ p, H p = none → R (.ref p) (upd H p o)
section
variable {K : PySem.W.Frag} {D : Ends} {σ : St} {H : Hp} {Q : VK} {ta tb tc te : TE} {t u : TS} {c c' : TT}
theorem rd_seq (h : t ⟨u D, D.rt, D.bk, D.ct⟩ σ H) : tSeq t u D σ H := h
theorem rd_next (h : D.nx σ H) : tNext D σ H := h
theorem rd_ret (h : te σ H D.rt) : tRet te D σ H := h
theorem rd_asg {g : TG} (h : te σ H fun x H1 => g x σ H1 D.nx) : tAsg te g D σ H := h
theorem rd_drop (h : te σ H fun _ H1 => D.nx σ H1) : tDrop te D σ H := h
theorem rd_ifS (h : c σ H fun b H1 => if b = true then t D σ H1 else u D σ H1) : tIfS c t u D σ H := h
theorem rd_ifJ (R : St → Hp → Prop) (h : c σ H fun b H1 => if b = true then t ⟨R, D.rt, D.bk, D.ct⟩ σ H1 else u ⟨R, D.rt, D.bk, D.ct⟩ σ H1) (k : ∀ σ' H', R σ' H' → D.nx σ' H') : tIfJ c t u D σ H := ⟨R, h, k⟩
theorem rd_ifN (h : c σ H fun b H1 => if b = true then t D σ H1 else u D σ H1) : tIfJ c t u D σ H := ⟨D.nx, h, fun _ _ h => h⟩
theorem rd_name {i : Nat} {v : V} {R : St → Hp → Prop} (h : R (σ.set i (some v)) H) : gName i v σ H R := h
theorem rd_var {i : Nat} {v : V} (e : σ[i]? = some (some v)) (h : Q v H) : tVar i σ H Q := ⟨v, e, h⟩
theorem rd_c {v : V} (h : Q v H) : tC v σ H Q := h
theorem rd_op {r : R2} (h : ta σ H fun x H1 => tb σ H1 fun y H2 => r x y H2 Q) : tOp r ta tb σ H Q := h
theorem rd_un {r : V → Hp → VK → Prop} (h : ta σ H fun x H1 => r x H1 Q) : tUn r ta σ H Q := h
theorem rd_CB {r : List V → Hp → VK → Prop} {a : TA} (h : a σ H fun vs H1 => r vs H1 Q) : tCB r a σ H Q := h
theorem rd_cons {a : TA} {R : List V → Hp → Prop} (h : ta σ H fun x H1 => a σ H1 fun xs H2 => R (x :: xs) H2) : tCons ta a σ H R := h
theorem rd_nil {R : List V → Hp → Prop} (h : R [] H) : tNil σ H R := h
theorem rd_test {R : Bool → Hp → Prop} (h : te σ H fun x H' => ∃ k, x = .bl k ∧ R k H') : tTest te σ H R := h
theorem rd_B {R : Bool → Hp → Prop} (h : te σ H fun x H' => ∃ k, x = .bl k ∧ R k H') : tB te σ H R := h
theorem rd_exb {b : Bool} {R : Bool → Prop} (h : R b) : ∃ k, V.bl b = V.bl k ∧ R k := ⟨b, rfl, h⟩
theorem rd_not {R : Bool → Hp → Prop} (h : c σ H fun b H1 => R (!b) H1) : tNot c σ H R := h
theorem rd_and {R : Bool → Hp → Prop} (h : c σ H fun b H1 => if b = true then c' σ H1 R else R false H1) : tAnd c c' σ H R := h
theorem rd_or {R : Bool → Hp → Prop} (h : c σ H fun b H1 => if b = true then R true H1 else c' σ H1 R) : tOr c c' σ H R := h
theorem rd_andV (h : ta σ H fun x H1 => ∃ k, x = .bl k ∧ if k = true then tb σ H1 Q else Q (.bl false) H1) : tAndV ta tb σ H Q := h
theorem rd_orV (h : ta σ H fun x H1 => ∃ k, x = .bl k ∧ if k = true then Q (.bl true) H1 else tb σ H1 Q) : tOrV ta tb σ H Q := h
theorem rd_notV (h : ta σ H fun x H1 => ∃ k, x = .bl k ∧ Q (.bl (!k)) H1) : tNotV ta σ H Q := h
theorem rd_yes {R : Bool → Hp → Prop} (h : R true H) : tYes σ H R := h
theorem rd_I0 {g : Int → Int → V} {i j : Int} (h : Q (g i j) H) : rI0 g (.int i) (.int j) H Q := ⟨i, j, rfl, rfl, h⟩
theorem rd_I {C : Int → Int → Prop} {g : Int → Int → V} {i j : Int} (hc : C i j) (h : Q (g i j) H) : rI C g (.int i) (.int j) H Q := ⟨i, j, rfl, rfl, hc, h⟩
theorem rd_U {g : Int → V} {i : Int} (h : Q (g i) H) : rU g (.int i) H Q := ⟨i, rfl, h⟩
theorem rd_EqI {i j : Int} (h : Q (.bl (decide (i = j))) H) : rEq (.int i) (.int j) H Q := ⟨rfl, by
  have e : decide (V.int i = V.int j) = decide (i = j) := by rw [Bool.eq_iff_iff]; simp
  rw [e]; exact h⟩
theorem rd_NeI {i j : Int} (h : Q (.bl (!decide (i = j))) H) : rNe (.int i) (.int j) H Q := ⟨rfl, by
  have e : decide (V.int i = V.int j) = decide (i = j) := by rw [Bool.eq_iff_iff]; simp
  rw [e]; exact h⟩
theorem rd_ixL {p : Addr} {xs : List V} {i : Int} {v : V} (e : SqL K H p xs) (a : atI xs i = some v) (h : Q v H) : rIxL K (.ref p) (.int i) H Q := ⟨p, xs, i, v, rfl, rfl, e, a, h⟩
theorem rd_ixT {p : Addr} {xs : List V} {i : Int} {v : V} (e : SqT K H p xs) (a : atI xs i = some v) (h : Q v H) : rIxT K (.ref p) (.int i) H Q := ⟨p, xs, i, v, rfl, rfl, e, a, h⟩
theorem rd_lenL {p : Addr} {xs : List V} (e : SqL K H p xs) (h : Q (.int xs.length) H) : rLen K [.ref p] H Q := ⟨p, xs, rfl, .inl e, h⟩
theorem rd_lenT {p : Addr} {xs : List V} (e : SqT K H p xs) (h : Q (.int xs.length) H) : rLen K [.ref p] H Q := ⟨p, xs, rfl, .inr e, h⟩
theorem rd_tupL {p : Addr} {xs : List V} (e : SqL K H p xs) (h : New H (.tup xs) Q) : rTupOf K [.ref p] H Q := ⟨p, xs, rfl, .inl ⟨e, h⟩⟩
theorem rd_isi {x : V} {n T : String} {b : Bool} (hk : kindV H x n) (hb : isiB n T = some b) (h : Q (.bl b) H) : rIsi [x, .ty T] H Q := ⟨x, n, T, b, rfl, hk, hb, h⟩
theorem rd_intB {k : Bool} (h : Q (.int (if k then 1 else 0)) H) : rInt1 [.bl k] H Q := .inr ⟨k, rfl, h⟩
theorem rd_max2 {i j : Int} (h : Q (.int (if j > i then j else i)) H) : rMax2 [.int i, .int j] H Q := ⟨i, j, rfl, h⟩
theorem rd_min2 {i j : Int} (h : Q (.int (if j < i then j else i)) H) : rMin2 [.int i, .int j] H Q := ⟨i, j, rfl, h⟩
theorem rd_call {sp : Sp} {a : TA} {E : XK} (h : a σ H fun vs H1 => sp (vs ++ []) H1 Q E) : tCall sp [] E a σ H Q := h
theorem rd_BM {T : String} {r : V → List V → Hp → VK → Prop} {a : TA} (h : te σ H fun x H1 => tyV K T x H1 ∧ a σ H1 fun xs H2 => r x xs H2 Q) : tBM K T r te a σ H Q := h
theorem rd_tup {a : TA} (h : a σ H fun xs H1 => xs.length ≤ sizeLine ∧ New H1 (.tup xs) Q) : tTup a σ H Q := h
theorem rd_lst {a : TA} (h : a σ H fun xs H1 => xs.length ≤ sizeLine ∧ New H1 (.lst xs) Q) : tLst a σ H Q := h
theorem rd_sl {r : V → Option Int → Option Int → Hp → VK → Prop} {tl th : TO} (h : te σ H fun x H1 => tl σ H1 fun l H2 => th σ H2 fun v H3 => r x l v H3 Q) : tSl r te tl th σ H Q := h
theorem rd_noPart {R : Option Int → Hp → Prop} (h : R none H) : tNoPart σ H R := h
theorem rd_part {R : Option Int → Hp → Prop} (h : te σ H fun x H1 => ∃ i, x = .int i ∧ R (some i) H1) : tPart te σ H R := h
theorem rd_exi {i : Int} {R : Int → Prop} (h : R i) : ∃ k, V.int i = V.int k ∧ R k := ⟨i, rfl, h⟩
theorem rd_chain {r r' : R2} (h : ta σ H fun x H1 => tb σ H1 fun y H2 => r x y H2 fun z H3 => ∃ k, z = .bl k ∧ (if k = true then tc σ H3 fun w' H4 => r' y w' H4 Q else Q (.bl false) H3)) : tChain r r' ta tb tc σ H Q := h
theorem rd_comp {n : Nat} {js : List Nat} {wi : TI} {g : TG} (h : wi σ H fun J H1 => CompBody J n js g c te σ H1 Q) : tComp n js wi g c te σ H Q := h
theorem rd_iL {R : It → Hp → Prop} (h : te σ H fun x H1 => rItL K x H1 R) : iList K te σ H R := h
theorem rd_iT {R : It → Hp → Prop} (h : te σ H fun x H1 => rItT K x H1 R) : iTup K te σ H R := h
theorem rd_iLx {p : Addr} {xs : List V} {R : It → Hp → Prop} (e : SqL K H p xs) (h : R (Itl K p) H) : rItL K (.ref p) H R := ⟨p, rfl, ⟨xs, e⟩, h⟩
theorem rd_iTx {p : Addr} {xs : List V} {R : It → Hp → Prop} (e : SqT K H p xs) (h : R (Itt K p) H) : rItT K (.ref p) H R := ⟨p, rfl, ⟨xs, e⟩, h⟩
theorem rd_i1 {a : TA} {R : It → Hp → Prop} (h : a σ H fun vs H1 => rIt1 vs H1 R) : iRng1 a σ H R := h
theorem rd_i1x {j : Int} {R : It → Hp → Prop} (h1 : -(2 ^ 62) ≤ j ∧ j < 2 ^ 62) (h : R (Itr 0 j.toNat) H) : rIt1 [.int j] H R := ⟨j, rfl, h1.1, h1.2, h⟩
theorem rd_for {wi : TI} {g : TG} (h : wi σ H fun J H1 => ForBody J g t D σ H1) : tFor wi g t D σ H := h
theorem rd_append {l : Addr} {xs : List V} {y : V} (e : H l = some (.lst xs)) (hz : xs.length < sizeLine) (h : Q .non (upd H l (.lst (xs ++ [y])))) : rAppend (.ref l) [y] H Q := ⟨l, xs, y, rfl, rfl, e, hz, h⟩
theorem rd_tyL {p : Addr} {xs : List V} (e : SqL K H p xs) : tyV K "list" (.ref p) H := .inl ⟨rfl, xs, e⟩
theorem rd_gtup {n : Nat} {g : TGs} {a : Addr} {xs : List V} {R : St → Hp → Prop} (e : SqT K H a xs) (hl : xs.length = n) (h : g xs σ H R) : gTup K n g (.ref a) σ H R := ⟨a, xs, rfl, e, hl, h⟩
theorem rd_gcons {g : TG} {gs : TGs} {v : V} {r : List V} {R : St → Hp → Prop} (h : g v σ H fun σ' H' => gs r σ' H' R) : gCons g gs (v :: r) σ H R := ⟨v, r, rfl, h⟩
theorem rd_gnil {R : St → Hp → Prop} (h : R σ H) : gNil [] σ H R := ⟨rfl, h⟩
theorem rd_cat {l b : Addr} {xs zs : List V} (e1 : H l = some (.lst xs)) (e2 : H b = some (.lst zs)) (hz : xs.length + zs.length ≤ sizeLine) (h : New H (.lst (xs ++ zs)) Q) : rCat (.ref l) (.ref b) H Q := ⟨l, b, xs, zs, rfl, rfl, e1, e2, hz, h⟩
theorem rd_new {o : HO} {R : VK} (h : ∀ p H', Ext H H' → H' p = some o → H p = none → R (.ref p) H') : New H o R := fun p hp =>
  h p _ (fun b u e => by rw [upd_ne (ne_of_none e hp)]; exact e) upd_same hp
theorem ext_upd {p : Addr} {o : HO} (hp : H p = none) : Ext H (upd H p o) := fun b u e => by rw [upd_ne (ne_of_none e hp)]; exact e
theorem SqL.ext {H' : Hp} {p : Addr} {xs : List V} (e : Ext H H') (h : SqL K H p xs) : SqL K H' p xs := by
  rcases h with (h | ⟨o, h⟩) | h
  · exact .inl (.inl (e _ _ h))
  · exact .inl (.inr ⟨o, e _ _ h⟩)
  · exact .inr h
end
theorem atI_of {α : Type} {xs : List α} {i : Int} {v : α} (h0 : 0 ≤ i) (h : xs[i.toNat]? = some v) : atI xs i = some v := by
  have := atI_nat h
  rwa [Int.toNat_of_nonneg h0] at this
end L2
set_option Elab.async false
set_option linter.all false
set_option maxRecDepth 100000
set_option maxHeartbeats 4000000
namespace L2
open PySem PySem.Spec PyProof.Rows
noncomputable def flatD : V → PyData → Prop
  | .non, .none => True
  | .bl b, .bool c => b = c
  | .int i, .int j => i = j
  | .str x, .str y => x = y ∧ (PyData.str y).canLay0 = true
  | _, _ => False
noncomputable def RepD (H : Hp) : Nat → V → PyData → Prop
  | 0, x, d => flatD x d
  | n + 1, x, d => flatD x d ∨ ∃ a xs ds, x = .ref a ∧ ((H a = some (.tup xs) ∧ d = .tuple ds) ∨ (H a = some (.lst xs) ∧ d = .list ds)) ∧ Paired (RepD H n) xs ds
section
variable {X : Cx} {pins : List (Addr × Obj)} {σ : St} {H : Hp} {s : Shared}
theorem flatD.reads {x : V} {d : PyData} {u : Value} (h : flatD x d) (r : RelV x u) : ∃ as, Reads s.heap u d as := by
  cases x with
  | non => cases d <;> first | exact False.elim h | (cases r; exact ⟨_, .none⟩)
  | bl b => cases d <;> first | exact False.elim h | (cases (show b = _ from h); cases r; exact ⟨_, .bool _⟩)
  | int i => cases d <;> first | exact False.elim h | (cases (show i = _ from h); obtain ⟨t, rfl⟩ := r; exact ⟨_, .int _ t⟩)
  | str z => cases d <;> first | exact False.elim h | (cases (show z = _ ∧ _ from h).1; obtain ⟨t, rfl⟩ := r; exact ⟨_, .str _ t⟩)
  | _ => cases d <;> exact False.elim h
theorem flatD.lay {x : V} {d : PyData} (h : flatD x d) : d.canLay0 = true ∧ d.depth = 0 := by
  cases x <;> cases d <;> first | exact False.elim h | exact ⟨rfl, rfl⟩ | exact ⟨h.2, rfl⟩
theorem reads_all {R : V → PyData → Prop} (ih : ∀ {x : V} {d : PyData} {u : Value}, R x d → RelV x u → ∃ as, Reads s.heap u d as) : ∀ {xs : List V} {ds : List PyData} {us : List Value}, Paired R xs ds → Vals xs us → ∃ as, ReadsAll s.heap us ds as := by
  intro xs ds us h
  induction h generalizing us with
  | nil => intro q; cases q; exact ⟨_, .nil⟩
  | cons h t ih2 =>
    intro q
    cases q with
    | cons r rt =>
      obtain ⟨as, ha⟩ := ih h r
      obtain ⟨bs, hb⟩ := ih2 rt
      exact ⟨_, .cons ha hb⟩
theorem RepD.reads (I : Inv X pins σ H s) : ∀ (n : Nat) {x : V} {d : PyData} {u : Value}, RepD H n x d → RelV x u → ∃ as, Reads s.heap u d as
  | 0, _, _, _, h, r => flatD.reads h r
  | n + 1, x, d, u, h, r => by
    rcases h with h | ⟨a, xs, ds, rfl, hh, hp⟩
    · exact flatD.reads h r
    · cases r
      rcases hh with ⟨e, rfl⟩ | ⟨e, rfl⟩
      · obtain ⟨its, rv, ⟨o, ho, hc, k, hd⟩, _⟩ := I.tuple (SqT.of e)
        obtain ⟨as, ha⟩ := reads_all (fun {x d u} => RepD.reads I n) hp rv
        exact ⟨_, .tuple ho hc hd (by simpa using ha)⟩
      · obtain ⟨its, k, rv, ho, _⟩ := I.lst e
        obtain ⟨as, ha⟩ := reads_all (fun {x d u} => RepD.reads I n) hp rv
        exact ⟨_, .list ho rfl rfl (by simpa using ha)⟩
theorem lay_all {R : V → PyData → Prop} {m : Nat} (ih : ∀ {x : V} {d : PyData}, R x d → d.canLay0 = true ∧ d.depth ≤ m) : ∀ {xs : List V} {ds : List PyData}, Paired R xs ds → PyData.canLayAll0 ds = true ∧ PyData.depthAll ds ≤ m
  | _, _, .nil => ⟨rfl, Nat.zero_le _⟩
  | _, _, .cons h t => by
    obtain ⟨h1, h2⟩ := ih h
    obtain ⟨h3, h4⟩ := lay_all ih t
    refine ⟨?_, ?_⟩
    · simp only [PyData.canLayAll0, h1, h3, Bool.and_self]
    · simp only [PyData.depthAll]
      exact Nat.max_le.mpr ⟨h2, h4⟩
theorem RepD.lay : ∀ (n : Nat) {x : V} {d : PyData}, RepD H n x d → d.canLay0 = true ∧ d.depth ≤ n
  | 0, _, _, h => ⟨(flatD.lay h).1, Nat.le_of_eq (flatD.lay h).2⟩
  | n + 1, x, d, h => by
    rcases h with h | ⟨a, xs, ds, rfl, hh, hp⟩
    · exact ⟨(flatD.lay h).1, by rw [(flatD.lay h).2]; exact Nat.zero_le _⟩
    · obtain ⟨h1, h2⟩ := lay_all (fun {x d} => RepD.lay n) hp
      rcases hh with ⟨e, rfl⟩ | ⟨e, rfl⟩
      · exact ⟨h1, Nat.succ_le_succ h2⟩
      · exact ⟨h1, Nat.succ_le_succ h2⟩
noncomputable def rEqD (neg : Bool) : R2 := fun x y H Q => ∃ n m d e, RepD H n x d ∧ RepD H m y e ∧ n ≤ 50 ∧ Q (.bl (if neg then !PyData.eqv d e else PyData.eqv d e)) H
theorem op_eqD {k : Nat} (hr : Room k X.A) : OpR X (compareOp .Eq) (rEqD false) := by
  intro pins s σ H x y v u Q I rx ry h
  obtain ⟨n, m, d, e, h1, h2, hn, q⟩ := h
  obtain ⟨as, ra⟩ := RepD.reads I n h1 rx
  obtain ⟨bs, rb⟩ := RepD.reads I m h2 ry
  have l1 := RepD.lay n h1
  have l2 := RepD.lay m h2
  have hu := hr.units
  have hm : min d.depth e.depth ≤ 50 := Nat.le_trans (Nat.min_le_left _ _) (Nat.le_trans l1.2 hn)
  exact SeqAt.compareEq_reads ra rb l1.1 l2.1 (by omega) ⟨.bl _, H, I, rfl, q⟩
end
end L2
set_option Elab.async false
set_option linter.all false
set_option maxRecDepth 100000
set_option maxHeartbeats 4000000
namespace L2
open PySem PySem.Spec PyProof.Rows
noncomputable def rAllL (K : PySem.W.Frag) : List V → Hp → VK → Prop := fun xs H Q => ∃ (p : Addr) (bs : List Bool), xs = [.ref p] ∧ SqL K H p (bs.map V.bl) ∧ Q (.bl (bs.all id)) H
theorem vals_bools : ∀ {bs : List Bool} {us : List Value}, Vals (bs.map V.bl) us → us = bs.map Value.bool
  | [], _, r => by cases r; rfl
  | b :: bs, _, r => by
    cases r with
    | cons r t => cases r; rw [vals_bools t]; rfl
theorem all_range (bs : List Bool) : ((List.range bs.length).all fun i => bs.getD i false) = bs.all id := by
  rw [Bool.eq_iff_iff, List.all_eq_true, List.all_eq_true]
  constructor
  · intro h b hb
    obtain ⟨i, hi, e⟩ := List.mem_iff_getElem.mp hb
    have := h i (List.mem_range.mpr hi)
    rw [List.getD_eq_getElem?_getD, List.getElem?_eq_getElem hi] at this
    rw [← e]
    exact this
  · intro h i hi
    have hi' := List.mem_range.mp hi
    rw [List.getD_eq_getElem?_getD, List.getElem?_eq_getElem hi']
    exact h _ (List.getElem_mem hi')
theorem call_allL {X : Cx} (K : PySem.W.Frag) (hc : X.calm = true) (hK : X.K = K := by rfl) : CallR X (.builtin "all") (rAllL K) := by
  subst hK
  intro pins s σ H xs us Q I r h
  obtain ⟨p, bs, rfl, hq, q⟩ := h
  obtain ⟨u, rfl, rx⟩ := vals1 r
  cases rx
  obtain ⟨its, rv, pl, hz⟩ := I.list hq
  have eb := vals_bools rv
  have hne : p ≠ s.heap.objs.size := Nat.ne_of_lt (by obtain ⟨o, n, e, _⟩ := pl; exact Heap.lt_size e)
  refine call_all_walk (wpAny_pyIter_list pl.isList ?_)
  have I1 : Inv X pins σ H { s with heap := s.heap.push { cls := .type "list_iterator", data := .fields #[.ref p, .int 0 0] } } := I.kept (t' := s.toks) fun b o e => Heap.get?_push_of_some _ e
  have hf := I.fpOk (H' := H) (Nat.le_refl s.heap.objs.size) I.fresh
  refine ⟨s.heap.objs.size, _, _, _, _, _, (fun i => bs.getD i false), rfl, Walks.list (A := X.A.in1) (I.ok.hd hc) _ p hne its.toArray, ⟨⟨_, Heap.get?_push_size _ rfl, rfl, rfl⟩, ?_⟩, ?_, fun h' tk hk => ?_⟩
  · exact pl.isList.push _
  · intro i v s' Q' E' hv hQ
    rw [eb] at hv
    have hv' : (bs.map Value.bool)[i]? = some v := by simpa using hv
    rw [List.getElem?_map] at hv'
    cases eg : bs[i]? with
    | none => rw [eg] at hv'; cases hv'
    | some b =>
      rw [eg] at hv'
      cases hv'
      have eb' : bs.getD i false = b := by rw [List.getD_eq_getElem?_getD, eg]; rfl
      have hQ' : Q' (bs.getD i false) s' := hQ
      rw [eb'] at hQ'
      exact wpAny_truthy_bool hQ'
  · obtain ⟨f0, f1, f2, f3, f4, f5⟩ := hf
    have hl := rv.length
    rw [List.length_map] at hl
    refine ⟨.bl (bs.all id), H, I1.turned (it := s.heap.objs.size) (fun b o hb e => hk b o (by simpa using hb) e) f0 f1 f3 f4 f5, ?_, q⟩
    show Value.bool _ = Value.bool _
    rw [List.size_toArray, ← hl, all_range]
end L2
set_option Elab.async false
set_option linter.all false
set_option maxRecDepth 100000
set_option maxHeartbeats 4000000
namespace L2
open PySem PySem.Spec PyProof.Rows
noncomputable def tWhileJ (c : TT) (tb : TS) : TS := fun D σ H => ∃ (W : Nat → St → Hp → Prop) (R : St → Hp → Prop), (∃ m, W m σ H) ∧ (∀ m σ H, W m σ H →
  c σ H fun b H1 => if b = true then ∃ N : St → Hp → Prop, (∀ σ' H', N σ' H' → ∃ m', m' < m ∧ W m' σ' H') ∧ tb ⟨N, D.rt, R, N⟩ σ H1 else R σ H1) ∧ ∀ σ H, R σ H → D.nx σ H
theorem ps_whileJ {X : Cx} {pos : Pos} {c : Expr} {body : List Stmt} {tc : TT} {tb : TS} (hp : PassesOwn (model X.prog X.w) X.A X.env X.xe) (hc : PT X c tc) (hb : PSs X body tb) : PS X (.While c body [] pos) (tWhileJ tc tb) := by
  intro pins s σ H D I h
  obtain ⟨W, R, w0, hs, hR⟩ := h
  refine thn (ps_while hp hc hb pins s σ H { D with nx := R } I ⟨W, w0, hs⟩) fun f s1 q => ?_
  cases f with
  | next =>
    obtain ⟨σ', H', I', q⟩ := q
    exact ⟨σ', H', I', hR σ' H' q⟩
  | ret v => exact q
  | brk => exact q
  | cont => exact q
section
variable {D : Ends} {σ : St} {H : Hp} {Q : VK} {te : TE} {t : TS} {c : TT}
theorem rd_while (W : Nat → St → Hp → Prop) (R : St → Hp → Prop) (m : Nat) (h0 : W m σ H) (hs : ∀ m σ H, W m σ H → c σ H fun b H1 => if b = true then ∃ N : St → Hp → Prop, (∀ σ' H', N σ' H' → ∃ m', m' < m ∧ W m' σ' H') ∧ t ⟨N, D.rt, R, N⟩ σ H1 else R σ H1) (k : ∀ σ H, R σ H → D.nx σ H) : tWhileJ c t D σ H := ⟨W, R, ⟨m, h0⟩, hs, k⟩
theorem rd_aug {i : Nat} {ti : TIp} {x : V} (e : σ[i]? = some (some x)) (h : te σ H fun y H1 => ti x y H1 fun z H2 => D.nx (σ.set i (some z)) H2) : tAug i te ti D σ H := ⟨x, e, h⟩
theorem rd_ipI {f : Int → Int → Int} {i j : Int} (h : Q (.int (f i j)) H) : ipI f (.int i) (.int j) H Q := ⟨i, j, rfl, rfl, h⟩
end
section
variable {prog : Program} {w : World} {A : Around} {E : Value → Shared → Prop} {s : Shared}
theorem next_tup {it t : Addr} {i : Nat} {ys : Array Value} {x : Value} {Q : Value → Shared → Prop} (gi : s.heap.IsTupleIter it t i) (gt : s.heap.IsTuple t ys) (gx : ys[i]? = some x)
    (q : ∀ h', h'.IsTupleIter it t (i + 1) → Heap.SameBut it s.heap h' → Q x { s with heap := h' }) : wpAny (model prog w) A (Builtin.SmallTypes.nextOf (.ref it)) Q E s := by
  obtain ⟨u, gu, gc, gd⟩ := id gi
  obtain ⟨v, gv, _, k, gk⟩ := gt
  unfold Builtin.SmallTypes.nextOf
  refine wpAny_bind (wpAny_callSpecial?_slot (name := Str.ofString "__next__") gi.typeIs F.slot_tuple_iterator_next (wpAny_call_entry F.slot_tuple_iterator_next gi.typeIs F.entry_tuple_iterator_next ?_ (F.args_tuple_iterator_next_1 _)))
  show wpAny _ _ (field (Value.ref it) 0 >>= _) _ _ s
  refine wpAny_bind (wpAny_field gu gd (x := Value.ref t) rfl ?_)
  show wpAny _ _ (if (Value.ref t == Value.none) = true then _ else _) _ _ s
  rw [if_neg (show ¬ (Value.ref t == Value.none) = true from Bool.false_ne_true)]
  show wpAny _ _ (field (Value.ref it) 1 >>= _) _ _ s
  refine wpAny_bind (wpAny_field gu gd (x := Value.int i 0) rfl ?_)
  show wpAny _ _ (seqItems? (Value.ref t) >>= _) _ _ s
  refine wpAny_bind (wpAny_seqItems gv gk ?_)
  simp only [Int.toNat_natCast, gx]
  refine wpAny_bind (wpAny_setField gu gd (by simp) (wpAny_pure ⟨x, rfl, wpAny_pure (q _ ?_ (Heap.SameBut.update ..))⟩))
  exact ⟨_, Heap.get?_update_self _ gu (Obj.isFreed_of_fields (Obj.data_mapFields gd _)), (Obj.cls_mapFields ..).trans gc, by rw [Obj.data_mapFields gd]; simp [rawInt]⟩
theorem stop_tup {it t : Addr} {i : Nat} {ys : Array Value} {Q : Value → Shared → Prop} (hA : A.handled = none) (gi : s.heap.IsTupleIter it t i) (gt : s.heap.IsTuple t ys) (gx : ys[i]? = none)
    (q : ∀ h' e, Heap.ExtBut it s.heap h' → (∃ o, h'.get? e = some o ∧ o.cls = .type "StopIteration") → E (.ref e) { s with heap := h' }) : wpAny (model prog w) A (Builtin.SmallTypes.nextOf (.ref it)) Q E s := by
  obtain ⟨u, gu, gc, gd⟩ := id gi
  obtain ⟨v, gv, _, k, gk⟩ := gt
  unfold Builtin.SmallTypes.nextOf
  refine wpAny_bind (wpAny_callSpecial?_slot (name := Str.ofString "__next__") gi.typeIs F.slot_tuple_iterator_next (wpAny_call_entry F.slot_tuple_iterator_next gi.typeIs F.entry_tuple_iterator_next ?_ (F.args_tuple_iterator_next_1 _)))
  show wpAny _ _ (field (Value.ref it) 0 >>= _) _ _ s
  refine wpAny_bind (wpAny_field gu gd (x := Value.ref t) rfl ?_)
  show wpAny _ _ (if (Value.ref t == Value.none) = true then _ else _) _ _ s
  rw [if_neg (show ¬ (Value.ref t == Value.none) = true from Bool.false_ne_true)]
  show wpAny _ _ (field (Value.ref it) 1 >>= _) _ _ s
  refine wpAny_bind (wpAny_field gu gd (x := Value.int i 0) rfl ?_)
  show wpAny _ _ (seqItems? (Value.ref t) >>= _) _ _ s
  refine wpAny_bind (wpAny_seqItems gv gk ?_)
  simp only [Int.toNat_natCast, gx]
  refine wpAny_bind (wpAny_rule (wpAny_bind (wpAny_setField gu gd (by simp) ?_)))
  show wpAny _ _ (newExc (Value.type "StopIteration") [] >>= _) _ _ _
  refine wpAny_bind ?_
  simp only [newExc, newTuple]
  refine wpAny_bind (wpAny_newObj_type (hd := by size_fits) ?_)
  refine wpAny_bind (m := firstArgMember _ _) (wpAny_of_eq (a := Value.none) (by first | rfl | (unfold firstArgMember; rfl)) ?_)
  refine wpAny_newObj_type (hd := by size_fits) ?_
  simp only [raiseNew]
  refine wpAny_bind (wpAny_handled ?_)
  first | rw [show Around.handled A.in1 = none from hA] | rw [hA]
  refine wpAny_bind (wpAny_pure (wpAny_throw ?_))
  exact q _ _ (((Heap.SameBut.update ..).extBut.push _).push _) ⟨_, Heap.get?_push_size _ rfl, rfl⟩
end
section
variable {X : Cx} {pins : List (Addr × Obj)} {σ : St} {H : Hp} {s : Shared}
theorem Inv.same {it : Addr} {k h' : Heap} (I : Inv X pins σ H { s with heap := k }) (f : FpOk X pins H it) (b : Heap.ExtBut it k h') : Inv X pins σ H { s with heap := h' } := by
  obtain ⟨f0, f1, f2, f3, f4, f5⟩ := f
  exact Inv.turned (s := { s with heap := k }) (t' := s.toks) (it := it) I (fun c o hb e => b c o hb e) f0 f1 f3 f4 f5
end
section
variable {K : PySem.W.Frag} {σ : St} {H : Hp} {Q : VK}
end
theorem tup_whole {prog : Program} {w : World} {A : Around} {E : Value → Shared → Prop} {s : Shared} {t sl : Addr} {ys : Array Value} {vl vu : Value} {lo hi : Option Int} {Q : Value → Shared → Prop} (gt : IsTup s.heap t ys) (gs : s.heap.IsSliceOf sl vl vu .none) (pl : IsPart vl lo) (pu : IsPart vu hi)
    (gw : HT.sIx ys.size 0 lo = 0 ∧ HT.sIx ys.size ys.size hi = ys.size) (q : Q (.ref t) s) : wpAny (model prog w) A (getItem (.ref t) (.ref sl)) Q E s := by
  obtain ⟨u, gu, gc, gd⟩ := id gs
  have gT : s.TypeIs (.ref sl) "slice" := ⟨u, gu, gc⟩
  unfold getItem
  try with_reducible refine wpAny_holding ?_
  first | refine wpAny_bind (wpAny_pure ?_) | skip
  refine wpAny_bind (wpAny_sequenceKey gt.typeIs (by decide) ?_)
  refine wpAny_bind (wpAny_callSpecial?_slot (name := Str.ofString "__getitem__") gt.typeIs PyProof.Rows.slot_tuple_getitem (wpAny_call_entry PyProof.Rows.slot_tuple_getitem gt.typeIs entry_tuple_getitem ?_ (args_tuple_getitem _ _)))
  show wpAny _ _ (Builtin.Tuple.tupleItemsOf (Value.ref t) >>= _) _ _ s
  refine wpAny_bind (tupleItemsOf_ gt ?_)
  refine wpAny_bind (wpAny_typeOf gT ?_)
  rw [if_pos (by decide)]
  refine wpAny_bind (HT.sliceApplied_gen gs pl pu ?_)
  show wpAny _ _ (if (((HT.sIx ys.size 0 lo : Nat) : Int) == 0 && (1 : Int) == 1 && (HT.sIx ys.size ys.size hi - HT.sIx ys.size 0 lo) == ys.size) = true then _ else _) _ _ s
  rw [if_pos (by rw [gw.1, gw.2]; simp)]
  show wpAny _ _ (Builtin.Tuple.tupleIsExact (Value.ref t) >>= _) _ _ s
  unfold Builtin.Tuple.tupleIsExact
  refine wpAny_bind (wpAny_bind (wpAny_typeOf gt.typeIs (wpAny_pure ?_)))
  rw [if_pos (by decide)]
  refine wpAny_bind (wpAny_rule ?_)
  exact wpAny_pure ⟨_, rfl, wpAny_pure q⟩
noncomputable def rSlT1 : V → Option Int → Option Int → Hp → VK → Prop := fun x lo hi H Q => ∃ a xs, x = .ref a ∧ H a = some (.tup xs) ∧ ∀ p H', Ext H H' → H' p = some (.tup (cutV xs lo hi)) → Q (.ref p) H'
theorem sl_tup1 {X : Cx} : SlR X rSlT1 := by
  intro pins s σ H x v vl vu lo hi sl Q I rx hs pl pu h
  obtain ⟨a, xs, rfl, hx, q⟩ := h
  by_cases gw : HT.sIx xs.length 0 lo = 0 ∧ HT.sIx xs.length xs.length hi = xs.length
  · cases rx
    obtain ⟨its, r, ht, hz⟩ := I.tuple (SqT.of hx)
    have hlen : its.toArray.size = xs.length := by rw [List.size_toArray]; exact r.length.symm
    refine ⟨"tuple", _, PyProof.Rows.slot_tuple_getitem.lookup, ht.typeIs, ?_⟩
    refine tup_whole ht hs pl pu (by rw [hlen]; exact gw) ⟨.ref a, H, I, rfl, q a H (Ext.rfl' H) ?_⟩
    have : cutV xs lo hi = xs := by
      unfold cutV
      rw [gw.1, gw.2, List.drop_zero, Nat.sub_zero, List.take_length]
    rw [this]
    exact hx
  · exact sl_tup pins s σ H (.ref a) v vl vu lo hi sl Q I rx hs pl pu ⟨a, xs, rfl, SqT.of hx, gw, fun p hp => q p _ (ext_upd hp) upd_same⟩
theorem rd_slT1 {H : Hp} {Q : VK} {a : Addr} {xs : List V} {lo hi : Option Int} (e : H a = some (.tup xs)) (h : ∀ p H', Ext H H' → H' p = some (.tup (cutV xs lo hi)) → Q (.ref p) H') : rSlT1 (.ref a) lo hi H Q := ⟨a, xs, rfl, e, h⟩
noncomputable def rCatT1 : R2 := fun x y H Q => ∃ a b xs ys, x = .ref a ∧ y = .ref b ∧ H a = some (.tup xs) ∧ H b = some (.tup ys) ∧ xs.length + ys.length ≤ sizeLine ∧ ∀ p H', Ext H H' → H' p = some (.tup (xs ++ ys)) → Q (.ref p) H'
theorem op_catT1 {X : Cx} : OpR X (binaryOp .Add) rCatT1 := by
  intro pins s σ H x y v u Q I rx ry h
  obtain ⟨a, b, xs, ys, rfl, rfl, ha, hb, hz, q⟩ := h
  cases rx
  cases ry
  by_cases hx : xs = []
  · subst hx
    obtain ⟨its, r1, p1, _⟩ := I.tuple (SqT.of ha)
    obtain ⟨its2, r2, p2, _⟩ := I.tuple (SqT.of hb)
    have e := r1.nil_iff.mpr rfl
    subst e
    obtain ⟨⟨cls, dd, data, sl⟩, ho, hc, n, hd⟩ := id p1
    obtain ⟨⟨cls2, dd2, data2, sl2⟩, ho2, hc2, n2, hd2⟩ := id p2
    simp only at hc hd hc2 hd2
    subst hc hd hc2 hd2
    refine concat_meets ⟨_, ho, rfl⟩ ⟨_, ho2, rfl⟩ noFill_tuple_add seq_tuple_add PySem.F.slot_tuple_add PySem.F.entry_tuple_add (PySem.F.args_tuple_add_2 _ _)
      (tuple_addW0 a b _ _ n n2 dd dd2 sl sl2 (by simp)) ⟨ho, ho2, ⟨.ref b, H, I, rfl, q b H (fun _ _ h => h) (by simpa using hb)⟩⟩
  · refine op_catT pins s σ H (.ref a) (.ref b) _ _ Q I rfl rfl ⟨a, b, xs, ys, rfl, rfl, SqT.of ha, SqT.of hb, hx, hz, fun hy => ?_, fun hy p hp => ?_⟩
    · subst hy
      exact q a H (fun _ _ h => h) (by simpa using ha)
    · exact q p _ (ext_upd hp) upd_same
theorem rd_catT1 {H : Hp} {Q : VK} {a b : Addr} {xs ys : List V} (ha : H a = some (.tup xs)) (hb : H b = some (.tup ys)) (hz : xs.length + ys.length ≤ sizeLine) (h : ∀ p H', Ext H H' → H' p = some (.tup (xs ++ ys)) → Q (.ref p) H') : rCatT1 (.ref a) (.ref b) H Q := ⟨a, b, xs, ys, rfl, rfl, ha, hb, hz, h⟩
end L2
set_option Elab.async false
set_option linter.all false
set_option maxRecDepth 100000
set_option maxHeartbeats 4000000
namespace L2
open PySem PySem.Spec PyProof.Rows
mutual
inductive LitE : Expr → TE → Prop
  | non {j pos} : LitE (.Constant .none j pos) (tC .non)
  | bl {b j pos} : LitE (.Constant (.bool b) j pos) (tC (.bl b))
  | int {i j pos} : LitE (.Constant (.int i) j pos) (tC (.int i))
  | str {x j pos} : LitE (.Constant (.str x) j pos) (tC (.str x))
  | tup {es ta k pos} : LitsE es ta → LitE (.Tuple es k pos) (tTup ta)
inductive LitsE : List Expr → TA → Prop
  | nil : LitsE [] tNil
  | cons {e te es ta} : LitE e te → LitsE es ta → LitsE (e :: es) (tCons te ta)
end
theorem LitE.star {e : Expr} {te : TE} (h : LitE e te) (es : List Expr) (env : Env) : starEach (e :: es) env = (false, eval e env) :: starEach es env := by
  cases h <;> rfl
end L2
set_option Elab.async false
set_option linter.all false
set_option maxRecDepth 100000
set_option maxHeartbeats 4000000
namespace L2
open PySem PySem.Spec PyProof.Rows
section
variable {X : Cx} {pins : List (Addr × Obj)} {σ : St} {H : Hp} {s : Shared}
end
section
variable {X : Cx} {pins : List (Addr × Obj)} {σ : St} {H : Hp} {s : Shared}
end
end L2
set_option Elab.async false
set_option linter.all false
set_option maxRecDepth 100000
set_option maxHeartbeats 4000000
namespace L2
open PySem PySem.Spec PyProof.Rows
section
variable {P : Program} {w : World} {K : PySem.W.Frag} {mg : Str → Option Value} {base : Heap}
end
end L2
set_option Elab.async false
set_option linter.all false
set_option maxRecDepth 100000
set_option maxHeartbeats 4000000
namespace L2
open PySem PySem.Spec PyProof.Rows
section
variable {prog : Program} {w : World} {A : Around} {E : Value → Shared → Prop}
end
section
variable {X : Cx} {pos : Pos}
end
end L2
set_option Elab.async false
set_option linter.all false
set_option maxRecDepth 100000
set_option maxHeartbeats 4000000
namespace L2
open PySem PySem.Spec PyProof.Rows
section
variable {κ : Type} [DecidableEq κ]
noncomputable def valV (kvs : List (κ × V)) (k : κ) : Option V := (kvs.find? fun kv => decide (kv.1 = k)).map (·.2)
noncomputable def putK (kvs : List (κ × V)) (k : κ) (v : V) : List (κ × V) :=
  if (kvs.any fun kv => decide (kv.1 = k)) = true then kvs.map (fun kv => if kv.1 = k then (kv.1, v) else kv) else kvs ++ [(k, v)]
theorem valV_pos {p : κ × V} {r : List (κ × V)} {k : κ} (e : p.1 = k) : valV (p :: r) k = some p.2 := by simp [valV, List.find?_cons, e]
theorem valV_neg {p : κ × V} {r : List (κ × V)} {k : κ} (e : ¬ p.1 = k) : valV (p :: r) k = valV r k := by simp [valV, List.find?_cons, e]
theorem valV_any (k : κ) : ∀ kvs : List (κ × V), (kvs.any fun kv => decide (kv.1 = k)) = (valV kvs k).isSome
  | [] => rfl
  | p :: r => by
    rw [List.any_cons]
    by_cases e : p.1 = k
    · simp only [valV_pos e, decide_eq_true e, Bool.true_or, Option.isSome_some]
    · rw [valV_neg e, decide_eq_false e, Bool.false_or]; exact valV_any k r
theorem length_putK (kvs : List (κ × V)) (k : κ) (v : V) : (putK kvs k v).length ≤ kvs.length + 1 := by
  unfold putK
  split
  · rw [List.length_map]; omega
  · rw [List.length_append, List.length_cons, List.length_nil]; omega
theorem putK_new {kvs : List (κ × V)} {k : κ} (v : V) (h : valV kvs k = none) : putK kvs k v = kvs ++ [(k, v)] := by
  unfold putK
  rw [valV_any, h]
  exact if_neg (by decide)
theorem RelO.isSome_eq {o : Option V} {u : Option Value} (r : RelO o u) : o.isSome = u.isSome := by
  cases o with
  | none => cases u with
    | none => rfl
    | some _ => exact (show False from r).elim
  | some _ => cases u with
    | none => exact (show False from r).elim
    | some _ => rfl
theorem KV.val {kvs : List (κ × V)} {vs : List (κ × Value)} (r : KV kvs vs) (k : κ) : RelO (valV kvs k) (valueAt vs k) := by
  unfold KV at r
  induction r with
  | nil => exact True.intro
  | @cons p q ps qs h t ih =>
    obtain ⟨h1, h2⟩ := h
    by_cases e : p.1 = k
    · have e' : q.1 = k := h1.symm.trans e
      have b : valueAt (q :: qs) k = some q.2 := by simp [valueAt, List.find?_cons, e']
      rw [valV_pos e, b]; exact h2
    · have e' : ¬ q.1 = k := fun z => e (h1.trans z)
      have b : valueAt (q :: qs) k = valueAt qs k := by simp [valueAt, List.find?_cons, e']
      rw [valV_neg e, b]; exact ih
theorem KV.any {kvs : List (κ × V)} {vs : List (κ × Value)} (r : KV kvs vs) (k : κ) : (kvs.any fun kv => decide (kv.1 = k)) = vs.any fun kv => decide (kv.1 = k) := by
  unfold KV at r
  induction r with
  | nil => rfl
  | cons h t ih => rw [List.any_cons, List.any_cons, ih, h.1]
theorem KV.repl {kvs : List (κ × V)} {vs : List (κ × Value)} (r : KV kvs vs) (k : κ) {y : V} {u : Value} (ry : RelV y u) :
    KV (kvs.map fun kv => if kv.1 = k then (kv.1, y) else kv) (vs.map fun kv => if kv.1 = k then (kv.1, u) else kv) := by
  unfold KV at r ⊢
  induction r with
  | nil => exact .nil
  | @cons p q ps qs h t ih =>
    rw [List.map_cons, List.map_cons]
    refine .cons ?_ ih
    obtain ⟨h1, h2⟩ := h
    by_cases e : p.1 = k
    · rw [if_pos e, if_pos (h1.symm.trans e)]; exact ⟨h1, ry⟩
    · rw [if_neg e, if_neg (fun z => e (h1.trans z))]; exact ⟨h1, h2⟩
theorem KV.put {kvs : List (κ × V)} {vs : List (κ × Value)} (r : KV kvs vs) (k : κ) {y : V} {u : Value} (ry : RelV y u) : KV (putK kvs k y) (stored vs k u) := by
  unfold putK stored
  rw [r.any k]
  by_cases e : (vs.any fun kv => decide (kv.1 = k)) = true
  · rw [if_pos e, if_pos e]; exact r.repl k ry
  · rw [if_neg e, if_neg e]; exact Paired.snoc r ⟨rfl, ry⟩
theorem KV.keys {kvs : List (κ × V)} {vs : List (κ × Value)} (r : KV kvs vs) : kvs.map (·.1) = vs.map (·.1) := by
  unfold KV at r
  induction r with
  | nil => rfl
  | cons h t ih => rw [List.map_cons, List.map_cons, ih, h.1]
theorem KV.length {kvs : List (κ × V)} {vs : List (κ × Value)} (r : KV kvs vs) : kvs.length = vs.length := Paired.length r
end
theorem kV_is {P : Program} {w : World} {k : Key} {u : Value} (r : RelV (kV k) u) : (mixKind P w).is k u = true := by
  cases k with
  | inl i => obtain ⟨t, e⟩ := (show ∃ t, u = Value.int i t from r); subst e; exact mixKind_int P w i t
  | inr x => obtain ⟨t, e⟩ := (show ∃ t, u = Value.str x t from r); subst e; exact mixKind_str P w x t
theorem items_are {P : Program} {w : World} : ∀ {ks : List Key} {us : List Value}, Vals (ks.map kV) us → ItemsAre (mixKind P w) ks us
  | [], _, r => by rw [List.map_nil] at r; cases r; exact .nil
  | k :: ks, _, r => by
    rw [List.map_cons] at r
    cases r with
    | cons h t => exact .cons (kV_is h) (items_are t)
noncomputable abbrev KT (H : Hp) : List (List Key × V) → List (List Key × Addr × Value) → Prop := Paired fun p q => p.1 = q.1 ∧ H q.2.1 = some (.tup (p.1.map kV)) ∧ RelV p.2 q.2.2
theorem KT.val {H : Hp} {kvs : List (List Key × V)} {xs : List (List Key × Addr × Value)} (r : KT H kvs xs) (k : List Key) : RelO (valV kvs k) ((atKey xs k).map (·.2)) := by
  induction r with
  | nil => exact True.intro
  | @cons p q ps qs h t ih =>
    obtain ⟨h1, _, h2⟩ := h
    by_cases e : p.1 = k
    · have e' : q.1 = k := h1.symm.trans e
      have b : atKey (q :: qs) k = some q.2 := by simp [atKey, List.find?_cons, e']
      rw [valV_pos e, b]; exact h2
    · have e' : ¬ q.1 = k := fun z => e (h1.trans z)
      have b : atKey (q :: qs) k = atKey qs k := by simp [atKey, List.find?_cons, e']
      rw [valV_neg e, b]; exact ih
theorem KT.repl {H : Hp} {kvs : List (List Key × V)} {xs : List (List Key × Addr × Value)} (r : KT H kvs xs) (k : List Key) {y : V} {u : Value} (ry : RelV y u) :
    KT H (kvs.map fun kv => if kv.1 = k then (kv.1, y) else kv) (xs.map (putAt k u)) := by
  induction r with
  | nil => exact .nil
  | @cons p q ps qs h t ih =>
    rw [List.map_cons, List.map_cons]
    refine .cons ?_ ih
    obtain ⟨h1, h2, h3⟩ := h
    unfold putAt
    by_cases e : p.1 = k
    · rw [if_pos e, if_pos (h1.symm.trans e)]; exact ⟨h1, h2, ry⟩
    · rw [if_neg e, if_neg (fun z => e (h1.trans z))]; exact ⟨h1, h2, h3⟩
theorem KT.put {H : Hp} {kvs : List (List Key × V)} {xs : List (List Key × Addr × Value)} (r : KT H kvs xs) (k : List Key) {b : Addr} {y : V} {u : Value} (hb : H b = some (.tup (k.map kV))) (ry : RelV y u) :
    KT H (putK kvs k y) (storedH xs k b u) := by
  have e : (kvs.any fun kv => decide (kv.1 = k)) = (atKey xs k).isSome := by
    rw [valV_any, (r.val k).isSome_eq, Option.isSome_map]
  unfold putK storedH
  rw [e]
  by_cases q : (atKey xs k).isSome = true
  · rw [if_pos q, if_pos q]; exact r.repl k ry
  · rw [if_neg q, if_neg q]; exact Paired.snoc r ⟨rfl, hb, ry⟩
theorem KT.keeps {H H' : Hp} {kvs : List (List Key × V)} {xs : List (List Key × Addr × Value)} (r : KT H kvs xs) (ht : ∀ b ys, H b = some (.tup ys) → H' b = some (.tup ys)) : KT H' kvs xs :=
  Paired.mapP r fun _ _ z => ⟨z.1, ht _ _ z.2.1, z.2.2⟩
section
variable {P : Program} {w : World} {H : Hp} {h : Heap} {a : Addr}
theorem rd_of {u : HO} (ok : HOk P w H h) (e : Rd H a u) : ObjOk P w H h a u := e.ok ok
theorem dk_rd {kvs : List (Key × V)} (ok : HOk P w H h) (e : Rd H a (.dK kvs)) : kvs.length ≤ sizeLine ∧ (a == sysModules) = false ∧ ∃ vs, KV kvs vs ∧ h.DictOf (mixKind P w) a vs :=
  show ObjOk P w H h a (.dK kvs) from rd_of ok e
theorem dk_of {kvs : List (Key × V)} (ok : HOk P w H h) (e : H a = some (.dK kvs)) : kvs.length ≤ sizeLine ∧ (a == sysModules) = false ∧ ∃ vs, KV kvs vs ∧ h.DictOf (mixKind P w) a vs := dk_rd ok (.inl e)
theorem key_of {ks : List Key} (ok : HOk P w H h) (e : H a = some (.tup (ks.map kV))) : (tupleKind (mixKind P w)).is h ks a := by
  obtain ⟨_, its, r, o, h1, h2, n, h3⟩ := (show ObjOk P w H h a (.tup (ks.map kV)) from ok a _ e)
  exact ⟨o, its.toArray, n, h1, h2, h3, by simpa using items_are r⟩
theorem dt_rd {kvs : List (List Key × V)} (ok : HOk P w H h) (e : Rd H a (.dT kvs)) : kvs.length ≤ sizeLine ∧ (a == sysModules) = false ∧
    ∃ xs, KT H kvs xs ∧ h.DictOfH (tupleKind (mixKind P w)) a xs := by
  obtain ⟨z, y, xs, r, o, es, ep, h1, h2, h3, h4, h5⟩ := (show ObjOk P w H h a (.dT kvs) from rd_of ok e)
  refine ⟨z, y, xs, r, o, es, ep, h1, h2, h3, h4, fun x hx => ?_, h5⟩
  have all : ∀ {l : List (List Key × V)} {m : List (List Key × Addr × Value)}, KT H l m → ∀ x ∈ m, (tupleKind (mixKind P w)).is h x.1 x.2.1 := by
    intro l m q
    induction q with
    | nil => intro x hx; exact nomatch hx
    | @cons p q ps qs hq t ih =>
      intro x hx
      rcases List.mem_cons.mp hx with e | hx
      · subst e
        exact key_of ok (by rw [← hq.1]; exact hq.2.1)
      · exact ih x hx
  exact all r x hx
theorem dt_of {kvs : List (List Key × V)} (ok : HOk P w H h) (e : H a = some (.dT kvs)) : kvs.length ≤ sizeLine ∧ (a == sysModules) = false ∧
    ∃ xs, KT H kvs xs ∧ h.DictOfH (tupleKind (mixKind P w)) a xs := dt_rd ok (.inl e)
end
noncomputable def DGet (H : Hp) (a : Addr) (y : V) (r : Option V) : Prop :=
  (∃ kvs k, Rd H a (.dK kvs) ∧ y = kV k ∧ r = valV kvs k) ∨ ∃ kvs k b, Rd H a (.dT kvs) ∧ y = .ref b ∧ H b = some (.tup (k.map kV)) ∧ r = valV kvs k
noncomputable def DPut (H : Hp) (a : Addr) (y v : V) (H' : Hp) : Prop :=
  (∃ kvs k, H a = some (.dK kvs) ∧ y = kV k ∧ kvs.length < sizeLine ∧ H' = upd H a (.dK (putK kvs k v))) ∨
  ∃ kvs k b, H a = some (.dT kvs) ∧ y = .ref b ∧ H b = some (.tup (k.map kV)) ∧ kvs.length < sizeLine ∧ H' = upd H a (.dT (putK kvs k v))
theorem DGet.t {H : Hp} {a b : Addr} {kvs : List (List Key × V)} {k : List Key} (e : H a = some (.dT kvs)) (eb : H b = some (.tup (k.map kV))) : DGet H a (.ref b) (valV kvs k) := .inr ⟨kvs, k, b, .inl e, rfl, eb, rfl⟩
theorem DPut.t {H : Hp} {a b : Addr} {kvs : List (List Key × V)} {k : List Key} {v : V} (e : H a = some (.dT kvs)) (eb : H b = some (.tup (k.map kV))) (hl : kvs.length < sizeLine) :
    DPut H a (.ref b) v (upd H a (.dT (putK kvs k v))) := .inr ⟨kvs, k, b, e, rfl, eb, hl, rfl⟩
section
variable {X : Cx} {pins : List (Addr × Obj)} {σ : St} {H : Hp} {s : Shared} {a : Addr} {y v : V} {u r : Value} {o : Option V} {A : Around} {E : Value → Shared → Prop}
theorem Inv.big (I : Inv X pins σ H s) : sysModules < s.heap.objs.size := by
  have h : mainGlobals < s.heap.objs.size := (I.mod.glob.keeps I.bk).lt
  exact Nat.lt_trans (by decide) h
theorem d_getItem {Q : Value → Shared → Prop} (hu : A.units + 1 < cLine) (I : Inv X pins σ H s) (g : DGet H a y (some v)) (ry : RelV y u) (h : ∀ w' s', Inv X pins σ H s' → RelV v w' → Q w' s') :
    wpAny (model X.prog X.w) A (getItem (.ref a) u) Q E s := by
  rcases g with ⟨kvs, k, e, ey, l⟩ | ⟨kvs, k, b, e, ey, eb, l⟩
  · subst ey
    obtain ⟨z, hd, vs, rel, dd⟩ := dk_rd I.hok e
    obtain ⟨w', hw, rw'⟩ := RelO.some_of (v := v) (o := valueAt vs k) (by rw [l]; exact rel.val k)
    exact wpAny_getItem_of (kV_is ry) dd.mapOf hw (h w' _ (I.tok _) rw')
  · subst ey
    cases (show u = Value.ref b from ry)
    obtain ⟨z, hd, xs, rel, dd⟩ := dt_rd I.hok e
    obtain ⟨w', hw, rw'⟩ := RelO.some_of (v := v) (o := (atKey xs k).map (·.2)) (by rw [l]; exact rel.val k)
    obtain ⟨p, hp, hp2⟩ := Option.map_eq_some_iff.mp hw
    refine wpAny_getItem_heap (tupleKind_room_in1 hu) (key_of I.hok eb) dd hp ?_
    rw [hp2]
    exact h w' _ (I.tok _) rw'
theorem d_notIn {Q : Value → Shared → Prop} (hu : A.units + 1 < cLine) (I : Inv X pins σ H s) (g : DGet H a y o) (ry : RelV y u) (h : ∀ s', Inv X pins σ H s' → Q (.bool (!o.isSome)) s') :
    wpAny (model X.prog X.w) A (compareOp .NotIn u (.ref a)) Q E s := by
  rcases g with ⟨kvs, k, e, ey, l⟩ | ⟨kvs, k, b, e, ey, eb, l⟩
  · subst ey
    obtain ⟨z, hd, vs, rel, dd⟩ := dk_rd I.hok e
    refine wpAny_notIn_of (kV_is ry) hd dd.mapOf ?_
    rw [← (rel.val k).isSome_eq, ← l]
    exact h _ (I.tok _)
  · subst ey
    cases (show u = Value.ref b from ry)
    obtain ⟨z, hd, xs, rel, dd⟩ := dt_rd I.hok e
    refine wpAny_notIn_heap (tupleKind_room_in1 hu) (key_of I.hok eb) hd dd ?_
    have q := (rel.val k).isSome_eq
    rw [Option.isSome_map] at q
    rw [← q, ← l]
    exact h _ (I.tok _)
theorem d_write {h' : Heap} {t' : Nat} {ob : HO} (I : Inv X pins σ H s) (mu : Mut (H a)) (hs : Heap.SameBut a s.heap h') (he : ∃ q, h'.get? a = some q) (new : ObjOk X.prog X.w (upd H a ob) h' a ob) :
    Inv X pins σ (upd H a ob) { s with heap := h', toks := t' } :=
  I.write (x := a) (e := a) mu (.inl rfl) (fun b q hb z => (hs.2 b hb).trans z) he new
theorem dk_new {P : Program} {w : World} {H' : Hp} {h' : Heap} {kvs : List (Key × V)} {vs : List (Key × Value)} (z : kvs.length ≤ sizeLine) (hd : (a == sysModules) = false) (rel : KV kvs vs) (dd : h'.DictOf (mixKind P w) a vs) :
    ObjOk P w H' h' a (.dK kvs) := ⟨z, hd, vs, rel, dd⟩
theorem d_setItem {H' : Hp} {Q : Unit → Shared → Prop} (hu : A.units + 1 < cLine) (I : Inv X pins σ H s) (g : DPut H a y v H') (ry : RelV y u) (rv : RelV v r) (h : ∀ s', Inv X pins σ H' s' → Q () s') :
    wpAny (model X.prog X.w) A (setItem (.ref a) u r) Q E s := by
  rcases g with ⟨kvs, k, e, ey, l, eH⟩ | ⟨kvs, k, b, e, ey, eb, l, eH⟩
  · subst ey eH
    obtain ⟨z, hd, vs, rel, dd⟩ := dk_of I.hok e
    have hz : vs.length ≤ sizeLine := by rw [← rel.length]; exact z
    have hl : (putK kvs k v).length ≤ sizeLine := by have := length_putK kvs k v; omega
    refine wpAny_setItem_pairs (hsz := hz) (kV_is ry) dd fun h' dd' hs => h _ ?_
    have he : ∃ q, h'.get? a = some q := let ⟨q, _, _, hq, _⟩ := dd'; ⟨q, hq⟩
    exact d_write I (by rw [e]; exact True.intro) hs he (dk_new hl hd (rel.put k rv) dd')
  · subst ey eH
    cases (show u = Value.ref b from ry)
    obtain ⟨z, hd, xs, rel, dd⟩ := dt_of I.hok e
    have hz : xs.length ≤ sizeLine := by rw [← Paired.length rel]; exact z
    have hl : (putK kvs k v).length ≤ sizeLine := by have := length_putK kvs k v; omega
    refine wpAny_setItem_heap (hsz := hz) (tupleKind_room_in1 hu) (key_of I.hok eb) dd fun h' dd' hs => h _ ?_
    obtain ⟨q, es, ep, hq, h2, h3, h4, _, h5⟩ := dd'
    refine d_write I (by rw [e]; exact True.intro) hs ⟨q, hq⟩ ⟨hl, hd, _, (rel.put k eb rv).keeps fun c ys ec => ?_, q, es, ep, hq, h2, h3, h4, h5⟩
    rw [upd_ne (ne_of ec e (fun z => nomatch z))]
    exact ec
end
section
variable {X : Cx} {pins : List (Addr × Obj)} {σ : St} {H : Hp} {s : Shared} {a : Addr} {kvs : List (Key × V)} {k : Key} {u : Value} {A : Around} {E : Value → Shared → Prop}
end
noncomputable def NoSl (i : Expr) : Prop := ∀ ov iv, subscripted i false ov iv = operate [ov, iv] (getItem ov iv)
theorem subD_of {prog : Program} {w : World} {A : Around} {E : Value → Shared → Prop} {s : Shared} {env : Env} {value slice : Expr} {pos : Pos} {T id : String} {Q : Value → Shared → Prop}
    (hl : typeLookup (.type T) "__getitem__" = pure (some (.builtin id))) (hs : NoSl slice)
    (h : wpAny (model prog w) A (eval value env) (fun o s₁ => wpAny (model prog w) A (eval slice env) (fun i s₂ => s₂.TypeIs o T ∧ wpAny (model prog w) A (getItem o i) Q E s₂) E s₁) E s) :
    wpAny (model prog w) A (eval (.Subscript value slice pos) env) Q E s := by
  refine Subscript_ (wpAny_mono h (fun o s₁ h₁ => wpAny_mono h₁ (fun i s₂ h₂ => ?_) fun _ _ x => x) fun _ _ x => x)
  obtain ⟨hT, h₂⟩ := h₂
  unfold subscriptTail
  refine wpAny_bind ?_
  rw [getitemInPython_of_ne hT.not_modules]
  refine wpAny_bind (wpAny_specialOf hT hl ?_)
  have fin : wpAny (model prog w) A (subscripted slice false o i) (fun r s₃ => wpAny (model prog w) A (letTemporaryGo value o r >>= fun _ => pure r) Q E s₃) E s₂ := by
    rw [hs o i]
    exact wpAny_operating (wpAny_mono h₂ (fun r s₃ h₃ => wpAny_bind (wpAny_letTemporaryGo (wpAny_pure h₃))) fun _ _ x => x)
  first
    | exact wpAny_pure (wpAny_bind fin)
    | exact wpAny_bind (wpAny_pure (wpAny_bind fin))
    | exact wpAny_bind fin
theorem dict_typeIs {X : Cx} {pins : List (Addr × Obj)} {σ : St} {H : Hp} {s : Shared} {a : Addr} {y : V} {o : Option V} (I : Inv X pins σ H s) (g : DGet H a y o) : s.TypeIs (.ref a) "dict" := by
  rcases g with ⟨kvs, k, e, _, _⟩ | ⟨kvs, k, b, e, _, _, _⟩
  · obtain ⟨_, _, vs, _, dd⟩ := dk_rd I.hok e
    exact dd.typeIs
  · obtain ⟨_, _, xs, _, dd⟩ := dt_rd I.hok e
    exact dd.typeIs
noncomputable def tDGet (td ty : TE) : TE := fun σ H Q => td σ H fun x H1 => ty σ H1 fun y H2 => ∃ a v, x = .ref a ∧ DGet H2 a y (some v) ∧ Q v H2
noncomputable def tDNotIn (ty td : TE) : TE := fun σ H Q => ty σ H fun y H1 => td σ H1 fun x H2 => ∃ a o, x = .ref a ∧ DGet H2 a y o ∧ Q (.bl (!o.isSome)) H2
noncomputable def sDPut (td ty tv : TE) : TS := fun D σ H => tv σ H fun v H1 => td σ H1 fun x H2 => ty σ H2 fun y H3 => ∃ a H4, x = .ref a ∧ DPut H3 a y v H4 ∧ D.nx σ H4
section
variable {X : Cx} {o i e value : Expr} {pos pos' tpos : Pos} {td ty tv : TE}
theorem pe_dget (hu : X.A.units + 1 < cLine) (ho : PE X o td) (hi : PE X i ty) (hs : NoSl i) : PE X (.Subscript o i pos) (tDGet td ty) := by
  intro pins s σ H Q I h
  refine subD_of PySem.F.slot_dict_getitem.lookup hs (thn (ho pins s σ H _ I h) fun u s1 ⟨x, H1, I1, rx, q1⟩ => thn (hi pins s1 σ H1 _ I1 q1) fun iv s2 ⟨y, H2, I2, ry, a, v, ex, g, q2⟩ => ?_)
  subst ex
  obtain rfl : u = Value.ref a := rx
  exact ⟨dict_typeIs I2 g, d_getItem hu I2 g ry fun w' s3 I3 rw' => ⟨v, H2, I3, rw', q2⟩⟩
theorem pc_dnotin (hu : X.A.units + 1 < cLine) (hi : PE X i ty) (ho : PE X o td) : PC X .NotIn i o (tDNotIn ty td) := by
  intro pins s σ H Q I h
  refine thn (hi pins s σ H _ I h) fun iv s1 ⟨y, H1, I1, ry, q1⟩ => thn (ho pins s1 σ H1 _ I1 q1) fun u s2 ⟨x, H2, I2, rx, a, ov, ex, g, q2⟩ => ?_
  subst ex
  obtain rfl : u = Value.ref a := rx
  exact d_notIn hu I2 g ry fun s3 I3 => ⟨.bl (!ov.isSome), H2, I3, rfl, q2⟩
theorem ps_dput (hu : X.A.units + 1 < cLine) (ho : PE X o td) (hi : PE X i ty) (hv : PE X value tv) (hs : swapsWith value (some (.Subscript o i pos')) pos.line X.env = pure false) :
    PS X (.Assign [.Subscript o i pos'] value pos) (sDPut td ty tv) := by
  intro pins s σ H D I h
  refine wpAny_Assign_Subscript (thn (hv pins s σ H _ I h) fun r s1 ⟨v, H1, I1, rv, q1⟩ => thn (ho pins s1 σ H1 _ I1 q1) fun u s2 ⟨x, H2, I2, rx, q2⟩ => thn (hi pins s2 σ H2 _ I2 q2) fun iv s3 ⟨y, H3, I3, ry, a, H4, ex, g, q3⟩ => ?_) hs
  subst ex
  obtain rfl : u = Value.ref a := rx
  exact d_setItem hu I3 g ry rv fun s4 I4 => ⟨σ, H4, I4, q3⟩
end
theorem dk_empty {P : Program} {w : World} {H : Hp} (h : Heap) (hb : sysModules < h.objs.size) : ObjOk P w H (h.push { cls := .type "dict", data := .dict #[] }) h.objs.size (.dK []) :=
  ⟨Nat.zero_le _, beq_eq_false_iff_ne.mpr (Ne.symm (Nat.ne_of_lt hb)), [], .nil, Heap.DictOf.new h⟩
theorem dt_empty {P : Program} {w : World} {H : Hp} (h : Heap) (hb : sysModules < h.objs.size) : ObjOk P w H (h.push { cls := .type "dict", data := .dict #[] }) h.objs.size (.dT []) :=
  ⟨Nat.zero_le _, beq_eq_false_iff_ne.mpr (Ne.symm (Nat.ne_of_lt hb)), [], .nil, _, #[], 0, Heap.get?_push_size _ rfl, ⟨rfl, rfl, rfl⟩, rfl, rfl, List.nodup_nil⟩
section
variable {X : Cx} {pos : Pos}
end
noncomputable def tPairs : List (TE × TE) → St → Hp → (List (V × V) → Hp → Prop) → Prop
  | [], _, H, Q => Q [] H
  | (tk, tv) :: r, σ, H, Q => tk σ H fun x H1 => tv σ H1 fun y H2 => tPairs r σ H2 fun ps H3 => Q ((x, y) :: ps) H3
noncomputable abbrev VV : List (V × V) → List (Value × Value) → Prop := Paired fun p q => RelV p.1 q.1 ∧ RelV p.2 q.2
noncomputable def PPs (X : Cx) (pos : Pos) (keys : List (Option Expr)) (values : List Expr) (trs : List (TE × TE)) : Prop :=
  ∀ (pins : List (Addr × Obj)) (s : Shared) (σ : St) (H : Hp) (Q : List (V × V) → Hp → Prop), Inv X pins σ H s → tPairs trs σ H Q →
    wpAny (model X.prog X.w) X.A (evalPairs (pairTrees keys values X.env pos)) (fun vs s' => ∃ ps H', Inv X pins σ H' s' ∧ VV ps vs ∧ Q ps H') X.xe s
theorem pps_nil {X : Cx} {pos : Pos} : PPs X pos [] [] [] := fun pins s σ H Q I h => pairTrees_nil_walk ⟨[], H, I, .nil, h⟩
theorem pps_cons {X : Cx} {pos : Pos} {k v : Expr} {ks : List (Option Expr)} {vs : List Expr} {tk tv : TE} {trs : List (TE × TE)} (hk : PE X k tk) (hv : PE X v tv) (hr : PPs X pos ks vs trs) :
    PPs X pos (some k :: ks) (v :: vs) ((tk, tv) :: trs) := fun pins s σ H Q I h =>
  pairTrees_cons_walk (thn (hk pins s σ H _ I h) fun u s1 ⟨x, H1, I1, rx, q1⟩ => thn (hv pins s1 σ H1 _ I1 q1) fun w2 s2 ⟨y, H2, I2, ry, q2⟩ =>
    thn (hr pins s2 σ H2 _ I2 q2) fun ws s3 ⟨ps, H3, I3, rel, q3⟩ => ⟨(x, y) :: ps, H3, I3, .cons ⟨rx, ry⟩ rel, q3⟩)
noncomputable def mergeK (kvs more : List (Key × V)) : List (Key × V) := more.foldl (fun acc kv => putK acc kv.1 kv.2) kvs
theorem KV.merge : ∀ {more : List (Key × V)} {rs : List (Key × Value)} {kvs : List (Key × V)} {vs : List (Key × Value)}, KV more rs → KV kvs vs → KV (mergeK kvs more) (merged vs rs) := by
  intro more rs kvs vs r
  unfold KV at r
  induction r generalizing kvs vs with
  | nil => intro q; exact q
  | @cons p q ps qs h t ih =>
    intro r0
    have e : KV (putK kvs p.1 p.2) (stored vs q.1 q.2) := by
      have := r0.put p.1 h.2
      rw [← h.1]; exact this
    exact ih e
theorem length_mergeK : ∀ (more kvs : List (Key × V)), (mergeK kvs more).length ≤ kvs.length + more.length
  | [], kvs => by show kvs.length ≤ kvs.length + 0; omega
  | p :: r, kvs => by
    have h1 := length_mergeK r (putK kvs p.1 p.2)
    have h2 := length_putK kvs p.1 p.2
    show (mergeK (putK kvs p.1 p.2) r).length ≤ _
    rw [List.length_cons]; omega
theorem carries_of {P : Program} {w : World} : ∀ {kvs : List (Key × V)} {ws : List (Value × Value)}, VV (kvs.map fun kv => (kV kv.1, kv.2)) ws → ∃ rs, Carries (mixKind P w) ws rs ∧ KV kvs rs
  | [], _, r => by rw [List.map_nil] at r; cases r; exact ⟨[], True.intro, .nil⟩
  | p :: kvs, _, r => by
    rw [List.map_cons] at r
    cases r with
    | @cons a b as bs h t =>
      obtain ⟨rs, c, q⟩ := carries_of (P := P) (w := w) t
      obtain ⟨b1, b2⟩ := b
      exact ⟨(p.1, b2) :: rs, ⟨kV_is h.1, rfl, c⟩, .cons ⟨rfl, h.2⟩ q⟩
noncomputable def tDisp (trs : List (TE × TE)) : TE := fun σ H Q => ∀ p, H p = none → tPairs trs σ (upd H p (.dK [])) fun ps H2 => H2 p = some (.dK []) ∧ ∃ kvs : List (Key × V), ps = kvs.map (fun kv => (kV kv.1, kv.2)) ∧ kvs.length ≤ 15 ∧ Q (.ref p) (upd H2 p (.dK (mergeK [] kvs)))
theorem pe_disp {X : Cx} {pos : Pos} {keys : List (Option Expr)} {values : List Expr} {trs : List (TE × TE)} (h : PPs X pos keys values trs) (hall : keys.all (·.isSome) = true) (hl : keys.length = values.length) (h0 : keys ≠ [])
    (h15 : keys.length ≤ 15) : PE X (.Dict keys values pos) (tDisp trs) := by
  intro pins s σ H Q I q
  have hn := I.hok.fresh (Nat.le_refl s.heap.objs.size)
  have I1 := I.laid (a := s.heap.objs.size) (o := .dK []) (h' := s.heap.push { cls := .type "dict", data := .dict #[] }) (t' := s.toks) (fun _ _ q => Heap.get?_push_of_some _ q) (Nat.le_refl _) (dk_empty s.heap I.big)
  refine wpAny_Dict_walk (knd := mixKind X.prog X.w) hall hl h0 h15 (thn (h pins _ σ _ _ I1 (q _ hn)) fun ws s2 ⟨ps, H2, I2, rel, e, kvs, ep, lk, q2⟩ => ?_)
  subst ep
  obtain ⟨rs, c, rk⟩ := carries_of (P := X.prog) (w := X.w) rel
  obtain ⟨z, hd, vs0, r0, dd⟩ := dk_of I2.hok e
  cases r0
  refine ⟨rs, c, dd, fun h' dd' hs => ⟨.ref s.heap.objs.size, _, ?_, rfl, q2⟩⟩
  have hz : (mergeK [] kvs).length ≤ sizeLine := by
    have h1 := length_mergeK kvs []
    rw [List.length_nil] at h1
    rw [sizeLine_eq]; omega
  have he : ∃ q, h'.get? s.heap.objs.size = some q := let ⟨q, _, _, hq, _⟩ := dd'; ⟨q, hq⟩
  exact d_write I2 (by rw [e]; exact True.intro) hs he (dk_new hz hd (rk.merge .nil) dd')
section
variable {X : Cx} {pins : List (Addr × Obj)} {σ : St} {H : Hp} {s : Shared} {a : Addr} {y d : V} {u r : Value} {o : Option V} {A : Around} {E : Value → Shared → Prop}
end
section
variable {X : Cx} {o e f : Expr} {apos cpos : Pos} {td ty tx : TE}
end
section
variable {X : Cx} {pins : List (Addr × Obj)} {σ : St} {H : Hp} {s : Shared} {a : Addr} {kvs : List (Key × V)} {A : Around} {E : Value → Shared → Prop}
end
section
variable {X : Cx} {pins : List (Addr × Obj)} {σ : St} {H : Hp} {s : Shared} {a : Addr} {y : V} {u : Value} {A : Around} {E : Value → Shared → Prop}
end
end L2
namespace L2
open PySem PySem.Spec PyProof.Rows
section
variable {X : Cx}
end
section
variable {κ : Type} [DecidableEq κ]
end
end L2
set_option Elab.async false
set_option linter.all false
set_option maxRecDepth 100000
set_option maxHeartbeats 4000000
namespace L2
open PySem PySem.Spec PyProof.Rows
section
variable {P : Program} {w : World} {K : PySem.W.Frag} {mg : Str → Option Value} {base : Heap} {N : List Str} {qual : Str} {scope : Scope} {f : Addr} {cd : Value} {A : Around} {outer : List Env} {s₀ : Shared} {H₀ : Hp} {E : XK}
end
end L2
set_option Elab.async false
set_option linter.all false
set_option maxRecDepth 100000
set_option maxHeartbeats 4000000
namespace L2
open PySem PySem.Spec PyProof.Rows
section
variable {prog : Program} {w : World} {A : Around} {E : Value → Shared → Prop} {K : PySem.W.Frag} {x D : Addr} {ox : Obj} {s : Shared}
end
section
variable {X : Cx} {pins : List (Addr × Obj)} {σ : St} {H : Hp} {s : Shared} {x : Addr} {oe : Obj}
end
section
variable {P : Program} {w : World} {K : PySem.W.Frag} {mg : Str → Option Value} {base : Heap} {N : List Str} {qual : Str} {scope : Scope} {f : Addr} {cd : Value} {A : Around} {outer : List Env} {s₀ : Shared} {H₀ : Hp} {E : XK}
end
section
end
section
variable {P : Program} {w : World} {K : PySem.W.Frag} {mg : Str → Option Value} {base : Heap} {N : List Str} {qual : Str} {scope : Scope} {f : Addr} {cd : Value} {A : Around} {outer : List Env} {s₀ : Shared} {H₀ : Hp} {E : XK}
end
section
variable {K : PySem.W.Frag} {D : Ends} {σ : St} {H : Hp} {Q : VK} {E : XK} {C x : Addr}
end
section
variable {K : PySem.W.Frag} {D : Ends} {σ : St} {H : Hp} {E : St → XK} {C : Addr} {i : Nat} {t u tb : Ends → (St → XK) → St → Hp → Prop} {ts : Addr → Addr → TS} {c : TT}
end
end L2
set_option linter.all false
set_option maxRecDepth 100000
namespace Tb
open PySem
noncomputable def nx (m i : Nat) : Nat := (i * 5 + 1) % (m + 1)
noncomputable def it (m : Nat) : Nat → Nat → Nat
  | 0, i => i
  | n + 1, i => it m n (nx m i)
theorem it_add (m : Nat) : ∀ a b i, it m (a + b) i = it m b (it m a i)
  | 0, b, i => by rw [Nat.zero_add]; rfl
  | a + 1, b, i => by rw [Nat.succ_add]; exact it_add m a b (nx m i)
noncomputable def orb (m : Nat) : Nat → Nat → List Nat
  | 0, _ => []
  | n + 1, i => i :: orb m n (nx m i)
theorem orb_mem {m : Nat} : ∀ {n i j : Nat}, j ∈ orb m n i → ∃ k, k < n ∧ it m k i = j
  | 0, _, _, h => by cases h
  | n + 1, i, j, h => by
    rcases List.mem_cons.mp h with rfl | h
    · exact ⟨0, Nat.succ_pos _, rfl⟩
    · obtain ⟨k, hk, e⟩ := orb_mem h
      exact ⟨k + 1, Nat.succ_lt_succ hk, e⟩
noncomputable def good (m : Nat) : Bool := (List.range (m + 1)).all (fun j => (orb m (m + 1) 0).contains j) && it m (m + 1) 0 == 0
theorem good7 : good 7 = true := by decide +kernel
theorem good31 : good 31 = true := by decide +kernel
theorem good127 : good 127 = true := by decide +kernel
theorem good511 : good 511 = true := by decide +kernel
noncomputable def Mask (m : Nat) : Prop := m = 7 ∨ m = 31 ∨ m = 127 ∨ m = 511
theorem Mask.good {m : Nat} (h : Mask m) : good m = true := by
  rcases h with rfl | rfl | rfl | rfl
  · exact good7
  · exact good31
  · exact good127
  · exact good511
theorem reach0 {m : Nat} (h : Mask m) {j : Nat} (hj : j ≤ m) : ∃ k, k ≤ m ∧ it m k 0 = j := by
  have := h.good
  unfold Tb.good at this
  rw [Bool.and_eq_true, List.all_eq_true] at this
  have h1 := this.1 j (List.mem_range.mpr (by omega))
  rw [List.contains_iff_mem] at h1
  obtain ⟨k, hk, e⟩ := orb_mem h1
  exact ⟨k, by omega, e⟩
theorem round0 {m : Nat} (h : Mask m) : it m (m + 1) 0 = 0 := by
  have := h.good
  unfold Tb.good at this
  rw [Bool.and_eq_true] at this
  exact eq_of_beq this.2
theorem reach {m : Nat} (h : Mask m) {i j : Nat} (hi : i ≤ m) (hj : j ≤ m) : ∃ k, k ≤ m ∧ it m k i = j := by
  obtain ⟨a, ha, ea⟩ := reach0 h hi
  obtain ⟨b, hb, eb⟩ := reach0 h hj
  rcases Nat.lt_or_ge b a with hlt | hge
  · refine ⟨m + 1 - a + b, by omega, ?_⟩
    rw [← ea, ← it_add, show a + (m + 1 - a + b) = (m + 1) + b by omega, it_add, round0 h]
    exact eb
  · refine ⟨b - a, by omega, ?_⟩
    rw [← ea, ← it_add, show a + (b - a) = b by omega]
    exact eb
noncomputable def lp (m : Nat) : Nat → Nat × Nat → Nat × Nat
  | 0, s => s
  | n + 1, s => lp m n (SetTable.leap m s.1 s.2)
theorem lp_succ' (m : Nat) : ∀ n s, lp m (n + 1) s = SetTable.leap m (lp m n s).1 (lp m n s).2
  | 0, s => rfl
  | n + 1, s => by
    show lp m (n + 1) (SetTable.leap m s.1 s.2) = _
    rw [lp_succ' m n]
    rfl
theorem lp_pert (m : Nat) : ∀ n s, (lp m n s).2 = s.2 / 32 ^ n
  | 0, s => by simp [lp]
  | n + 1, s => by
    rw [lp_succ' m n s]
    show (lp m n s).2 / 32 = _
    rw [lp_pert m n s, Nat.div_div_eq_div_mul, Nat.pow_succ]
theorem lp_le (m : Nat) : ∀ n s, s.1 ≤ m → (lp m n s).1 ≤ m
  | 0, s, h => h
  | n + 1, s, h => by
    rw [lp_succ' m n s]
    show (_ % (m + 1)) ≤ m
    have := Nat.mod_lt ((lp m n s).1 * 5 + 1 + (lp m n s).2 / 32) (show 0 < m + 1 by omega)
    omega
theorem lp_zero (m : Nat) : ∀ n i, (lp m n (i, 0)).1 = it m n i
  | 0, i => rfl
  | n + 1, i => by
    show (lp m n (SetTable.leap m i 0)).1 = it m n (nx m i)
    have : SetTable.leap m i 0 = (nx m i, 0) := rfl
    rw [this]
    exact lp_zero m n _
theorem lp_add (m : Nat) : ∀ a b s, lp m (a + b) s = lp m b (lp m a s)
  | 0, b, s => by rw [Nat.zero_add]; rfl
  | a + 1, b, s => by rw [Nat.succ_add]; exact lp_add m a b _
theorem lp_reach {m : Nat} (h : Mask m) {i p j : Nat} (hi : i ≤ m) (hp : p < 2 ^ 64) (hj : j ≤ m) : ∃ n, n ≤ m + 13 ∧ (lp m n (i, p)).1 = j := by
  have hz : (lp m 13 (i, p)).2 = 0 := by
    rw [lp_pert]
    exact Nat.div_eq_of_lt (Nat.lt_of_lt_of_le hp (by decide))
  obtain ⟨k, hk, e⟩ := reach h (lp_le m 13 (i, p) hi) hj
  refine ⟨13 + k, by omega, ?_⟩
  rw [lp_add]
  have : lp m 13 (i, p) = ((lp m 13 (i, p)).1, 0) := by rw [← hz]
  rw [this, lp_zero]
  exact e
theorem bits_lt (h : Int) : SetTable.bits h < 2 ^ 64 := by
  unfold SetTable.bits
  have h1 := Int.emod_lt_of_pos h (show (0 : Int) < 2 ^ 64 by decide)
  have h2 := Int.emod_nonneg h (show (2 : Int) ^ 64 ≠ 0 by decide)
  omega
noncomputable def adv (t : SetTable) : Nat → SetTable.Probe → SetTable.Probe
  | 0, p => p
  | n + 1, p => adv t n (t.advance p)
theorem adv_add (t : SetTable) : ∀ a b p, adv t (a + b) p = adv t b (adv t a p)
  | 0, b, p => by rw [Nat.zero_add]; rfl
  | a + 1, b, p => by rw [Nat.succ_add]; exact adv_add t a b _
noncomputable def at_ (t : SetTable) (s : Nat × Nat) : SetTable.Probe := { j := s.1, more := SetTable.runEnd t.mask s.1 - s.1, i := s.1, perturb := s.2, dummy := none }
theorem adv_run (t : SetTable) : ∀ (r : Nat) (p : SetTable.Probe), p.more = r → adv t (r + 1) p = { p with j := (SetTable.leap t.mask p.i p.perturb).1, more := SetTable.runEnd t.mask (SetTable.leap t.mask p.i p.perturb).1 - (SetTable.leap t.mask p.i p.perturb).1, i := (SetTable.leap t.mask p.i p.perturb).1, perturb := (SetTable.leap t.mask p.i p.perturb).2 }
  | 0, p, h => by
    show t.advance p = _
    unfold SetTable.advance
    rw [if_neg (by omega)]
  | r + 1, p, h => by
    show adv t (r + 1) (t.advance p) = _
    have e : t.advance p = { p with j := p.j + 1, more := p.more - 1 } := by
      unfold SetTable.advance
      rw [if_pos (by omega)]
    rw [e, adv_run t r _ (by show p.more - 1 = r; omega)]
theorem adv_leap (t : SetTable) (s : Nat × Nat) : ∃ k, k ≤ 10 ∧ adv t k (at_ t s) = at_ t (SetTable.leap t.mask s.1 s.2) := by
  refine ⟨SetTable.runEnd t.mask s.1 - s.1 + 1, ?_, ?_⟩
  · unfold SetTable.runEnd
    split <;> omega
  · exact (adv_run t (SetTable.runEnd t.mask s.1 - s.1) (at_ t s) rfl).trans rfl
theorem adv_leaps (t : SetTable) : ∀ (n : Nat) (s : Nat × Nat), ∃ k, k ≤ 10 * n ∧ adv t k (at_ t s) = at_ t (lp t.mask n s)
  | 0, s => ⟨0, Nat.le_refl _, rfl⟩
  | n + 1, s => by
    obtain ⟨k1, h1, e1⟩ := adv_leap t s
    obtain ⟨k2, h2, e2⟩ := adv_leaps t n (SetTable.leap t.mask s.1 s.2)
    refine ⟨k1 + k2, by omega, ?_⟩
    rw [adv_add, e1, e2]
    rfl
theorem start_at (t : SetTable) (h : Int) : t.probeStart h = at_ t (SetTable.bits h % (t.mask + 1), SetTable.bits h) := rfl
theorem probe_meets {t : SetTable} (hm : Mask t.mask) {j : Nat} (hj : j ≤ t.mask) (h : Int) : ∃ K, K < 10 * SetTable.turns t.mask ∧ (adv t K (t.probeStart h)).j = j := by
  have h1 : SetTable.bits h % (t.mask + 1) ≤ t.mask := by
    have := Nat.mod_lt (SetTable.bits h) (show 0 < t.mask + 1 by omega)
    omega
  obtain ⟨n, hn, e⟩ := lp_reach hm h1 (bits_lt h) hj
  obtain ⟨K, hK, eK⟩ := adv_leaps t n (SetTable.bits h % (t.mask + 1), SetTable.bits h)
  refine ⟨K, by unfold SetTable.turns; omega, ?_⟩
  rw [start_at, eK]
  exact e
theorem slot_live {t : SetTable} {j i : Nat} (h : t.slot j = .live i) : t.place[i]? = some j := by
  unfold SetTable.slot at h
  dsimp only at h
  split at h
  · rename_i hq
    cases h
    exact eq_of_beq hq
  · split at h <;> cases h
theorem has_nil (j : Nat) : SetTable.has #[] j = false := rfl
theorem slot_cases {t : SetTable} (hd : t.dummies = #[]) (j : Nat) : t.slot j = .empty ∨ ∃ i, t.slot j = .live i := by
  unfold SetTable.slot
  dsimp only
  split
  · exact .inr ⟨_, rfl⟩
  · rw [hd, has_nil]
    exact .inl rfl
theorem range_sub : ∀ (n : Nat) (l : List Nat), (∀ j, j < n → j ∈ l) → n ≤ l.length
  | 0, l, _ => Nat.zero_le _
  | n + 1, l, h => by
    have hn := h n (Nat.lt_succ_self n)
    have := range_sub n (l.erase n) fun j hj => (List.mem_erase_of_ne (by omega)).mpr (h j (by omega))
    rw [List.length_erase_of_mem hn] at this
    have : 0 < l.length := List.length_pos_of_mem hn
    omega
theorem free_slot {t : SetTable} (hd : t.dummies = #[]) (h : t.place.size ≤ t.mask) : ∃ j, j ≤ t.mask ∧ t.slot j = .empty := by
  rcases Classical.em (∃ j, j ≤ t.mask ∧ t.slot j = .empty) with h1 | h1
  · exact h1
  · exfalso
    have := range_sub (t.mask + 1) t.place.toList fun j hj => by
      rcases slot_cases hd j with h2 | ⟨i, h2⟩
      · exact absurd ⟨j, by omega, h2⟩ h1
      · have := slot_live h2
        rw [← Array.getElem?_toList] at this
        exact List.mem_of_getElem? this
    rw [Array.length_toList] at this
    omega
theorem adv_dummy (t : SetTable) : ∀ n p, (adv t n p).dummy = p.dummy
  | 0, p => rfl
  | n + 1, p => by
    show (adv t n (t.advance p)).dummy = _
    rw [adv_dummy t n]
    unfold SetTable.advance
    split <;> rfl
theorem go_ok {t : SetTable} (hd : t.dummies = #[]) (hash : Nat → Int) (h : Int) : ∀ (K fuel : Nat) (p : SetTable.Probe), K < fuel → p.dummy = none → t.slot (adv t K p).j = .empty →
    (∃ j, SetTable.probe.go t hash h fuel p = some (.empty j none)) ∨ ∃ k j i, k < K ∧ SetTable.probe.go t hash h fuel p = some (.candidate j i (adv t (k + 1) p)) ∧ t.slot j = .live i := by
  intro K
  induction K with
  | zero =>
    intro fuel p hf hp hs
    obtain ⟨f, rfl⟩ : ∃ f, fuel = f + 1 := ⟨fuel - 1, by omega⟩
    refine .inl ⟨p.j, ?_⟩
    have hs' : t.slot p.j = .empty := hs
    unfold SetTable.probe.go
    rw [hs']
    dsimp only
    rw [hp]
  | succ K ih =>
    intro fuel p hf hp hs
    obtain ⟨f, rfl⟩ : ∃ f, fuel = f + 1 := ⟨fuel - 1, by omega⟩
    unfold SetTable.probe.go
    rcases slot_cases hd p.j with h1 | ⟨i, h1⟩
    · rw [h1]
      dsimp only
      rw [hp]
      exact .inl ⟨p.j, rfl⟩
    · rw [h1]
      dsimp only
      by_cases hq : (hash i == h) = true
      · rw [if_pos hq]
        exact .inr ⟨0, p.j, i, Nat.succ_pos _, rfl, h1⟩
      · rw [if_neg hq]
        have hp' : (t.advance p).dummy = none := by
          have := adv_dummy t 1 p
          rw [hp] at this
          exact this
        rcases ih f (t.advance p) (by omega) hp' hs with ⟨j, e⟩ | ⟨k, j, i', hk, e, hl⟩
        · exact .inl ⟨j, e⟩
        · exact .inr ⟨k + 1, j, i', by omega, e, hl⟩
theorem set_none_perm {α : Type} : ∀ {l : List (Option α)} {j : Nat} {k : α}, l[j]? = some none → ((l.set j (some k)).filterMap id).Perm (k :: l.filterMap id)
  | [], j, k, h => by cases h
  | x :: l, 0, k, h => by
    have : x = none := by simpa using h
    subst this
    exact .refl _
  | x :: l, j + 1, k, h => by
    have h' : l[j]? = some none := by simpa using h
    have ih := set_none_perm (k := k) h'
    cases x with
    | none => exact ih
    | some y => exact (List.Perm.cons y ih).trans (.swap _ _ _)
theorem set_none_len {α : Type} (l : List (Option α)) : (l.filterMap id).length + (l.filter (·.isNone)).length = l.length := by
  induction l with
  | nil => rfl
  | cons x l ih =>
    cases x <;> simp at ih ⊢ <;> omega
theorem free_some {m : Nat} (hm : Mask m) (owner : Array (Option Nat)) (hz : owner.size = m + 1) {j : Nat} (hj : owner[j]? = some none) : ∀ (fuel n i p : Nat), i ≤ m → n < fuel → (lp m n (i, p)).1 = j →
    ∃ j', SetTable.layClean.free m owner fuel i p = some j' ∧ owner[j']? = some none := by
  intro fuel
  induction fuel with
  | zero => intro n i p _ h; omega
  | succ fuel ih =>
    intro n i p hi hn he
    unfold SetTable.layClean.free
    split
    · rename_i k hk
      have h1 := List.find?_some hk
      have h2 := List.mem_range.mp (List.mem_of_find?_eq_some hk)
      refine ⟨i + k, rfl, ?_⟩
      have hb : i + k < owner.size := by
        rw [hz]
        unfold SetTable.runEnd at h2
        split at h2 <;> omega
      rw [Array.getElem?_eq_getElem hb]
      have : owner.getD (i + k) (some 0) = owner[i + k] := by
        rw [Array.getD_eq_getD_getElem?, Array.getElem?_eq_getElem hb]
        rfl
      rw [this] at h1
      congr 1
      cases hq : owner[i + k] with
      | none => rfl
      | some y => rw [hq] at h1; cases h1
    · rename_i hk
      cases n with
      | zero =>
        exfalso
        have h0 : i = j := he
        have := List.find?_eq_none.mp hk 0 (List.mem_range.mpr (by unfold SetTable.runEnd; split <;> omega))
        rw [Nat.add_zero, h0, Array.getD_eq_getD_getElem?, hj] at this
        simp at this
      | succ n =>
        have := lp_le m 1 (i, p) hi
        exact ih n (SetTable.leap m i p).1 (SetTable.leap m i p).2 this (by omega) he
noncomputable def layStep (mask : Nat) (acc : Option (Array (Option Nat) × Nat)) (h : Int) : Option (Array (Option Nat) × Nat) := do
  let (owner, k) ← acc
  let j ← SetTable.layClean.free mask owner (SetTable.turns mask) (SetTable.bits h % (mask + 1)) (SetTable.bits h)
  pure (owner.setIfInBounds j (some k), k + 1)
theorem some_none {l : List (Option Nat)} (h : (l.filterMap id).length < l.length) : ∃ j : Nat, l[j]? = some none := by
  have := set_none_len l
  have h1 : 0 < (l.filter (·.isNone)).length := by omega
  obtain ⟨x, hx⟩ := List.exists_mem_of_length_pos h1
  obtain ⟨hx1, hx2⟩ := List.mem_filter.mp hx
  have : x = none := by cases x <;> simp_all
  subst this
  obtain ⟨j, hj⟩ := List.getElem?_of_mem hx1
  exact ⟨j, hj⟩
theorem lay_fold {m : Nat} (hm : Mask m) : ∀ (hs : List Int) (owner : Array (Option Nat)) (k : Nat), owner.size = m + 1 → (owner.toList.filterMap id).Perm (List.range k) → k + hs.length ≤ m →
    ∃ owner', hs.foldl (layStep m) (some (owner, k)) = some (owner', k + hs.length) ∧ owner'.size = m + 1 ∧ (owner'.toList.filterMap id).Perm (List.range (k + hs.length))
  | [], owner, k, h1, h2, h3 => ⟨owner, rfl, h1, h2⟩
  | h :: hs, owner, k, h1, h2, h3 => by
    rw [List.length_cons] at h3 ⊢
    have hlt : (owner.toList.filterMap id).length < owner.toList.length := by
      rw [h2.length_eq, List.length_range, Array.length_toList, h1]
      omega
    obtain ⟨j, hj⟩ := some_none hlt
    rw [Array.getElem?_toList] at hj
    have hjm : j ≤ m := by
      have := (Array.getElem?_eq_some_iff.mp hj).1
      omega
    have hi : SetTable.bits h % (m + 1) ≤ m := by
      have := Nat.mod_lt (SetTable.bits h) (show 0 < m + 1 by omega)
      omega
    obtain ⟨n, hn, en⟩ := lp_reach hm hi (bits_lt h) hjm
    obtain ⟨j', e', hj'⟩ := free_some hm owner h1 hj (SetTable.turns m) n _ _ hi (by unfold SetTable.turns; omega) en
    have step : layStep m (some (owner, k)) h = some (owner.setIfInBounds j' (some k), k + 1) := by
      unfold layStep
      simp [e']
    rw [List.foldl_cons, step]
    have hp : ((owner.setIfInBounds j' (some k)).toList.filterMap id).Perm (List.range (k + 1)) := by
      rw [Array.toList_setIfInBounds]
      rw [← Array.getElem?_toList] at hj'
      refine (set_none_perm hj').trans ?_
      rw [List.range_succ]
      exact (List.Perm.cons k h2).trans (List.perm_append_comm (l₁ := [k]) (l₂ := List.range k))
    obtain ⟨o', f1, f2, f3⟩ := lay_fold hm hs (owner.setIfInBounds j' (some k)) (k + 1) (by simpa using h1) hp (by omega)
    exact ⟨o', by rw [f1]; congr 2; omega, f2, by rw [show k + (hs.length + 1) = k + 1 + hs.length by omega]; exact f3⟩
theorem relaid_ok (t : SetTable) {hashes : Array Int} {wanted m : Nat} (hm : Mask m) (hw : SetTable.sizeAbove wanted - 1 = m) (hn : hashes.size ≤ m) :
    ∃ t' order, t.relaid hashes wanted = some (t', order) ∧ t'.place.size = hashes.size ∧ t'.dummies = #[] ∧ t'.mask = m ∧ order.toList.Perm (List.range hashes.size) := by
  obtain ⟨o', f1, f2, f3⟩ := lay_fold hm hashes.toList (Array.replicate (m + 1) none) 0 (by simp) (by simp) (by rw [Array.length_toList]; omega)
  rw [Array.length_toList, Nat.zero_add] at f1 f3
  have hlay : SetTable.layClean m hashes = some o' := by
    show (hashes.foldl (layStep m) (some (Array.replicate (m + 1) none, 0))).map (·.1) = some o'
    rw [← Array.foldl_toList, f1]
    rfl
  have hsnd : ((List.range (m + 1)).filterMap fun j => (o'.getD j none).map (j, ·)).map (·.2) = o'.toList.filterMap id := by
    rw [List.map_filterMap]
    have : o'.toList = (List.range (m + 1)).map fun j => o'.getD j none := by
      apply List.ext_getElem
      · rw [Array.length_toList, List.length_map, List.length_range, f2]
      · intro i h1 h2
        rw [Array.length_toList] at h1
        simp [h1]
    rw [this, List.filterMap_map]
    congr 1
    funext j
    show ((o'.getD j none).map (j, ·)).map (·.2) = o'.getD j none
    cases o'.getD j none <;> rfl
  have hrel : t.relaid hashes wanted = some (({ mask := m, place := (((List.range (m + 1)).filterMap fun j => (o'.getD j none).map (j, ·)).map (·.1)).toArray, dummies := #[], finger := t.finger, led := t.led, moves := t.movedTo m, plain := t.plain } : SetTable), (((List.range (m + 1)).filterMap fun j => (o'.getD j none).map (j, ·)).map (·.2)).toArray) := by
    unfold SetTable.relaid
    rw [hw]
    unfold SetTable.laid
    rw [hlay]
    rfl
  refine ⟨_, _, hrel, ?_, rfl, rfl, ?_⟩
  · show (((List.range (m + 1)).filterMap fun j => (o'.getD j none).map (j, ·)).map (·.1)).toArray.size = _
    rw [List.size_toArray, List.length_map]
    have := congrArg List.length hsnd
    rw [List.length_map, f3.length_eq, List.length_range] at this
    exact this
  · show (((List.range (m + 1)).filterMap fun j => (o'.getD j none).map (j, ·)).map (·.2)).toArray.toList.Perm _
    rw [List.toList_toArray, hsnd]
    exact f3
theorem insertAt_size {α : Type} (xs : Array α) (p : Nat) (x : α) : (SetTable.insertAt xs p x).size = xs.size + 1 := by
  unfold SetTable.insertAt
  simp
  omega
theorem insertAt_mem {α : Type} {xs : Array α} {p : Nat} {x e : α} (h : e ∈ (SetTable.insertAt xs p x).toList) : e = x ∨ e ∈ xs.toList := by
  unfold SetTable.insertAt at h
  simp only [Array.toList_append, Array.toList_push, Array.toList_extract, List.mem_append, List.mem_singleton] at h
  rcases h with (h | h) | h
  · exact .inr (List.mem_of_mem_take (by simpa using h))
  · exact .inl h
  · exact .inr (List.mem_of_mem_drop (List.mem_of_mem_take h))
theorem above20 : SetTable.sizeAbove 20 - 1 = 31 := by decide +kernel
theorem above76 : SetTable.sizeAbove 76 - 1 = 127 := by decide +kernel
theorem above308 : SetTable.sizeAbove 308 - 1 = 511 := by decide +kernel
end Tb
set_option Elab.async false
set_option linter.all false
set_option maxRecDepth 100000
set_option maxHeartbeats 4000000
namespace L2
open PySem PySem.Spec PyProof.Rows
section
variable {P : Program} {w : World} {A : Around} {E : Value → Shared → Prop} {s : Shared} {K : Type} [DecidableEq K] {knd : KeyKind P w K}
theorem items_plain {ks : List K} {vs : List Value} (h : ItemsAre knd ks vs) : ∀ v ∈ vs, ∀ b, v ≠ .ref b := fun v hv b e => by
  have := h.byValue v hv
  subst e
  cases this
theorem notClass_plain (n : Nat) {v : Value} (h : ∀ b, v ≠ .ref b) : ofAClassStatement n v = pure false := by
  cases v with
  | ref b => exact absurd rfl (h b)
  | _ => unfold ofAClassStatement; rfl
theorem notClass_tuple {ks : List K} {b : Addr} {Q : Bool → Shared → Prop} (hk : IsTupleKey knd s.heap ks b) (h : Q false s) : wpAny (model P w) A (ofAClassStatement 8 (.ref b)) Q E s := by
  have hT := hk.typeIs
  obtain ⟨o, items, n, ho, hc, hd, hi⟩ := hk
  unfold ofAClassStatement
  refine wpAny_bind (wpAny_typeOf hT ?_)
  dsimp only
  refine wpAny_bind (wpAny_pure ?_)
  simp only [Bool.not_true, Bool.false_eq_true, if_false]
  refine wpAny_bind (wpAny_seqItems ho hd ?_)
  dsimp only
  refine wpAny_bind ?_
  rw [← Array.forIn_toList]
  refine wpAny_forIn_list _ (fun rest r s' => r.1 = none ∧ s' = s ∧ ∀ v ∈ rest, ∀ b, v ≠ .ref b) _ ?_ ?_ _ _ ⟨rfl, rfl, items_plain hi⟩
  · rintro v rest r s' ⟨hr, rfl, hall⟩
    rw [notClass_plain _ (hall v List.mem_cons_self)]
    refine wpAny_bind (wpAny_pure ?_)
    simp only [Bool.false_eq_true, if_false]
    exact wpAny_pure ⟨rfl, rfl, fun u hu => hall u (List.mem_cons_of_mem _ hu)⟩
  · rintro ⟨r1, r2⟩ s' ⟨hr, rfl, _⟩
    simp only at hr
    subst hr
    exact wpAny_pure h
theorem unseen {ks : List K} {b : Addr} {l : List Value} {Q : Bool → Shared → Prop} (hk : IsTupleKey knd s.heap ks b) (hl : ∀ y ∈ l, ∃ b' k', y = .ref b' ∧ IsTupleKey knd s.heap k' b') (h : Q false s) : wpAny (model P w) A (searchCouldBeSeen (.ref b) l) Q E s := by
  unfold searchCouldBeSeen
  refine wpAny_bind ?_
  refine wpAny_forIn_list _ (fun rest r s' => r.1 = none ∧ s' = s ∧ ∀ y ∈ rest, ∃ b' k', y = .ref b' ∧ IsTupleKey knd s.heap k' b') _ ?_ ?_ _ _ ⟨rfl, rfl, hl⟩
  · rintro v rest r s' ⟨hr, rfl, hall⟩
    obtain ⟨b', k', rfl, hk'⟩ := hall v List.mem_cons_self
    have next : ∀ y ∈ rest, ∃ b' k', y = .ref b' ∧ IsTupleKey knd s'.heap k' b' := fun y hy => hall y (List.mem_cons_of_mem _ hy)
    dsimp only
    split
    · exact wpAny_pure ⟨rfl, rfl, next⟩
    · refine wpAny_bind (wpAny_eqIsQuiet_tuple hk ?_)
      simp only [Bool.not_true, Bool.false_eq_true, if_false]
      refine wpAny_bind (wpAny_eqIsQuiet_tuple hk' ?_)
      simp only [Bool.not_true, Bool.false_eq_true, if_false]
      refine wpAny_bind (notClass_tuple hk ?_)
      simp only [Bool.false_eq_true, if_false]
      refine wpAny_bind (notClass_tuple hk' ?_)
      simp only [Bool.false_eq_true, if_false]
      exact wpAny_pure ⟨rfl, rfl, next⟩
  · rintro ⟨r1, r2⟩ s' ⟨hr, rfl, _⟩
    simp only at hr
    subst hr
    exact wpAny_pure h
theorem search_ok {a b : Addr} {k : List K} {h : Int} {o : Obj} {es : Array (Int × Value)} {ep : Nat} {t : SetTable} (hu : A.units < cLine) (hk : IsTupleKey knd s.heap k b) (ho : s.heap.get? a = some o) (hd : o.data = .set es ep t) (hf : t.fits es.size = true) (hm : Tb.Mask t.mask) (hdm : t.dummies = #[])
    (hall : ∀ e ∈ es.toList, ∃ b' k', e.2 = .ref b' ∧ IsTupleKey knd s.heap k' b' ∧ k' ≠ k) {Q : SetFound → Shared → Prop} (hQ : ∀ j, Q (.free j false) s) :
    ∀ (K fuel : Nat) (stand : Option SetTable.Probe), K < fuel → K < 10 * SetTable.turns t.mask → (stand.getD (t.probeStart h)).dummy = none → t.slot (Tb.adv t K (stand.getD (t.probeStart h))).j = .empty →
      wpAny (model P w) A (setSearchFrom a (.ref b) h true fuel stand) Q E s := by
  intro K
  induction K using Nat.strongRecOn with
  | ind K ih =>
    intro fuel stand hfu hK hdu hs
    obtain ⟨f, rfl⟩ : ∃ f, fuel = f + 1 := ⟨fuel - 1, by omega⟩
    unfold setSearchFrom
    refine wpAny_bind (wpAny_setState_of ho hd hf ?_)
    dsimp only
    have hg : t.gaveWay = false := by
      unfold SetTable.gaveWay
      rcases hm with e | e | e | e <;> rw [e] <;> rfl
    have hsz : t.place.size = es.size := by
      simp only [SetTable.fits, Bool.and_eq_true, beq_iff_eq] at hf
      exact hf.1
    have hsm : t.sameMemory t.moves t.mask = some true := by
      unfold SetTable.sameMemory
      rw [if_pos (beq_self_eq_true _)]
    rw [hg]
    simp only [Bool.false_eq_true, if_false]
    generalize hr : t.probe _ h (stand.getD (t.probeStart h)) = r
    obtain ⟨g, hr⟩ : ∃ g, SetTable.probe.go t g h (10 * SetTable.turns t.mask) (stand.getD (t.probeStart h)) = r := ⟨_, hr⟩
    rcases Tb.go_ok hdm g h K _ _ hK hdu hs with ⟨j, e⟩ | ⟨k', j, i, hk', e, hl⟩
    · rw [e] at hr
      subst hr
      exact wpAny_pure (hQ j)
    · rw [e] at hr
      subst hr
      have hpl := Tb.slot_live hl
      have hi : i < es.size := by
        rw [← hsz]
        exact (Array.getElem?_eq_some_iff.mp hpl).1
      have hmem : es[i] ∈ es.toList := by simp
      obtain ⟨b', k2, hy, hk2, hne⟩ := hall _ hmem
      have hes : es[i]? = some (es[i].1, .ref b') := by
        rw [Array.getElem?_eq_getElem hi, ← hy]
      have hst : ∀ y ∈ ((es.filter fun x => x.1 == h).toList.map fun x => x.2), ∃ b' k', y = Value.ref b' ∧ IsTupleKey knd s.heap k' b' := fun y hy => by
        obtain ⟨e0, he0, rfl⟩ := List.mem_map.mp hy
        have he1 : e0 ∈ es.toList := by
          have := Array.mem_toList_iff.mp he0
          exact Array.mem_toList_iff.mpr (Array.mem_filter.mp this).1
        obtain ⟨b3, k3, h1, h2, _⟩ := hall e0 he1
        exact ⟨b3, k3, h1, h2⟩
      have again : wpAny (model P w) A (setSearchFrom a (.ref b) h true f (some (Tb.adv t (k' + 1) (stand.getD (t.probeStart h))))) Q E s := by
        refine ih (K - (k' + 1)) (by omega) f _ (by omega) (by omega) ?_ ?_
        · show (Tb.adv t (k' + 1) _).dummy = none
          rw [Tb.adv_dummy]
          exact hdu
        · show t.slot (Tb.adv t (K - (k' + 1)) (Tb.adv t (k' + 1) _)).j = _
          rw [← Tb.adv_add, show k' + 1 + (K - (k' + 1)) = K by omega]
          exact hs
      have same : isSame (Value.ref b') (Value.ref b') = pure true := by
        unfold isSame
        simp
      dsimp only
      cases hled : t.led
      · simp only [Bool.not_false, if_true]
        refine wpAny_bind (unseen hk hst ?_)
        simp only [Bool.false_eq_true, if_false]
        rw [hes]
        dsimp only
        refine wpAny_bind (wpAny_holding (wpAny_eqBool_tuple hu hk2 hk ?_))
        rw [decide_eq_false hne]
        refine wpAny_bind (wpAny_setState_of ho hd hf ?_)
        dsimp only
        simp only [Bool.and_false, Bool.false_eq_true, if_false, hsm, if_true, hl, hes, same]
        exact wpAny_bind (wpAny_pure (wpAny_bind (wpAny_pure again)))
      · simp only [Bool.not_true, Bool.false_eq_true, if_false]
        rw [hes]
        dsimp only
        refine wpAny_bind (wpAny_holding (wpAny_eqBool_tuple hu hk2 hk ?_))
        rw [decide_eq_false hne]
        refine wpAny_bind (wpAny_setState_of ho hd hf ?_)
        dsimp only
        simp only [Bool.and_false, Bool.false_eq_true, if_false, hsm, if_true, hl, hes, same]
        exact wpAny_bind (wpAny_pure (wpAny_bind (wpAny_pure again)))
noncomputable def SetT (knd : KeyKind P w K) (h : Heap) (a : Addr) (ks : List (List K)) : Prop :=
  ∃ o es ep t, h.get? a = some o ∧ o.ExactSet ∧ o.data = .set es ep t ∧ t.place.size = es.size ∧ t.dummies = #[] ∧ Tb.Mask t.mask ∧ es.size * 5 < t.mask * 3 ∧ es.size = ks.length ∧ ∀ e ∈ es.toList, ∃ b k, e.2 = .ref b ∧ k ∈ ks ∧ IsTupleKey knd h k b
theorem key_stay {h h' : Heap} {a b : Addr} {k : List K} {o : Obj} {es : Array (Int × Value)} {ep : Nat} {t : SetTable} (hk : IsTupleKey knd h k b) (ho : h.get? a = some o) (hd : o.data = .set es ep t) (hs : Heap.SameBut a h h') : IsTupleKey knd h' k b := by
  obtain ⟨o', items, n, ho', hc, hd', hi⟩ := hk
  have hne : b ≠ a := by
    rintro rfl
    rw [ho] at ho'
    cases ho'
    rw [hd] at hd'
    cases hd'
  exact ⟨o', items, n, (hs.2 b hne).trans ho', hc, hd', hi⟩
theorem hashBy_plain (n : Nat) {v : Value} (h : ∀ b, v ≠ .ref b) : ∃ c, hashByValue n v = pure c := by
  cases v with
  | ref b => exact absurd rfl (h b)
  | _ => exact ⟨_, by cases n <;> unfold hashByValue <;> rfl⟩
theorem hashBy_tuple {ks : List K} {b : Addr} {Q : Bool → Shared → Prop} (hk : IsTupleKey knd s.heap ks b) (h : ∀ c, Q c s) : wpAny (model P w) A (hashByValue 8 (.ref b)) Q E s := by
  have hT := hk.typeIs
  obtain ⟨o, items, n, ho, hc, hd, hi⟩ := hk
  unfold hashByValue
  refine wpAny_bind (wpAny_specialOf hT F.slot_tuple_hash.lookup ?_)
  dsimp only
  refine wpAny_bind (wpAny_seqItems ho hd ?_)
  dsimp only [Option.getD_some]
  refine wpAny_bind ?_
  rw [← Array.forIn_toList]
  refine wpAny_forIn_list _ (fun rest r s' => (r.1 = none ∨ ∃ c, r.1 = some c) ∧ s' = s ∧ ∀ v ∈ rest, ∀ b, v ≠ .ref b) _ ?_ ?_ _ _ ⟨.inl rfl, rfl, items_plain hi⟩
  · rintro v rest r s' ⟨hr, rfl, hall⟩
    obtain ⟨c, hc'⟩ := hashBy_plain 7 (hall v List.mem_cons_self)
    rw [hc']
    refine wpAny_bind (wpAny_pure ?_)
    cases c
    · show wpAny _ _ (pure (ForInStep.done (some false, ()))) _ _ _
      exact wpAny_pure (wpAny_pure (h false))
    · simp only [Bool.not_true, Bool.false_eq_true, if_false]
      exact wpAny_pure ⟨.inl rfl, rfl, fun u hu => hall u (List.mem_cons_of_mem _ hu)⟩
  · rintro ⟨r1, r2⟩ s' ⟨hr, rfl, _⟩
    simp only at hr
    rcases hr with rfl | ⟨c, rfl⟩
    · exact wpAny_pure (h true)
    · exact wpAny_pure (h c)
theorem reorder_ok {α : Type} {es : Array α} {order : Array Nat} (h : order.toList.Perm (List.range es.size)) : (order.filterMap (es[·]?)).size = es.size ∧ ∀ e ∈ (order.filterMap (es[·]?)).toList, e ∈ es.toList := by
  have key : ∀ l : List Nat, (∀ i ∈ l, i < es.size) → (l.filterMap (es[·]?)).length = l.length ∧ ∀ e ∈ l.filterMap (es[·]?), e ∈ es.toList := by
    intro l
    induction l with
    | nil => intro _; exact ⟨rfl, fun e he => by cases he⟩
    | cons x l ih =>
      intro hl
      obtain ⟨i1, i2⟩ := ih fun i hi => hl i (List.mem_cons_of_mem _ hi)
      have hx := hl x List.mem_cons_self
      have e : (x :: l).filterMap (es[·]?) = es[x] :: l.filterMap (es[·]?) := by
        rw [List.filterMap_cons]
        simp [hx]
      rw [e]
      refine ⟨by rw [List.length_cons, List.length_cons, i1], fun y hy => ?_⟩
      rcases List.mem_cons.mp hy with rfl | hy
      · simp
      · exact i2 y hy
  have hlt : ∀ i ∈ order.toList, i < es.size := fun i hi => List.mem_range.mp (h.mem_iff.mp hi)
  obtain ⟨k1, k2⟩ := key order.toList hlt
  rw [Array.toList_filterMap]
  refine ⟨?_, k2⟩
  rw [← Array.length_toList, Array.toList_filterMap, k1, h.length_eq, List.length_range]
theorem add_tail {a : Addr} {o : Obj} {es es1 : Array (Int × Value)} {ep n : Nat} {t t1 : SetTable} {ks1 : List (List K)} {Q : Bool → Shared → Prop} (ho : s.heap.get? a = some o) (hex : o.ExactSet) (hd : o.data = .set es ep t) (hs1 : es1.size = n + 1) (hp1 : t1.place.size = es1.size) (hdm1 : t1.dummies = #[])
    (hm1 : Tb.Mask t1.mask) (hfull : n * 5 < t1.mask * 3) (hn : n < 200) (hlen : ks1.length = n + 1) (hall1 : ∀ e ∈ es1.toList, ∃ b k, e.2 = .ref b ∧ k ∈ ks1 ∧ IsTupleKey knd s.heap k b)
    (h : ∀ h', Heap.SameBut a s.heap h' → SetT knd h' a ks1 → Q true { s with heap := h' }) :
    wpAny (model P w) A (do
      storeSet a es1 t1
      if (!false && t1.tooFull) = true then do
        setRelay a (SetTable.grown (n + 1))
        pure true
      else pure true) Q E s := by
  have hline : n + 1 ≤ sizeLine := Nat.le_trans (show n + 1 ≤ 1000 by omega) (by decide)
  refine wpAny_bind (wpAny_storeSet_of ho hd ?_ (by omega))
  have ho1 : (s.heap.update a (Obj.putSet es1 t1)).get? a = some { o with data := .set es1 (ep + 1) t1 } := by
    have := Heap.get?_update_self (Obj.putSet es1 t1) ho (by rw [putSet_of es1 t1 hd]; rfl)
    rw [putSet_of es1 t1 hd] at this
    exact this
  have hsb1 := Heap.SameBut.update s.heap a (Obj.putSet es1 t1)
  generalize s.heap.update a (Obj.putSet es1 t1) = h1 at ho1 hsb1
  have hall2 : ∀ e ∈ es1.toList, ∃ b k, e.2 = .ref b ∧ k ∈ ks1 ∧ IsTupleKey knd h1 k b := fun e he => by
    obtain ⟨b, k, z1, z2, z3⟩ := hall1 e he
    exact ⟨b, k, z1, z2, key_stay z3 ho hd hsb1⟩
  have hfill : t1.fill = n + 1 := by
    unfold SetTable.fill
    rw [hdm1, hp1, hs1]
    rfl
  by_cases hq : t1.tooFull = true
  · rw [hq]
    simp only [Bool.not_false, Bool.and_self, if_true]
    have hq' : t1.mask * 3 ≤ (n + 1) * 5 := by
      unfold SetTable.tooFull at hq
      rw [hfill] at hq
      simpa using hq
    obtain ⟨m, hm, hw, hmn, hlt⟩ : ∃ m, Tb.Mask m ∧ SetTable.sizeAbove (SetTable.grown (n + 1)) - 1 = m ∧ n + 1 ≤ m ∧ (n + 1) * 5 < m * 3 ∧ SetTable.sizeAbove (SetTable.grown (n + 1)) ≤ sizeLine := by
      have hg : SetTable.grown (n + 1) = (n + 1) * 4 := by
        unfold SetTable.grown
        rw [if_neg (by omega)]
      rw [hg]
      rcases hm1 with e | e | e | e <;> rw [e] at hfull hq'
      · obtain rfl : n = 4 := by omega
        exact ⟨31, .inr (.inl rfl), Tb.above20, by omega, by omega, by decide +kernel⟩
      · obtain rfl : n = 18 := by omega
        exact ⟨127, .inr (.inr (.inl rfl)), Tb.above76, by omega, by omega, by decide +kernel⟩
      · obtain rfl : n = 76 := by omega
        exact ⟨511, .inr (.inr (.inr rfl)), Tb.above308, by omega, by omega, by decide +kernel⟩
      · omega
    have hfit1 : t1.fits es1.size = true := by
      simp only [SetTable.fits, Bool.and_eq_true, beq_iff_eq, decide_eq_true_eq]
      refine ⟨hp1, ?_⟩
      rw [hfill]
      rcases hm1 with e | e | e | e <;> omega
    obtain ⟨t2, order, hrel, hp2, hd2, hm2, hperm⟩ := Tb.relaid_ok t1 (hashes := es1.map (·.1)) hm hw (by rw [Array.size_map]; omega)
    rw [Array.size_map] at hp2 hperm
    obtain ⟨r1, r2⟩ := reorder_ok hperm
    refine wpAny_bind ?_
    unfold setRelay
    refine wpAny_bind (wpAny_setState_of (s := { s with heap := h1 }) ho1 rfl hfit1 ?_)
    dsimp only
    rw [if_neg (Nat.not_lt.mpr hlt.2), hrel]
    refine wpAny_bind ?_
    show wpAny _ _ (do
      if (order.filterMap (es1[·]?)).size != es1.size then unsupported "internal:set-table-lost-an-element"
      pure (order.filterMap (es1[·]?), t2)) _ _ _
    rw [r1]
    simp only [bne_self_eq_false, Bool.false_eq_true, if_false]
    refine wpAny_pure ?_
    dsimp only
    refine wpAny_storeSet_of (s := { s with heap := h1 }) ho1 rfl ?_ (by rw [r1]; omega)
    have ho2 : (h1.update a (Obj.putSet (order.filterMap (es1[·]?)) t2)).get? a = some { o with data := .set (order.filterMap (es1[·]?)) (ep + 1 + 1) t2 } := by
      have := Heap.get?_update_self (Obj.putSet (order.filterMap (es1[·]?)) t2) ho1 (by rw [putSet_of _ _ (o := { o with data := .set es1 (ep + 1) t1 }) rfl]; rfl)
      rw [putSet_of _ _ (o := { o with data := .set es1 (ep + 1) t1 }) rfl] at this
      exact this
    have hsb2 := Heap.SameBut.update h1 a (Obj.putSet (order.filterMap (es1[·]?)) t2)
    refine wpAny_pure (h _ (hsb1.trans hsb2) ⟨_, _, _, t2, ho2, hex, rfl, by rw [r1]; exact hp2, hd2, by rw [hm2]; exact hm, by rw [r1, hm2, hs1]; exact hlt.1, by rw [r1, hs1, hlen], fun e he => ?_⟩)
    obtain ⟨b, k, z1, z2, z3⟩ := hall2 e (r2 e he)
    exact ⟨b, k, z1, z2, key_stay z3 ho1 rfl hsb2⟩
  · have hq0 : t1.tooFull = false := by simpa using hq
    rw [hq0]
    simp only [Bool.and_false, Bool.false_eq_true, if_false]
    have hq' : (n + 1) * 5 < t1.mask * 3 := by
      unfold SetTable.tooFull at hq0
      rw [hfill] at hq0
      simpa using hq0
    exact wpAny_pure (h h1 hsb1 ⟨_, es1, _, t1, ho1, hex, rfl, hp1, hdm1, hm1, by rw [hs1]; exact hq', by rw [hs1, hlen], hall2⟩)
theorem add_ok {a b : Addr} {k : List K} {ks : List (List K)} {hsh : Int} {Q : Bool → Shared → Prop} (hu : A.units < cLine) (hk : IsTupleKey knd s.heap k b) (hS : SetT knd s.heap a ks) (hnew : k ∉ ks) (hsz : ks.length < 200)
    (h : ∀ h', Heap.SameBut a s.heap h' → SetT knd h' a (k :: ks) → Q true { s with heap := h' }) : wpAny (model P w) A (setAddHashed a (.ref b) hsh) Q E s := by
  obtain ⟨o, es, ep, t, ho, hex, hd, hp, hdm, hm, hfull, hlen, hall⟩ := hS
  have hle : es.size ≤ t.mask := by omega
  have hf : t.fits es.size = true := by
    simp only [SetTable.fits, Bool.and_eq_true, beq_iff_eq, decide_eq_true_eq]
    refine ⟨hp, ?_⟩
    unfold SetTable.fill
    rw [hdm, hp]
    simpa using hle
  obtain ⟨j0, hj0, hs0⟩ := Tb.free_slot hdm (by rw [hp]; exact hle)
  obtain ⟨N, hN, eN⟩ := Tb.probe_meets hm hj0 hsh
  have hall' : ∀ e ∈ es.toList, ∃ b' k', e.2 = .ref b' ∧ IsTupleKey knd s.heap k' b' ∧ k' ≠ k := fun e he => by
    obtain ⟨b', k', h1, h2, h3⟩ := hall e he
    exact ⟨b', k', h1, h3, fun z => hnew (z ▸ h2)⟩
  unfold setAddHashed setAddHashedIn
  refine wpAny_holding (wpAny_bind (wpAny_setState_of ho hd hf ?_))
  dsimp only
  have hsc : byScan (.ref b) es = false := rfl
  rw [hsc]
  simp only [Bool.false_eq_true, if_false]
  unfold setSearch
  have hturn : 10 * SetTable.turns t.mask < 100000 := by
    unfold SetTable.turns
    rcases hm with e | e | e | e <;> rw [e] <;> decide
  refine wpAny_bind (search_ok hu hk ho hd hf hm hdm hall' (fun j => ?_) N 100000 none (by omega) hN rfl (by show t.slot (Tb.adv t N (t.probeStart hsh)).j = _; rw [eN]; exact hs0))
  dsimp only
  refine wpAny_bind (wpAny_setState_of ho hd hf ?_)
  dsimp only
  have hput : (t.put j).1.place.size = es.size + 1 ∧ (t.put j).1.dummies = #[] ∧ (t.put j).1.mask = t.mask := by
    refine ⟨?_, ?_, rfl⟩
    · show (SetTable.insertAt t.place (SetTable.below t.place j) j).size = _
      rw [Tb.insertAt_size, hp]
    · show (if SetTable.has t.dummies j = true then _ else t.dummies) = #[]
      rw [hdm, Tb.has_nil]
      rfl
  have hins : ∀ e ∈ (SetTable.insertAt es (t.put j).2 (hsh, Value.ref b)).toList, ∃ b' k', e.2 = .ref b' ∧ k' ∈ k :: ks ∧ IsTupleKey knd s.heap k' b' := fun e he => by
    rcases Tb.insertAt_mem he with rfl | he
    · exact ⟨b, k, rfl, List.mem_cons_self, hk⟩
    · obtain ⟨b', k', z1, z2, z3⟩ := hall e he
      exact ⟨b', k', z1, List.mem_cons_of_mem _ z2, z3⟩
  have fin : ∀ c : Bool, wpAny (model P w) A (do
      storeSet a (SetTable.insertAt es (t.put j).2 (hsh, Value.ref b)) (if c = true then (t.put j).1 else { (t.put j).1 with plain := false })
      if (!false && (if c = true then (t.put j).1 else { (t.put j).1 with plain := false }).tooFull) = true then do
        setRelay a (SetTable.grown (es.size + 1))
        pure true
      else pure true) Q E s := fun c => by
    refine add_tail (ks1 := k :: ks) ho hex hd (Tb.insertAt_size _ _ _) ?_ ?_ ?_ ?_ (by omega) (by rw [List.length_cons, hlen]) hins h
    · rw [Tb.insertAt_size]
      cases c <;> exact hput.1
    · cases c <;> exact hput.2.1
    · cases c <;> exact hm
    · cases c <;> exact hfull
  cases hpl : (t.put j).1.plain
  · simp only [Bool.false_eq_true, if_false]
    exact wpAny_bind (wpAny_pure (fin true))
  · simp only [if_true]
    exact wpAny_bind (hashBy_tuple hk fin)
end
section
variable {P : Program} {w : World} {A : Around} {K : Type} [DecidableEq K] {knd : KeyKind P w K} {I : Addr} {fp wr : List Addr} {G : Array GenState → Array GenState → Prop} {n : Nat} {Pz : Nat → Value → Prop} {St : Nat → Shared → Prop}
theorem SetT.moved {h h' : Heap} {a : Addr} {ks : List (List K)} {wr : List Addr} (hS : SetT knd h a ks) (hk : ∀ b o, b ∉ wr → h.get? b = some o → h'.get? b = some o) (ha : a ∉ wr) (hw : ∀ b ∈ wr, ∀ o, h.get? b = some o → ∃ vs, o.data = .fields vs) : SetT knd h' a ks := by
  obtain ⟨o, es, ep, t, ho, hex, hd, h1, h2, h3, h4, h5, hall⟩ := hS
  refine ⟨o, es, ep, t, hk a o ha ho, hex, hd, h1, h2, h3, h4, h5, fun e he => ?_⟩
  obtain ⟨b, k, z1, z2, o', items, m, ho', hc, hd', hi⟩ := hall e he
  refine ⟨b, k, z1, z2, o', items, m, hk b o' (fun hb => ?_) ho', hc, hd', hi⟩
  obtain ⟨vs, hv⟩ := hw b hb o' ho'
  rw [hd'] at hv
  cases hv
theorem set_loop (W : WalksS P w A.in1 I fp wr G n Pz St) (S : Addr) (hS : S ∉ fp) (hu : A.in1.units < cLine) (bs : List Addr) (kk : List (List K)) (hnk : kk.length = n) (hnd : kk.Nodup) (hsz : n < 200)
    (hval : ∀ i v, Pz i v → ∃ b, v = .ref b ∧ bs[i]? = some b) (hwr : ∀ i s, St i s → ∀ b ∈ wr, ∀ o, s.heap.get? b = some o → ∃ vs, o.data = .fields vs) {R : Result → Shared → Prop} :
    ∀ (m i : Nat) (s : Shared), n - i = m → i ≤ n → St i s → SetT knd s.heap S (kk.take i).reverse → (∀ (j : Nat) (b : Addr) (k : List K), bs[j]? = some b → kk[j]? = some k → IsTupleKey knd s.heap k b) →
      (∀ s', Moved (S :: wr) G s s' → SetT knd s'.heap S kk.reverse → R (.ok (.ret .none)) s') →
      codeAny (model P w) A (.builtin "set.update.loop" ⟨[.ref S, .ref I], []⟩) R s := by
  have hSw : S ∉ wr := fun z => hS (W.sub _ z)
  have more : ∀ b ∈ wr, b ∈ S :: wr := fun b z => List.mem_cons_of_mem _ z
  intro m
  induction m with
  | zero =>
    intro i s hm hi hst hset hkeys hR
    obtain rfl : i = n := by omega
    refine codeAny_builtin F.entry_set_update_loop ?_
    rw [Around.under_plainId F.plain_set_update_loop _]
    show wpAny _ A.in1 (pyNext (.ref I) >>= _) _ _ s
    refine wpAny_bind (W.done s _ _ hst fun s' mv => ?_)
    rw [← hnk, List.take_length] at hset
    exact wpAny_pure (hR s' (mv.mono more) (hset.moved mv.heap hSw (hwr _ s hst)))
  | succ m ih =>
    intro i s hm hi hst hset hkeys hR
    have hlt : i < n := by omega
    refine codeAny_builtin F.entry_set_update_loop ?_
    rw [Around.under_plainId F.plain_set_update_loop _]
    show wpAny _ A.in1 (pyNext (.ref I) >>= _) _ _ s
    refine wpAny_bind (W.item i s _ _ hlt hst fun v s' hP hst' mv => ?_)
    obtain ⟨b, rfl, hb⟩ := hval i v hP
    have hki : kk[i]? = some kk[i] := List.getElem?_eq_getElem (by omega)
    have hset' := hset.moved mv.heap hSw (hwr _ s hst)
    have hkeys' : ∀ (j : Nat) (b : Addr) (k : List K), bs[j]? = some b → kk[j]? = some k → IsTupleKey knd s'.heap k b := fun j b k e1 e2 => by
      obtain ⟨o', items, q, ho', hc, hd', hi'⟩ := hkeys j b k e1 e2
      refine ⟨o', items, q, mv.heap b o' (fun hbw => ?_) ho', hc, hd', hi'⟩
      obtain ⟨vs, hv⟩ := hwr _ s hst b hbw o' ho'
      rw [hd'] at hv
      cases hv
    show wpAny _ A.in1 (holding [Value.ref b] (setAdd S (.ref b)) >>= _) _ _ s'
    refine wpAny_bind (wpAny_holding ?_)
    unfold setAdd
    refine wpAny_holding (wpAny_bind (wpAny_pyHash_tuple hu (hkeys' i b _ hb hki) ?_))
    have hnew : kk[i] ∉ (kk.take i).reverse := by
      rw [List.mem_reverse]
      intro z
      obtain ⟨q, hq, e⟩ := List.mem_iff_getElem.mp z
      rw [List.length_take] at hq
      rw [List.getElem_take] at e
      have := (List.getElem_inj hnd).mp e
      omega
    have htk : (kk.take (i + 1)).reverse = kk[i] :: (kk.take i).reverse := by
      rw [List.take_add_one, hki, List.reverse_append]
      rfl
    refine add_ok (s := { s' with toks := s'.toks + (kk[i].length + 1) }) hu (hkeys' i b _ hb hki) hset' hnew (by rw [List.length_reverse, List.length_take]; omega) fun h' sb hset2 => ?_
    obtain ⟨oS, esS, epS, tS, hoS, _, hdS, _⟩ := id hset'
    refine wpAny_pure ⟨plainId_quiet F.plain_set_update_loop _, ih (i + 1) _ (by omega) hlt (W.frame _ s' _ _ hst' (Nat.le_add_right _ _) fun c hc o e => ?_) (by rw [htk]; exact hset2) (fun j c k e1 e2 => key_stay (hkeys' j c k e1 e2) hoS hdS sb) fun s'' mv2 hS2 => ?_⟩
    · rw [sb.2 c (fun z : c = S => hS (z ▸ hc))]
      exact e
    · refine hR s'' (Moved.trans W.gtrans ((mv.mono more).then_heap (Nat.le_add_right _ _) fun c o hc e => ?_) mv2) hS2
      rw [sb.2 c (fun z : c = S => hc (by rw [z]; exact List.mem_cons_self))]
      exact e
end
end L2
set_option Elab.async false
set_option linter.all false
set_option maxRecDepth 100000
set_option maxHeartbeats 4000000
namespace L2
open PySem PySem.Spec PyProof.Rows
section
variable {P : Program} {w : World} {A : Around} {E : Value → Shared → Prop} {s : Shared} {K : Type} [DecidableEq K] {knd : KeyKind P w K}
noncomputable abbrev setO (led : Bool) : Obj := { cls := .type "set", dict := none, data := .set #[] 0 (.fresh 0 0 led) }
noncomputable def SetMade (knd : KeyKind P w K) (s : Shared) (kk : List (List K)) (h' : Heap) : Prop :=
  SetT knd h' s.heap.objs.size kk.reverse ∧ ∀ b o, b < s.heap.objs.size → s.heap.get? b = some o → h'.get? b = some o
theorem sub_tup_fz : isSubtype (.type "tuple") (.type "frozenset") = pure false := by
  rw [isSubtype_type]
  kernel_rfl
theorem set_of_tuple {t : Addr} {ys : Array Value} {bs : List Addr} {kk : List (List K)} {Q : Value → Shared → Prop} (hA : A.handled = none) (hu : A.units + 5 < cLine) (gt : s.heap.IsTuple t ys) (hb : ys.toList = bs.map Value.ref)
    (hn : kk.length = ys.size) (hnd : kk.Nodup) (hz : ys.size < 200) (hkey : ∀ (j : Nat) (b : Addr) (k : List K), bs[j]? = some b → kk[j]? = some k → IsTupleKey knd s.heap k b)
    (h : ∀ (h' : Heap) (tk : Nat), SetMade knd s kk h' → Q (.ref s.heap.objs.size) { s with heap := h', toks := tk }) : wpAny (model P w) A (call (.type "set") [.ref t]) Q E s := by
  have x1 := F.called_set.notType
  have x2 := F.called_set.canCreate
  have x3 := F.typeCall_set_1 (.ref t)
  have x4 := F.called_set.made
  have x5 := F.called_set.sub
  obtain ⟨c, tl, x6⟩ := F.called_set.mro
  refine wpAny_call (codeAny_of_tree ?_)
  show wpAny _ _ (callAny (.type "set") _) _ _ _
  refine wpAny_pure ⟨Code.quiet_builtin _ (by decide +kernel), codeAny_builtin F.entry_type_call ?_⟩
  rw [Around.under_plain (weight_type_call_type "set" [.ref t] []) rfl]
  repeat (any_goals (first | assumption | wp_step))
  refine codeAny_mono (code_set_new_1 (.ref t) (E := E) (Q₁ := fun v s1 => ∃ led, v = .ref s.heap.objs.size ∧ s1 = { s with heap := s.heap.push (setO led) }) fun led => ⟨led, rfl, rfl⟩) fun r s1 hr => ?_
  cases r with
  | error e => exact hr
  | ok fl =>
    cases fl with
    | ret v =>
      obtain ⟨led, rfl, rfl⟩ := hr
      have gS : (s.heap.push (setO led)).get? s.heap.objs.size = some (setO led) := Heap.get?_push_size _ rfl
      have hT : Shared.TypeIs { s with heap := s.heap.push (setO led) } (.ref s.heap.objs.size) "set" := ⟨_, gS, rfl⟩
      have x7 := F.called_set.init.lookup
      have x8 := F.called_set.init.bind (.ref s.heap.objs.size)
      repeat (any_goals (first | assumption | wp_step))
      refine codeAny_mono (codeAny_call_builtin (R := wants (fun r s2 => r = .none ∧ ∃ h' tk, s2 = { s with heap := h', toks := tk } ∧ SetMade knd s kk h') E) F.called_set.init.plain F.entry_set_init (check_set_init_1 hT ?_)) fun r2 s2 hr2 => ?_
      · have g1 : (s.heap.push (setO led)).IsTuple t ys := gt.push _
        have hlt : t < s.heap.objs.size := by
          obtain ⟨o, ho, _⟩ := gt
          exact Heap.lt_size ho
        obtain ⟨ol, hol, hcl, nl, hdl⟩ := id g1
        obtain ⟨c0, d0, dt, sl⟩ := ol
        simp only at hcl hdl
        subst hcl hdl
        have y1 := F.sub_tuple_set
        have y2 := sub_tup_fz
        have y3 : (Value.type "tuple" == Value.type "dict") = false := by decide
        unfold Builtin.«set.__init__» noKeywords Builtin.Frozenset.updateFrom
        generalize hit : pyIter = PI
        wp_walk
        subst hit
        refine wpAny_pyIter_tuple g1 ?_
        refine wpAny_bind (wpAny_runValue ?_)
        have e1 : (s.heap.push (setO led)).objs.size = s.heap.objs.size + 1 := Heap.size_push _ _
        have hA3 : A.in1.in1.in1.handled = none := by simp [hA]
        have hne : t ≠ (s.heap.push (setO led)).objs.size := by
          rw [e1]
          exact Nat.ne_of_lt (Nat.lt_succ_of_lt hlt)
        have hSf : s.heap.objs.size ∉ [(s.heap.push (setO led)).objs.size, t] := by
          intro z
          rcases List.mem_cons.mp z with z | z
          · rw [e1] at z
            exact Nat.ne_of_lt (Nat.lt_succ_self _) z
          · exact Nat.ne_of_gt hlt (List.mem_singleton.mp z)
        have hbs : ∀ i : Nat, ys[i]? = (bs[i]?).map Value.ref := fun i => by
          rw [← Array.getElem?_toList, hb, List.getElem?_map]
        refine set_loop (knd := knd) ((Walks.tuple hA3 _ t hne ys).toS) s.heap.objs.size hSf (by simp only [Around.in1_units]; omega) bs kk hn hnd hz (fun i v hv => ?_) (fun i s' hs b hb' o ho => ?_) (ys.size - 0) 0 _ (by omega) (Nat.zero_le _) ⟨⟨_, Heap.get?_push_size _ rfl, rfl, rfl⟩, g1.push _⟩ ⟨setO led, #[], 0, _, Heap.get?_push_of_some _ gS, ⟨rfl, rfl, rfl⟩, rfl, rfl, rfl,   .inl rfl, (show 0 * 5 < 7 * 3 by decide), rfl, fun e he => by simp at he⟩ (fun j b k e1 e2 => ?_) fun s' mv hS' => ?_
        · have hv' : ys[i]? = some v := hv
          rw [hbs i] at hv'
          obtain ⟨b, e, rfl⟩ := Option.map_eq_some_iff.mp hv'
          exact ⟨b, rfl, e⟩
        · cases List.mem_singleton.mp hb'
          obtain ⟨o', ho', _, hd'⟩ := hs.1
          rw [ho'] at ho
          cases ho
          exact ⟨_, hd'⟩
        · obtain ⟨o, items, q, ho, r⟩ := hkey j b k e1 e2
          exact ⟨o, items, q, Heap.get?_push_of_some _ (Heap.get?_push_of_some _ ho), r⟩
        · obtain ⟨h', g', d', tk', os'⟩ := s'
          have q1 : g' = s.gens := mv.gens
          have q2 : d' = s.drawn := mv.drawn
          have q3 : os' = s.os := mv.os
          subst q1 q2 q3
          show wpAny _ _ _ _ _ _
          refine wpAny_pure ?_
          show wpAny _ _ (ret Value.none) _ _ _
          refine wpAny_pure ⟨rfl, h', tk', rfl, hS', fun b o hb e => mv.heap b o (fun z => ?_) (Heap.get?_push_of_some _ (Heap.get?_push_of_some _ e))⟩
          rcases List.mem_cons.mp z with z | z
          · exact Nat.ne_of_lt hb z
          · have z := List.mem_singleton.mp z
            rw [e1] at z
            exact Nat.ne_of_lt (Nat.lt_succ_of_lt hb) z
      · cases r2 with
        | error e => exact hr2
        | ok f2 =>
          cases f2 with
          | ret r =>
            obtain ⟨rfl, h', tk, rfl, hS'⟩ := hr2
            repeat (any_goals (first | assumption | wp_step))
            exact h _ _ hS'
          | _ => exact hr2.elim
    | _ => exact hr.elim
end
end L2
set_option Elab.async false
set_option linter.all false
set_option maxRecDepth 100000
set_option maxHeartbeats 4000000
namespace L2
open PySem PySem.Spec PyProof.Rows
noncomputable def setX (a : Addr) (n : Nat) : HO := .ext fun h => ∃ o es ep t, h.get? a = some o ∧ o.ExactSet ∧ o.data = .set es ep t ∧ t.fits es.size = true ∧ es.size = n
theorem setX_ok {P : Program} {w : World} {H : Hp} {h : Heap} {a : Addr} {ks : List (List Key)} (S : SetT (mixKind P w) h a ks) : ObjOk P w H h a (setX a ks.length) := by
  obtain ⟨o, es, ep, t, ho, hex, hd, hp, hdm, hm, hfull, hlen, _⟩ := S
  refine ⟨⟨o, es, ep, t, ho, hex, hd, ?_, hlen⟩, ⟨o, ho⟩, fun h1 h2 z k => ?_⟩
  · simp only [SetTable.fits, Bool.and_eq_true, beq_iff_eq, decide_eq_true_eq]
    refine ⟨hp, ?_⟩
    unfold SetTable.fill
    rw [hdm, hp]
    have : es.size ≤ t.mask := by omega
    simpa using this
  · obtain ⟨o', es', ep', t', ho', r⟩ := z
    exact ⟨o', es', ep', t', k _ ho', r⟩
noncomputable def WaysAt (H : Hp) (p : Addr) (kk : List (List Key)) : Prop := ∃ bs : List Addr, H p = some (.tup (bs.map V.ref)) ∧ bs.length = kk.length ∧ ∀ (j : Nat) (b : Addr) (k : List Key), bs[j]? = some b → kk[j]? = some k → H b = some (.tup (k.map kV))
theorem WaysAt.ext {H H' : Hp} {p : Addr} {kk : List (List Key)} (e : Ext H H') (h : WaysAt H p kk) : WaysAt H' p kk := by
  obtain ⟨bs, h1, h2, h3⟩ := h
  exact ⟨bs, e _ _ h1, h2, fun j b k e1 e2 => e _ _ (h3 j b k e1 e2)⟩
theorem vals_ref : ∀ {bs : List Addr} {us : List Value}, Vals (bs.map V.ref) us → us = bs.map Value.ref
  | [], _, .nil => rfl
  | b :: bs, _, .cons r t => by
    rw [List.map_cons, ← vals_ref (bs := bs) t]
    exact congrArg (· :: _) r
section
variable {X : Cx}
noncomputable def rSetOf : List V → Hp → VK → Prop := fun xs H Q => ∃ p kk, xs = [.ref p] ∧ WaysAt H p kk ∧ kk.Nodup ∧ kk.length < 200 ∧ ∀ l, H l = none → Q (.ref l) (upd H l (setX l kk.length))
theorem call_setT {k : Nat} (hr : Room k X.A) : CallR X (.type "set") rSetOf := by
  intro pins s σ H xs us Q I r h
  obtain ⟨p, kk, rfl, ⟨bs, h1, h2, h3⟩, hnd, hz, q⟩ := h
  obtain ⟨u, rfl, rx⟩ := vals1 r
  cases rx
  obtain ⟨_, its, rv, gt⟩ := I.hok p _ h1
  have ei := vals_ref rv
  subst ei
  have hu := hr.units
  have hA := hr.hd
  refine set_of_tuple (knd := mixKind X.prog X.w) (kk := kk) (bs := bs) hA (by omega) (show s.heap.IsTuple p _ from gt) rfl (by simp [h2]) hnd (by simp [h2]; exact hz) (fun j b k e1 e2 => ?_) fun h' tk hm => ?_
  · obtain ⟨_, is, rk, o, ho, hc, n, hd⟩ := I.hok b _ (h3 j b k e1 e2)
    exact ⟨o, _, n, ho, hc, hd, items_are rk⟩
  · have hok := setX_ok (H := upd H s.heap.objs.size (setX s.heap.objs.size kk.length)) hm.1
    rw [List.length_reverse] at hok
    exact ⟨.ref s.heap.objs.size, _, I.laid (t' := tk) (fun b o e => hm.2 b o (Heap.lt_size e) e) (Nat.le_refl _) hok, rfl, q _ (I.hok.fresh (Nat.le_refl _))⟩
noncomputable def rLenSet : List V → Hp → VK → Prop := fun xs H Q => ∃ p n, xs = [.ref p] ∧ H p = some (setX p n) ∧ n < 200 ∧ Q (.int n) H
theorem call_lenSet : CallR X (.builtin "len") rLenSet := by
  intro pins s σ H xs us Q I r h
  obtain ⟨p, n, rfl, hp, hn, q⟩ := h
  obtain ⟨u, rfl, rx⟩ := vals1 r
  cases rx
  obtain ⟨⟨o, es, ep, t, ho, hex, hd, hf, hs⟩, _⟩ := I.hok p _ hp
  refine call_len_set ho hex hd hf (by omega) ⟨.int n, H, I.tok _, ⟨s.toks + 1, by rw [hs]⟩, q⟩
theorem rd_setOf {H : Hp} {Q : VK} {p : Addr} {kk : List (List Key)} (h : WaysAt H p kk) (hnd : kk.Nodup) (hz : kk.length < 200) (q : ∀ l H', Ext H H' → H' l = some (setX l kk.length) → Q (.ref l) H') : rSetOf [.ref p] H Q :=
  ⟨p, kk, rfl, h, hnd, hz, fun l hl => q l _ (ext_upd hl) upd_same⟩
theorem rd_lenSet {H : Hp} {Q : VK} {p : Addr} {n : Nat} (h : H p = some (setX p n)) (hn : n < 200) (q : Q (.int n) H) : rLenSet [.ref p] H Q := ⟨p, n, rfl, h, hn, q⟩
end
end L2
set_option Elab.async false
set_option linter.all false
set_option maxRecDepth 100000
set_option maxHeartbeats 4000000
namespace L2
open PySem PySem.Spec PyProof.Rows
section
variable {X : Cx} {pins : List (Addr × Obj)} {σ : St} {H : Hp} {s : Shared}
theorem Inv.turnedNew {h' : Heap} {L : List Addr} {o : HO} {t' : Nat} (I : Inv X pins σ H s) (k : ∀ b u, b ∉ L → s.heap.get? b = some u → h'.get? b = some u) (f : ∀ b ∈ L, FpOk X pins H b)
    (new : ObjOk X.prog X.w (upd H s.heap.objs.size o) h' s.heap.objs.size o) : Inv X pins σ (upd H s.heap.objs.size o) { s with heap := h', toks := t' } := by
  have hn : H s.heap.objs.size = none := I.hok.fresh (Nat.le_refl _)
  have nin : ∀ b u, H b = some u → b ∉ L := fun b u e z => by
    rw [(f b z).1] at e
    cases e
  have up : ∀ b u, H b = some u → upd H s.heap.objs.size o b = some u := fun b u e => by
    rw [upd_ne (ne_of_none e hn)]
    exact e
  refine I.step (g' := s.gens) (d' := s.drawn) (ch := L) (fun b hb => ?_) (fun b u _ _ hc e _ => k b u hc e) (fun b u _ _ hc e _ => ⟨u.slots, k b u hc e⟩) (fun b u _ e n => ?_) (fun b u hc e => ⟨u, k b u hc e⟩) (fun b xs e => up b _ e) (fun b u v e => up b _ e) (fun b ps e => ⟨#[], by rw [up b _ e]; simp⟩) (fun m hm => ?_) (fun b u e => ?_) I.bare
  · obtain ⟨f0, f1, f2, f3, f4, f5⟩ := f b hb
    exact ⟨f3, f1, f4, f5⟩
  · rw [upd_ne (Nat.ne_of_lt (Heap.lt_size e))]
    exact n
  · obtain ⟨u, es, ep, hu, r⟩ := hm
    exact ⟨u, es, ep, k _ u (fun z => (f _ z).2.1 rfl) hu, r⟩
  · by_cases hb : b = s.heap.objs.size
    · subst hb
      rw [upd_same] at e
      cases e
      exact new
    · rw [upd_ne hb] at e
      refine (I.hok b u e).stay (fun c v hc q => k c v ?_ q) (fun c q => up c _ q) fun c xs q => up c _ q
      rcases hc with z | z
      · rw [z]; exact nin b u e
      · exact nin c _ z
end
theorem draws_tup {P : Program} {w : World} {A : Around} (hA : A.handled = none) (it t : Addr) (ne : t ≠ it) (ys : Array Value) : Draws P w A it [it, t] ys.size (fun i v => ys[i]? = some v) (fun i h => h.IsTupleIter it t i ∧ h.IsTuple t ys) where
  live := fun i h st => by
    obtain ⟨⟨o, ho, _⟩, _⟩ := st
    exact ⟨o, ho⟩
  frame := fun i h h' st k => by
    obtain ⟨⟨o, ho, r⟩, ⟨u, hu, q⟩⟩ := st
    exact ⟨⟨o, k it (by simp) o ho, r⟩, ⟨u, k t (by simp) u hu, q⟩⟩
  item := fun i s Q E hi st hQ => next_tup st.1 st.2 (x := ys[i]) (by simp [hi]) fun h' gi sb => hQ _ h' s.toks (by simp [hi]) ⟨gi, by
    obtain ⟨u, hu, q⟩ := st.2
    exact ⟨u, (sb.2 t ne).trans hu, q⟩⟩ sb
  done := fun s Q E st hE => stop_tup hA st.1 st.2 (by simp) hE
noncomputable abbrev eT1 (h : Heap) (a : Addr) : Heap := h.push { cls := .type "tuple_iterator", data := .fields #[.ref a, .int 0 0] }
noncomputable abbrev eT2 (h : Heap) (a : Addr) : Heap := (eT1 h a).push { cls := .type "enumerate", data := .fields #[.none, .bool false, .ref h.objs.size, rawInt 0, .none, .none] }
open AutoSeq1 (wpAny_loadPart') in
theorem enumT_new (a : Addr) (ys : Array Value) (ob : Obj) : Meets (Builtin.«enumerate.__new__» ⟨[.type "enumerate", .ref a], []⟩) (fun _ R s => s.heap.get? a = some ob ∧ s.heap.IsTuple a ys ∧ R (.ok (.ret (.ref (eT1 s.heap a).objs.size))) { s with heap := eT2 s.heap a }) :=
  .of_wp fun prog w A R s q => by
    obtain ⟨hp, g, d, tk, os⟩ := s
    obtain ⟨ga, gt, q⟩ := q
    have hsub := sub_enumerate
    obtain ⟨o, go, gc, n, gd⟩ := id gt
    obtain ⟨c0, d0, dt, sl⟩ := o
    simp only at gc gd
    subst gc gd
    have gT : Heap.IsTuple (Shared.heap ⟨hp, g, d, tk, os⟩) a ys := gt
    wp_walk using wpAny_loadPart' go
    refine wpAny_stack_any fun st => wpAny_pure ?_
    split
    · rename_i c _ _ _ _ _
      cases (c == Value.type "enumerate") <;> (wp_walk using wpAny_loadPart' go, wpAny_pyIter_tuple gT; exact ⟨_, rfl, q⟩)
    · wp_walk using wpAny_loadPart' go, wpAny_pyIter_tuple gT
      exact ⟨_, rfl, q⟩
theorem call_enumT {prog : Program} {w : World} {A : Around} {E : Value → Shared → Prop} {s : Shared} {a : Addr} {ys : Array Value} {Q : Value → Shared → Prop} (gt : s.heap.IsTuple a ys)
    (q : ∀ h', IsEnum h' (s.heap.objs.size + 1) s.heap.objs.size 0 .none → h'.IsTupleIter s.heap.objs.size a 0 → (∀ c o, s.heap.get? c = some o → h'.get? c = some o) → Q (.ref (s.heap.objs.size + 1)) { s with heap := h' }) :
    wpAny (model prog w) A (call (.type "enumerate") [.ref a]) Q E s := by
  obtain ⟨o, go, r⟩ := id gt
  refine callType_new F.called_enumerate (by decide) (F.typeCall_enumerate_1 _) (F.newCall_enumerate_1 _) (fun ob => F.args_object_init_2 ob _) F.entry_enumerate_new (enumT_new a ys o) ⟨go, gt, ?_⟩
  have n1 : (eT1 s.heap a).objs.size = s.heap.objs.size + 1 := Heap.size_push ..
  have k2 : (eT2 s.heap a).get? (eT1 s.heap a).objs.size = some _ := Heap.get?_push_size _ rfl
  have k1 : (eT2 s.heap a).get? s.heap.objs.size = some _ := Heap.get?_push_of_some _ (Heap.get?_push_size _ rfl)
  show _ ∧ _
  rw [n1] at k2 ⊢
  exact ⟨⟨_, k2, rfl⟩, q _ k2 ⟨_, k1, rfl, rfl⟩ fun c o x => Heap.get?_push_of_some _ (Heap.get?_push_of_some _ x)⟩
noncomputable def Ite (K : PySem.W.Frag) (a : Addr) : It := ⟨(Itt K a).go, fun i H x H' => ∃ p v, x = .ref p ∧ H p = none ∧ H' = upd H p (.tup [.int i, v]) ∧ (Itt K a).yld i H v H, (Itt K a).stop⟩
theorem turn_enum {P : Program} {w : World} {K : PySem.W.Frag} {elts : List Expr} {kk : Nat} {ps : Pos} (a e it : Addr) (ne : e ≠ it) : Turn P w K (.Tuple elts kk ps) (Ite K a) [e, it] e (fun i h => (∃ old, IsEnum h e it i old) ∧ h.IsTupleIter it a i) where
  mem := by simp
  obj := fun i h st b hb => by
    obtain ⟨⟨old, ge⟩, o, go, gc, gd⟩ := st
    rcases List.mem_cons.mp hb with rfl | hb
    · exact ⟨_, ge, fun v z => by cases (show Data.fields _ = Data.cell v from z)⟩
    · cases List.mem_singleton.mp hb
      exact ⟨o, go, fun v z => by rw [gd] at z; cases z⟩
  keep := fun i h h' st k => by
    obtain ⟨⟨old, ge⟩, gi⟩ := st
    exact ⟨⟨old, k e (by simp) _ ge⟩, gi.at fun o z => k it (by simp) o z⟩
  item := by
    intro X hP hw hK hc i pins s σ H E I hf st hg
    subst hP hw hK
    obtain ⟨⟨old, ge⟩, gi⟩ := st
    obtain ⟨xs, x, hq, hx⟩ := hg
    obtain ⟨its, rv, p, hz⟩ := I.tuple hq
    obtain ⟨u, hu, ru⟩ := rv.get hx
    have hi : i < its.toArray.size := by
      have := (List.getElem?_eq_some_iff.mp hu).1
      simpa using this
    have hA : X.A.in1.handled = none := I.ok.hd hc
    have hta : a ≠ it := fun z => by
      obtain ⟨o, ho, hcl, _⟩ := p
      obtain ⟨o', ho', hcl', _⟩ := gi
      rw [z, ho'] at ho
      cases ho
      rw [hcl] at hcl'
      exact absurd (Value.type.inj hcl') (by decide)
    have hea : e ∉ [it, a] := fun z => by
      rcases List.mem_cons.mp z with z | z
      · exact ne z
      · cases List.mem_singleton.mp z
        obtain ⟨o, ho, hcl, _⟩ := p
        rw [ge] at ho
        cases ho
        exact absurd (Value.type.inj hcl) (by decide)
    refine wpAny_pyNext_enum_itemD (draws_tup hA it a hta its.toArray) ge ⟨gi, show s.heap.IsTuple a its.toArray from p⟩ hi ne hea fun y h' tk hy geo gs gT gz gk => ⟨_, rfl, ?_⟩
    have ey : y = u := by
      have : its[i]? = some y := by simpa using hy
      rw [hu] at this
      exact (Option.some.inj this).symm
    subst ey
    have lt : ∀ b ∈ [e, it], b ≠ s.heap.objs.size := fun b hb => by
      rcases List.mem_cons.mp hb with rfl | hb
      · exact Nat.ne_of_lt (Heap.lt_size ge)
      · cases List.mem_singleton.mp hb
        obtain ⟨o, ho, _⟩ := gi
        exact Nat.ne_of_lt (Heap.lt_size ho)
    have I1 : Inv X pins σ (upd H s.heap.objs.size (.tup [.int i, x])) { s with heap := h', toks := tk + 1 } :=
      Inv.turnedNew (L := [e, it]) I (fun b o hb z => gk b o (fun q => hb (by simp [q])) (fun q => hb (by simp [q])) z) hf ⟨by show 2 ≤ sizeLine; decide, [.int i tk, y], .cons ⟨tk, rfl⟩ (.cons ru .nil), ⟨_, gT, rfl, _, rfl⟩⟩
    have fe : FpOk X pins (upd H s.heap.objs.size (.tup [.int i, x])) e := by
      obtain ⟨c0, c1, c2, c3, c4, c5⟩ := hf e (by simp)
      exact ⟨by rw [upd_ne (lt e (by simp))]; exact c0, c1, c2, c3, c4, c5⟩
    refine wpAny_letOwnedTupleGo_enum (s := { s with heap := h', toks := tk + 1 }) geo fun k gk' bk => ?_
    refine ⟨.ref s.heap.objs.size, upd H s.heap.objs.size (.tup [.int i, x]), Inv.same (s := { s with heap := h', toks := tk + 1 }) (k := h') I1 fe bk.extBut, rfl, ⟨_, x, rfl, I.hok.fresh (Nat.le_refl _), rfl, rfl, fun zs hzs => by rw [I.tuple_inj hzs hq]; exact hx⟩, ⟨⟨y, by simpa using gk'⟩, gs.1.at fun o z => bk.extBut it o (Ne.symm ne) z⟩, fun b hb => ?_⟩
    rw [upd_ne (lt b hb)]
    exact (hf b hb).1
  done := by
    intro X hP hw hK hc i pins s σ H E I hf st hg
    subst hP hw hK
    obtain ⟨⟨old, ge⟩, gi⟩ := st
    obtain ⟨xs, hq, hx⟩ := hg
    obtain ⟨its, rv, p, hz⟩ := I.tuple hq
    have hA : X.A.in1.handled = none := I.ok.hd hc
    have gT : s.TypeIs (.ref e) "enumerate" := ⟨_, ge, rfl⟩
    have hl := rv.length
    unfold pyNext
    refine wpAny_bind (wpAny_attempt (wpAny_callSpecial?_slot (name := Str.ofString "__next__") gT F.slot_enumerate_next (wpAny_call_entry F.slot_enumerate_next gT F.entry_enumerate_next ?_ (F.args_enumerate_next_1 _))))
    show wpAny _ _ (field (Value.ref e) 2 >>= _) _ _ _
    refine wpAny_bind (wpAny_field ge rfl (x := Value.ref it) rfl ?_)
    refine wpAny_bind (stop_tup hA gi (show s.heap.IsTuple a its.toArray from p) (by simp; omega) fun h' x he hx' => ?_)
    obtain ⟨o, ho, hc'⟩ := hx'
    refine wpAny_bind (wpAny_isInstance (s := { s with heap := h' }) (T := "StopIteration") (b := true) ⟨o, ho, hc'⟩ isSubtype_stop ?_)
    exact wpAny_pure ⟨rfl, Inv.same (k := s.heap) I (hf it (by simp)) he⟩
  self := fun _ _ _ _ _ st h => by
    obtain ⟨⟨old, ge⟩, _⟩ := st
    exact wpAny_pyIter_enum ge h
section
variable {K : PySem.W.Frag} {σ : St} {H : Hp} {Q : VK}
noncomputable def rEnum (K : PySem.W.Frag) : List V → Hp → (It → Hp → Prop) → Prop := fun vs H R => ∃ a xs, vs = [.ref a] ∧ SqT K H a xs ∧ R (Ite K a) H
noncomputable def iEnum (K : PySem.W.Frag) (ta : TA) : TI := fun σ H R => ta σ H fun vs H1 => rEnum K vs H1 R
theorem pi_enum {X : Cx} {elts : List Expr} {kk : Nat} {ps : Pos} (K : PySem.W.Frag) {a : Expr} {ta : TA} {p pos : Pos} (hg : Gl X "enumerate") (hm : X.mg "enumerate" = none) (ha : PA X [a] ta) (hK : X.K = K := by rfl) (hs : starEach [a] X.env = [(false, eval a X.env)] := by rfl) :
    PI X (.Tuple elts kk ps) (.Call (.Name "enumerate" p) [a] [] pos) (iEnum K ta) := by
  subst hK
  intro pins s σ H R I h
  refine Call_ (ld_blt I hg hm PyProof.Rows.boot_enumerate (PyProof.Rows.callWith_type1 (thn (ha pos pins s σ H _ I h) fun us s1 ⟨vs, H1, I1, r1, q1⟩ => ?_) (by rw [hs]; rfl) rfl))
  obtain ⟨l, xs, e, hq, q⟩ := q1
  subst e
  obtain ⟨u, rfl, rx⟩ := vals1 r1
  cases rx
  obtain ⟨its, _, p1, _⟩ := I1.tuple hq
  refine call_enumT (show s1.heap.IsTuple l its.toArray from p1) fun h' ge gi k => ?_
  refine wpAny_pyIter_enum (s := { s1 with heap := h' }) ge ?_
  refine ⟨s1.heap.objs.size + 1, [s1.heap.objs.size + 1, s1.heap.objs.size], _, _, H1, rfl, I1.kept (t' := s1.toks) k, turn_enum l (s1.heap.objs.size + 1) s1.heap.objs.size (fun z => by have z' : @Eq Nat _ _ := z; omega), ⟨⟨_, ge⟩, gi⟩, fun b hb => ?_, q⟩
  have le : @LE.le Nat _ s1.heap.objs.size b := by
    rcases List.mem_cons.mp hb with rfl | hb
    · exact Nat.le_add_right _ _
    · cases List.mem_singleton.mp hb
      exact Nat.le_refl _
  exact I1.fpOk le (I1.hok.fresh le)
theorem rd_enum {a : TA} {R : It → Hp → Prop} (h : a σ H fun vs H1 => rEnum K vs H1 R) : iEnum K a σ H R := h
theorem rd_enumT {a : Addr} {xs : List V} {R : It → Hp → Prop} (ha : SqT K H a xs) (h : R (Ite K a) H) : rEnum K [.ref a] H R := ⟨a, xs, rfl, ha, h⟩
theorem for_enum {a : Addr} {xs : List V} {g : TG} {tb : TS} {D : Ends} (Pv : Nat → St → Hp → Prop) (h0 : Pv 0 σ H) (hl : ∀ i σ H, i ≤ xs.length → Pv i σ H → SqT K H a xs)
    (hs : ∀ i u σ H p H', xs[i]? = some u → Pv i σ H → Ext H H' → H' p = some (.tup [.int i, u]) → H p = none → g (.ref p) σ H' fun σ2 H2 => tb { D with nx := Pv (i + 1), ct := Pv (i + 1), bk := D.nx } σ2 H2) (hd : ∀ σ H, Pv xs.length σ H → D.nx σ H) :
    ∃ W : Nat → Nat → St → Hp → Prop, (∃ m, W 0 m σ H) ∧ ∀ i m σ H, W i m σ H →
      ((Ite K a).stop i H ∧ D.nx σ H) ∨ ((Ite K a).go i H ∧ ∃ N : St → Hp → Prop, (∀ σ' H', N σ' H' → ∃ m', m' < m ∧ W (i + 1) m' σ' H') ∧ ∀ x H', (Ite K a).yld i H x H' → g x σ H' fun σ2 H2 => tb { D with nx := N, ct := N, bk := D.nx } σ2 H2) := by
  refine ⟨fun i m σ H => m = xs.length - i ∧ i ≤ xs.length ∧ Pv i σ H, ⟨xs.length, by simp, Nat.zero_le _, h0⟩, ?_⟩
  rintro i m σ H ⟨rfl, hi, p⟩
  have qa := hl i σ H hi p
  by_cases hlt : i < xs.length
  · refine .inr ⟨⟨xs, xs[i], qa, by simp [hlt]⟩, Pv (i + 1), fun σ' H' p' => ⟨xs.length - (i + 1), by omega, rfl, hlt, p'⟩, fun x H' y => ?_⟩
    obtain ⟨pp, u, rfl, hn, rfl, yu⟩ := y
    exact hs i u σ H pp _ (yu.2 xs qa) p (ext_upd hn) upd_same hn
  · have e : i = xs.length := by omega
    subst e
    exact .inl ⟨⟨xs, qa, Nat.le_refl _⟩, hd σ H p⟩
end
section
variable {X : Cx}
end
end L2
set_option Elab.async false
set_option linter.all false
set_option maxRecDepth 100000
set_option maxHeartbeats 4000000
namespace L2
open PySem PySem.Spec PyProof.Rows
noncomputable abbrev Row3 := Str × Tok × Value
noncomputable def gdE (w : World) (e : Row3) : DictEntry := ⟨PyData.keyHash w.params e.1, .str e.1 e.2.1, e.2.2⟩
noncomputable def gdO (w : World) (l : List Row3) (ep : Nat) : Obj := { cls := .type "dict", dict := none, data := .dict (l.map (gdE w)).toArray ep, slots := #[] }
structure GDict (w : World) (K : PySem.W.Frag) (a : Addr) (kvs : List (Key × V)) : Prop where
  has : ∃ l ep, K.lookup a = some (gdO w l ep) ∧ KV kvs (l.map fun e => ((Sum.inr e.1 : Key), e.2.2))
  nd : (kvs.map (·.1)).Nodup
  sm : (a == sysModules) = false
theorem gd_pairs {P : Program} {w : World} : ∀ l : List Row3, Pairs (mixKind P w) (l.map (gdE w)) (l.map fun e => ((Sum.inr e.1 : Key), e.2.2))
  | [] => .nil
  | e :: l => .cons (mixKind_str P w e.1 e.2.1) rfl (gd_pairs l)
theorem gd_keys {P : Program} {w : World} (l : List Row3) : KeysOf (mixKind P w) (l.map (gdE w)).toArray := fun e he => by
  have he' : e ∈ l.map (gdE w) := by simpa using he
  obtain ⟨x, _, rfl⟩ := List.mem_map.mp he'
  exact ⟨.inr x.1, mixKind_str P w x.1 x.2.1, rfl⟩
theorem GDict.at {X : Cx} {pins : List (Addr × Obj)} {σ : St} {H : Hp} {s : Shared} {a : Addr} {kvs : List (Key × V)} (D : GDict X.w X.K a kvs) (I : Inv X pins σ H s) : ∃ vs, KV kvs vs ∧ s.heap.DictOf (mixKind X.prog X.w) a vs := by
  obtain ⟨l, ep, hl, r⟩ := D.has
  refine ⟨_, r, gdO X.w l ep, _, ep, I.kIn _ _ hl, ⟨rfl, rfl, rfl⟩, rfl, gd_keys l, gd_pairs l, ?_⟩
  rw [← r.keys]
  exact D.nd
section
variable {X : Cx} {x : Str} {a : Addr} {kvs : List (Key × V)} {i : Expr} {ty : TE} {p pos : Pos}
noncomputable def tGGet (kvs : List (Key × V)) (ty : TE) : TE := fun σ H Q => ty σ H fun y H1 => ∃ k v, y = kV k ∧ valV kvs k = some v ∧ Q v H1
noncomputable def tGIn (neg : Bool) (kvs : List (Key × V)) (ty : TE) : TE := fun σ H Q => ty σ H fun y H1 => ∃ k, y = kV k ∧ Q (.bl (if neg then !(valV kvs k).isSome else (valV kvs k).isSome)) H1
theorem pe_gget (hg : Gl X x) (hm : X.mg x = some (.ref a)) (D : GDict X.w X.K a kvs) (hi : PE X i ty) (hs : NoSl i) (hd : (x == ("__debug__" : Str)) = false := by decide) : PE X (.Subscript (.Name x p) i pos) (tGGet kvs ty) := by
  intro pins s σ H Q I h
  refine subD_of PySem.F.slot_dict_getitem.lookup hs (ld_glob I hg hm (thn (hi pins s σ H _ I h) fun iv s2 ⟨y, H2, I2, ry, k, v, ey, hv, q⟩ => ?_) hd)
  subst ey
  obtain ⟨vs, rel, dd⟩ := D.at I2
  obtain ⟨w', hw, rw'⟩ := RelO.some_of (v := v) (o := valueAt vs k) (by rw [← hv]; exact rel.val k)
  exact ⟨dd.typeIs, wpAny_getItem_of (kV_is ry) dd.mapOf hw ⟨v, H2, I2.tok _, rw', q⟩⟩
theorem pc_gin (hg : Gl X x) (hm : X.mg x = some (.ref a)) (D : GDict X.w X.K a kvs) (hi : PE X i ty) (hd : (x == ("__debug__" : Str)) = false := by decide) : PC X .In i (.Name x p) (tGIn false kvs ty) := by
  intro pins s σ H Q I h
  refine thn (hi pins s σ H _ I h) fun iv s1 ⟨y, H1, I1, ry, k, ey, q⟩ => ld_glob I1 hg hm ?_ hd
  subst ey
  obtain ⟨vs, rel, dd⟩ := D.at I1
  refine wpAny_in_of (kV_is ry) D.sm dd.mapOf ?_
  rw [← (rel.val k).isSome_eq]
  exact ⟨.bl (valV kvs k).isSome, H1, I1.tok _, rfl, q⟩
theorem rd_gget {σ : St} {H : Hp} {Q : VK} (h : ty σ H fun y H1 => ∃ k v, y = kV k ∧ valV kvs k = some v ∧ Q v H1) : tGGet kvs ty σ H Q := h
theorem rd_gin {neg : Bool} {σ : St} {H : Hp} {Q : VK} (h : ty σ H fun y H1 => ∃ k, y = kV k ∧ Q (.bl (if neg then !(valV kvs k).isSome else (valV kvs k).isSome)) H1) : tGIn neg kvs ty σ H Q := h
theorem rd_keyS {R : V → Prop} {z : Str} {v : V} (hv : valV kvs (.inr z) = some v) (h : R v) : ∃ k v, V.str z = kV k ∧ valV kvs k = some v ∧ R v := ⟨.inr z, v, rfl, hv, h⟩
noncomputable def rLeS : R2 := fun x y H Q => ∃ a b, x = .str a ∧ y = .str b ∧ Q (.bl (!decide (b.cps.toList < a.cps.toList))) H
theorem op_leS : OpR X (compareOp .LtE) rLeS := by
  intro pins s σ H x y v u Q I rx ry h
  obtain ⟨a, b, rfl, rfl, q⟩ := h
  obtain ⟨t, rfl⟩ := rx
  obtain ⟨t', rfl⟩ := ry
  exact PySem.P.le_str ⟨.bl _, H, I, rfl, q⟩
theorem rd_leS {a b : Str} {H : Hp} {Q : VK} (h : Q (.bl (!decide (b.cps.toList < a.cps.toList))) H) : rLeS (.str a) (.str b) H Q := ⟨a, b, rfl, rfl, h⟩
theorem Vals.rev {xs : List V} {us : List Value} (r : Vals xs us) : Vals xs.reverse us.reverse := by
  induction r with
  | nil => exact .nil
  | cons h t ih =>
    rw [List.reverse_cons, List.reverse_cons]
    exact Vals.append ih (.cons h .nil)
noncomputable def rRevL (K : PySem.W.Frag) : V → Hp → VK → Prop := fun x H Q => ∃ a xs, x = .ref a ∧ SqL K H a xs ∧ New H (.lst xs.reverse) Q
theorem rd_revLL {K : PySem.W.Frag} {H : Hp} {Q : VK} {a : Addr} {xs : List V} (e : SqL K H a xs) (h : New H (.lst xs.reverse) Q) : rRevL K (.ref a) H Q := ⟨a, xs, rfl, e, h⟩
theorem rd_disp {trs : List (TE × TE)} {σ : St} {H : Hp} {Q : VK} (h : ∀ p, H p = none → tPairs trs σ (upd H p (.dK [])) fun ps H2 => H2 p = some (.dK []) ∧ ∃ kvs : List (Key × V), ps = kvs.map (fun kv => (kV kv.1, kv.2)) ∧ kvs.length ≤ 15 ∧ Q (.ref p) (upd H2 p (.dK (mergeK [] kvs)))) : tDisp trs σ H Q := h
theorem rd_dget {td : TE} {σ : St} {H : Hp} {Q : VK} (h : td σ H fun x H1 => ty σ H1 fun y H2 => ∃ a v, x = .ref a ∧ DGet H2 a y (some v) ∧ Q v H2) : tDGet td ty σ H Q := h
end
end L2
set_option Elab.async false
set_option linter.all false
set_option maxRecDepth 100000
set_option maxHeartbeats 4000000
namespace L2
open PySem PySem.Spec PyProof.Rows
theorem lri_no_len : typeLookup (.type "list_reverseiterator") "__len__" = pure none := by rw [typeLookup_type, builtinLookup_eq_fast]; kernel_rfl
theorem lri_hint : typeLookup (.type "list_reverseiterator") "__length_hint__" = pure (some (.builtin "list_reverseiterator.__length_hint__")) := by rw [typeLookup_type, builtinLookup_eq_fast]; kernel_rfl
section
variable {prog : Program} {w : World} {A : Around} {E : Value → Shared → Prop} {s : Shared} {r d : Addr}
theorem hint_rev {Q : Bool → Shared → Prop} (hT : s.TypeIs (.ref r) "list_reverseiterator") (h : Q false s) : wpAny (model prog w) A (Builtin.List.listLengthHint (.ref r)) Q E s := by
  unfold Builtin.List.listLengthHint
  refine wpAny_bind (wpAny_specialOf hT lri_no_len ?_)
  show wpAny _ _ (specialOf (Value.ref r) (Str.ofString "__length_hint__") >>= _) _ _ _
  refine wpAny_bind (wpAny_specialOf hT lri_hint ?_)
  generalize hid : ("list_reverseiterator.__length_hint__" : String) = id0
  wp_delta
  rw [show splitId id0 = some ("list_reverseiterator", "__length_hint__") from by subst hid; decide +kernel]
  subst hid
  refine wpAny_bind (wpAny_isInstance (T := "list_reverseiterator") (b := true) hT (by rw [isSubtype_type]; kernel_rfl) ?_)
  refine wpAny_ite_split (fun hab => absurd hab (by decide)) (fun _ => ?_)
  refine wpAny_ite_split (fun _ => ?_) (fun hab => absurd (by decide +kernel) hab)
  refine wpAny_ite_split (fun hab => absurd hab (by decide +kernel)) (fun _ => ?_)
  exact wpAny_pure h
theorem rev_extend {R : Result → Shared → Prop} {items : Array Value} (hh : A.handled = none) (hne : d ≠ r) (hit : s.heap.IsRevIter r d ((items.size : Int) - 1)) (hl : s.heap.IsList d items) (S : Addr) (hSr : S ≠ r) (hSd : S ≠ d) (res : Value) (c₀ : Nat) (hS : s.heap.get? S = some { cls := .type "list", data := .seq #[] c₀ })
    (hR : ∀ h' tk acc' c', (∀ b o, b ≠ S → b ≠ r → s.heap.get? b = some o → h'.get? b = some o) → h'.get? S = some { cls := .type "list", dict := none, data := .seq acc' c', slots := #[] } → ItemsOf (fun i v => items[items.size - 1 - i]? = some v) acc' items.size → R (.ok (.ret res)) { s with heap := h', toks := tk }) (hn : items.size ≤ sizeLine) :
    wpAny (model prog w) A.in1 (Builtin.List.listExtendWith (.ref S) (.ref r) res)
      (fun fin s' => match fin with | .done f => R (.ok f) s' | .again c' => c'.quiet = true ∧ codeAny (model prog w) A c' R s') (fun e s' => R (.error e) s') s := by
  have hSf : S ∉ [r, d] := by simp only [List.mem_cons, List.not_mem_nil, or_false, not_or]; exact ⟨hSr, hSd⟩
  have W := Walks.listRev (prog := prog) (w := w) (A := A.in1) hh r d hne items
  have st : 0 ≤ items.size ∧ s.heap.IsRevIter r d ((items.size : Int) - 1 - ((0 : Nat) : Int)) ∧ s.heap.IsList d items := ⟨Nat.zero_le _, by rw [show (items.size : Int) - 1 - ((0 : Nat) : Int) = (items.size : Int) - 1 by omega]; exact hit, hl⟩
  unfold Builtin.List.listExtendWith
  refine wpAny_bind (wpAny_typeOf (T := "list_reverseiterator") hit.typeIs ?_)
  have h1 : Builtin.List.listSameRef (.ref S) (.ref r) = false := by simp [Builtin.List.listSameRef, hSr]
  have h2 : (Value.type "list_reverseiterator" == Value.type "list") = false := by decide
  have h3 : (Value.type "list_reverseiterator" == Value.type "tuple") = false := by decide
  simp only [h1, h2, h3, Bool.or_false, Bool.false_eq_true, if_false]
  refine wpAny_bind (W.self 0 _ _ _ st ?_)
  refine wpAny_bind (wpAny_holding (hint_rev hit.typeIs ?_))
  refine wpAny_ite_split (fun hab => absurd hab (by decide +kernel)) (fun _ => ?_)
  refine wpAny_pure ⟨plainId_quiet PySem.F.plain_extend_loop _, ?_⟩
  refine codeAny_extend_loopS W.toS hn S hSf res items.size 0 s #[] c₀ rfl (Nat.zero_le _) st hS (ItemsOf.nil _) fun s' acc' c' hm hS' hacc => ?_
  rw [Moved.eq_with hm]
  refine hR s'.heap s'.toks acc' c' (fun b o hb hb2 e => hm.heap b o (fun hmem => ?_) e) hS' hacc
  rcases List.mem_cons.mp hmem with e' | hmem
  · exact hb e'
  · exact hb2 (List.mem_singleton.mp hmem)
theorem rev_init {R : Result → Shared → Prop} {items : Array Value} (hh : A.handled = none) (hne : d ≠ r) (hit : s.heap.IsRevIter r d ((items.size : Int) - 1)) (hl : s.heap.IsList d items) (S : Addr) (hSr : S ≠ r) (hSd : S ≠ d) (hS : s.heap.get? S = some { cls := .type "list", data := .seq #[] })
    (hR : ∀ h' tk acc' c', (∀ b o, b ≠ S → b ≠ r → s.heap.get? b = some o → h'.get? b = some o) → h'.get? S = some { cls := .type "list", dict := none, data := .seq acc' c', slots := #[] } → ItemsOf (fun i v => items[items.size - 1 - i]? = some v) acc' items.size → R (.ok (.ret .none)) { s with heap := h', toks := tk }) (hn : items.size ≤ sizeLine) :
    wpAny (model prog w) A.in1 (Builtin.«list.__init__» ⟨[.ref S, .ref r], []⟩)
      (fun fin s' => match fin with | .done f => R (.ok f) s' | .again c' => c'.quiet = true ∧ codeAny (model prog w) A c' R s') (fun e s' => R (.error e) s') s := by
  show wpAny _ _ (do let old ← Builtin.List.listItems (.ref S); Builtin.List.listUpdate (.ref S) (fun _ => #[]); letGo old.toList.reverse; Builtin.List.listExtendWith (.ref S) (.ref r) .none) _ _ s
  refine wpAny_bind ?_
  unfold Builtin.List.listItems
  refine wpAny_bind (wpAny_seqItems hS rfl (wpAny_pure ?_))
  show wpAny _ _ (updateSeq S (fun _ => #[]) >>= fun _ => letGo (#[] : Array Value).toList.reverse >>= fun _ => Builtin.List.listExtendWith (.ref S) (.ref r) .none) _ _ s
  refine wpAny_bind (wpAny_updateSeq hS rfl ?_)
  have hS₂ := Heap.get?_update_self (Obj.mapSeq (fun _ => (#[] : Array Value))) hS rfl
  have oth : ∀ b o, b ≠ S → s.heap.get? b = some o → (s.heap.update S (Obj.mapSeq (fun _ => (#[] : Array Value)))).get? b = some o :=
    fun b o hb e => (Heap.get?_update_other _ _ (Ne.symm hb)).trans e
  refine wpAny_bind (wpAny_letGo ?_)
  refine rev_extend hh hne (hit.at fun o e => oth _ _ hSr.symm e) (hl.at fun o e => oth _ _ hSd.symm e) S hSr hSd .none _ hS₂ (fun h' tk acc' c' hk hS' hacc => ?_) hn
  exact hR h' tk acc' c' (fun b o hb hb2 e => hk b o hb hb2 (oth b o hb e)) hS' hacc
theorem rev_call {Q : Value → Shared → Prop} {items : Array Value} (hh : A.handled = none) (hne : d ≠ r) (hit : s.heap.IsRevIter r d ((items.size : Int) - 1)) (hl : s.heap.IsList d items) (hn : items.size ≤ sizeLine)
    (hQ : ∀ h' tk acc' c', (∀ b o, b ≠ r → s.heap.get? b = some o → h'.get? b = some o) → h'.get? s.heap.objs.size = some { cls := .type "list", dict := none, data := .seq acc' c', slots := #[] } → ItemsOf (fun i v => items[items.size - 1 - i]? = some v) acc' items.size → Q (.ref s.heap.objs.size) { s with heap := h', toks := tk }) :
    wpAny (model prog w) A (call (.type "list") [.ref r]) Q E s := by
  refine callType_codes (Q₁ := fun obj s₁ => obj = .ref s.heap.objs.size ∧ s₁ = { s with heap := s.heap.push { cls := .type "list", data := .seq #[] } }) PySem.F.called_list (PySem.F.typeCall_list_1 _) PySem.F.entry_list_init
    (code_list_new _ ⟨rfl, rfl⟩) fun obj s₁ h₁ => ?_
  obtain ⟨rfl, rfl⟩ := h₁
  have hS : (s.heap.push { cls := .type "list", data := .seq #[] }).get? s.heap.objs.size = some { cls := .type "list", data := .seq #[] } := Heap.get?_push_size _ rfl
  have l1 : r < s.heap.objs.size := let ⟨o, ho, _⟩ := hit; Heap.lt_size ho
  have l2 : d < s.heap.objs.size := let ⟨o, ho, _⟩ := hl; Heap.lt_size ho
  refine ⟨⟨_, hS, rfl⟩, PySem.F.args_list_init_2 _ _, rev_init (A := A.in1) hh hne (hit.at fun o e => Heap.get?_push_of_some _ e) (hl.at fun o e => Heap.get?_push_of_some _ e) _ (Nat.ne_of_gt l1) (Nat.ne_of_gt l2) hS (fun h' tk acc' c' hk hS' hacc => ?_) hn⟩
  exact ⟨rfl, hQ h' tk acc' c' (fun b o hb e => hk b o (Nat.ne_of_lt (Heap.lt_size e)) hb (Heap.get?_push_of_some _ e)) hS' hacc⟩
end
theorem items_rev {its : List Value} {acc : Array Value} (h : ItemsOf (fun i v => its.toArray[its.toArray.size - 1 - i]? = some v) acc its.toArray.size) : acc = its.reverse.toArray := by
  have h1 : acc.size = its.length := h.1.trans List.size_toArray
  have h2 := h.2
  refine Array.ext_getElem? fun i => ?_
  by_cases hi : i < acc.size
  · have h3 := h2 i acc[i] (Array.getElem?_eq_getElem hi)
    rw [Array.getElem?_eq_getElem hi, ← h3, List.getElem?_toArray, List.getElem?_toArray, List.size_toArray, List.getElem?_reverse (by omega)]
  · rw [Array.getElem?_eq_none (by omega), List.getElem?_toArray, List.getElem?_eq_none (by rw [List.length_reverse]; omega)]
section
variable {X : Cx}
noncomputable def tLRev (K : PySem.W.Frag) (te : TE) : TE := fun σ H Q => te σ H fun x H1 => rRevL K x H1 Q
theorem pe_lrev {e : Expr} {te : TE} {p p2 pos pos2 : Pos} (K : PySem.W.Frag) (hc : X.calm = true) (hg : Gl X "list") (hm : X.mg "list" = none) (hg2 : Gl X "reversed") (hm2 : X.mg "reversed" = none) (he : PE X e te) (hK : X.K = K := by rfl)
    (h1 : starEach [e] X.env = (false, eval e X.env) :: starEach [] X.env := by rfl)
    (h2 : starEach [.Call (.Name "reversed" p2) [e] [] pos2] X.env = (false, eval (.Call (.Name "reversed" p2) [e] [] pos2) X.env) :: starEach [] X.env := by rfl) :
    PE X (.Call (.Name "list" p) [.Call (.Name "reversed" p2) [e] [] pos2] [] pos) (tLRev K te) := by
  subst hK
  intro pins s σ H Q I h
  refine wpAny_Call_Name_kw (ld_blt I hg hm PyProof.Rows.boot_list ?_ (by decide) (by decide))
  refine PyProof.Rows.callWith_type1 ?_ h2 rfl
  rw [h2]
  show wpAny _ _ (spliced ((false, eval (.Call (.Name "reversed" p2) [e] [] pos2) X.env) :: backTo pos (starEach [] X.env))) _ _ s
  refine Calls.spliced_cons ?_
  refine wpAny_Call_Name_kw (ld_blt I hg2 hm2 PyProof.Rows.boot_reversed ?_ (by decide) (by decide))
  refine PyProof.Rows.callWith_type1 ?_ h1 rfl
  rw [h1]
  show wpAny _ _ (spliced ((false, eval e X.env) :: backTo pos2 (starEach [] X.env))) _ _ s
  refine Calls.spliced_cons (thn (he pins s σ H _ I h) fun u s1 ⟨x, H1, I1, r1, q1⟩ => ?_)
  refine Calls.spliced_nil ?_
  obtain ⟨a, xs, rfl, hx, q⟩ := q1
  cases r1
  obtain ⟨its, r, pl, hz⟩ := I1.list hx
  have hlen := r.length
  refine call_reversed_list pl.isList ?_
  refine Calls.spliced_nil ?_
  have la : a < s1.heap.objs.size := let ⟨o, ho, _⟩ := pl.isList; Heap.lt_size ho
  have hsz : (s1.heap.push (revObj a ((its.toArray.size : Int) - 1))).objs.size = s1.heap.objs.size + 1 := Heap.size_push ..
  refine rev_call (items := its.toArray) (d := a) (r := s1.heap.objs.size) (I1.ok.hd hc) (Nat.ne_of_lt la) ⟨_, Heap.get?_push_size _ rfl, rfl, rfl⟩ (pl.isList.at fun o e => Heap.get?_push_of_some _ e) (by rw [List.size_toArray]; omega) fun h' tk acc' c' hk hS' hacc => ?_
  have hk' : ∀ b o, s1.heap.get? b = some o → h'.get? b = some o := fun b o e => hk b o (Nat.ne_of_lt (Heap.lt_size e)) (Heap.get?_push_of_some _ e)
  have hle : s1.heap.objs.size ≤ (s1.heap.push (revObj a ((its.toArray.size : Int) - 1))).objs.size := by rw [hsz]; exact Nat.le_succ _
  rw [items_rev hacc] at hS'
  exact ⟨.ref _, _, I1.laid (t' := tk) (o := .lst xs.reverse) hk' hle ⟨by rw [List.length_reverse]; exact hz, _, c', r.rev, hS'⟩, rfl, q _ (I1.hok.fresh hle)⟩
noncomputable def tDisp1T (tk tv : TE) : TE := fun σ H Q => ∀ p, H p = none → tk σ (upd H p (.dT [])) fun x H1 => tv σ H1 fun v H2 => ∃ b k, x = .ref b ∧ H2 b = some (.tup (List.map kV k)) ∧ H2 p = some (.dT []) ∧ Q (.ref p) (upd H2 p (.dT [(k, v)]))
theorem pe_disp1T {ek ev : Expr} {tk tv : TE} {pos : Pos} (hu : X.A.units + 1 < cLine) (hk : PE X ek tk) (hv : PE X ev tv) : PE X (.Dict [some ek] [ev] pos) (tDisp1T tk tv) := by
  intro pins s σ H Q I q
  have hn := I.hok.fresh (Nat.le_refl s.heap.objs.size)
  have I1 := I.laid (a := s.heap.objs.size) (o := .dT []) (h' := s.heap.push { cls := .type "dict", data := .dict #[] }) (t' := s.toks) (fun _ _ q => Heap.get?_push_of_some _ q) (Nat.le_refl _) (dt_empty s.heap I.big)
  refine wpAny_Dict_any rfl rfl (by simp) (by simp) ?_
  refine pairTrees_cons_walk (thn (hk pins _ σ _ _ I1 (q _ hn)) fun u s1 ⟨x, H1, I1, rx, q1⟩ => thn (hv pins s1 σ H1 _ I1 q1) fun w2 s2 ⟨v, H2, I2, ry, q2⟩ => pairTrees_nil_walk ?_)
  obtain ⟨b, k, rfl, hb, e, q3⟩ := q2
  cases (show u = Value.ref b from rx)
  obtain ⟨z, hd, xs, rel, dd⟩ := dt_of I2.hok e
  have hz : xs.length ≤ sizeLine := by rw [← Paired.length rel]; exact Nat.zero_le _
  unfold storeAll
  rw [List.forIn_cons]
  refine wpAny_bind (wpAny_bind (wpAny_dictSet_heap (hsz := hz) (show (tupleKind (mixKind X.prog X.w)).room X.A from Nat.lt_of_succ_lt hu) (key_of I2.hok hb) dd fun h' dd' hs => wpAny_pure ?_))
  dsimp only
  rw [List.forIn_nil]
  refine wpAny_pure ⟨.ref s.heap.objs.size, _, ?_, rfl, q3⟩
  obtain ⟨q, es, ep, hq, h2, h3, h4, _, h5⟩ := dd'
  refine d_write I2 (by rw [e]; exact True.intro) hs ⟨q, hq⟩ ⟨by rw [sizeLine_eq]; simp, hd, _, (rel.put k hb ry).keeps fun c ys ec => ?_, q, es, ep, hq, h2, h3, h4, h5⟩
  rw [upd_ne (ne_of ec e (fun z => nomatch z))]
  exact ec
theorem rd_lrev {K : PySem.W.Frag} {te : TE} {σ : St} {H : Hp} {Q : VK} (h : te σ H fun x H1 => rRevL K x H1 Q) : tLRev K te σ H Q := h
theorem rd_disp1 {tk tv : TE} {σ : St} {H : Hp} {Q : VK} (h : ∀ p, H p = none → tk σ (upd H p (.dT [])) fun x H1 => tv σ H1 fun v H2 => ∃ b k, x = .ref b ∧ H2 b = some (.tup (List.map kV k)) ∧ H2 p = some (.dT []) ∧ Q (.ref p) (upd H2 p (.dT [(k, v)]))) : tDisp1T tk tv σ H Q := h
theorem rd_dnin {ty td : TE} {σ : St} {H : Hp} {Q : VK} (h : ty σ H fun y H1 => td σ H1 fun x H2 => ∃ a o, x = .ref a ∧ DGet H2 a y o ∧ Q (.bl (!o.isSome)) H2) : tDNotIn ty td σ H Q := h
theorem rd_dput {td ty tv : TE} {D : Ends} {σ : St} {H : Hp} (h : tv σ H fun v H1 => td σ H1 fun x H2 => ty σ H2 fun y H3 => ∃ a H4, x = .ref a ∧ DPut H3 a y v H4 ∧ D.nx σ H4) : sDPut td ty tv D σ H := h
end
end L2
set_option Elab.async false
set_option linter.all false
set_option maxRecDepth 100000
set_option maxHeartbeats 4000000
namespace L2
open PySem PySem.Spec PyProof.Rows
section
variable {X : Cx}
theorem LitE.pe {e : Expr} {te : TE} (h : LitE e te) : PE X e te :=
  LitE.rec (motive_1 := fun e te _ => PE X e te) (motive_2 := fun es ta _ => PA X es ta) pe_non pe_bl pe_int pe_str (fun _ ih => pe_tup ih) pa_nil (fun h _ ih1 ih2 => pa_cons ih1 ih2 (h.star _ _)) h
theorem pa_lit {e : Expr} {te : TE} {es : List Expr} {t : TA} (h : LitE e te) (hr : PA X es t) : PA X (e :: es) (tCons te t) := pa_cons h.pe hr (h.star _ _)
end
end L2
set_option linter.all false
namespace St
section
variable {b s : Int} {o a : List Int}
end
end St
set_option linter.all false
namespace St
end St
set_option linter.all false
namespace St
end St
set_option linter.all false
namespace St
end St
set_option linter.all false
namespace St
end St
set_option Elab.async false
set_option linter.all false
namespace Bfs
theorem nodup_le : ∀ (N : Nat) (l : List Nat), l.Nodup → (∀ x ∈ l, x < N) → l.length ≤ N
  | 0, l, _, h => by
    cases l with
    | nil => exact Nat.le_refl _
    | cons x l => exact absurd (h x List.mem_cons_self) (Nat.not_lt_zero _)
  | N + 1, l, hn, h => by
    have ih := nodup_le N (l.erase N) (hn.erase N) (fun x hx => by
      have := h x (List.mem_of_mem_erase hx)
      have hne : x ≠ N := fun e => by
        subst e
        exact (List.Nodup.not_mem_erase hn) hx
      omega)
    by_cases hm : N ∈ l
    · rw [List.length_erase_of_mem hm] at ih
      omega
    · rw [List.erase_of_not_mem hm] at ih
      omega
noncomputable abbrev Pl := Int × Int
noncomputable def inR (T : Int) (x : Pl) : Prop := 0 ≤ x.1 ∧ x.1 < 12 ∧ 0 ≤ x.2 ∧ x.2 ≤ T
theorem nodup_pl {T : Int} {l : List Pl} (hT : T ≤ 2000) (hn : l.Nodup) (h : ∀ x ∈ l, inR T x) : l.length ≤ 24012 := by
  have hmap : (l.map fun x => (x.1 * 2001 + x.2).toNat).Nodup := by
    unfold List.Nodup at hn ⊢
    rw [List.pairwise_map]
    refine List.Pairwise.imp_of_mem ?_ hn
    intro a b ha hb hab e
    obtain ⟨a1, a2, a3, a4⟩ := h a ha
    obtain ⟨b1, b2, b3, b4⟩ := h b hb
    refine hab (Prod.ext ?_ ?_) <;> omega
  have := nodup_le 24012 _ hmap (fun y hy => by
    obtain ⟨x, hx, rfl⟩ := List.mem_map.mp hy
    obtain ⟨a1, a2, a3, a4⟩ := h x hx
    omega)
  rwa [List.length_map] at this
section
variable (nx : Pl → Nat → Option Pl) (s : Pl)
inductive Wk : Nat → Pl → Prop
  | zero : Wk 0 s
  | succ {n : Nat} {x y : Pl} {k : Nat} : Wk n x → nx x k = some y → Wk (n + 1) y
noncomputable def Dist (n : Nat) (x : Pl) : Prop := Wk nx s n x ∧ ∀ m, m < n → ¬ Wk nx s m x
theorem Dist.uniq {n m : Nat} {x : Pl} (h : Dist nx s n x) (g : Dist nx s m x) : n = m := by
  rcases Nat.lt_trichotomy n m with l | l | l
  · exact absurd h.1 (g.2 n l)
  · exact l
  · exact absurd g.1 (h.2 m l)
noncomputable abbrev Ent := Pl × Nat × Option (Pl × Nat)
structure QI (q : List Ent) (i B : Nat) : Prop where
  nd : (q.map (·.1)).Nodup
  par : ∀ e ∈ q, (e.2.2 = none ∧ e.1 = s ∧ e.2.1 = 0) ∨ ∃ p k d o, e.2.2 = some (p, k) ∧ nx p k = some e.1 ∧ e.2.1 = d + 1 ∧ (p, d, o) ∈ q
  le : ∀ e ∈ q, e.2.1 ≤ B + 1
  lo : ∀ j e, q[j]? = some e → i ≤ j → B ≤ e.2.1
  srt : q.Pairwise fun a b => a.2.1 ≤ b.2.1
  cl : ∀ j e, j < i → q[j]? = some e → ∀ k y, nx e.1 k = some y → ∃ e' ∈ q, e'.1 = y ∧ e'.2.1 ≤ e.2.1 + 1
  s0 : (s, 0, none) ∈ q
theorem QI.begin : QI nx s [(s, 0, none)] 0 0 := by
  refine ⟨by simp, ?_, ?_, ?_, by simp, ?_, by simp⟩
  · intro e he
    rw [List.mem_singleton] at he
    subst he
    exact .inl ⟨rfl, rfl, rfl⟩
  · intro e he
    rw [List.mem_singleton] at he
    subst he
    simp
  · intro j e _ _
    exact Nat.zero_le _
  · intro j e hj
    exact absurd hj (Nat.not_lt_zero _)
variable {nx s}
theorem QI.wk {q : List Ent} {i B : Nat} (h : QI nx s q i B) : ∀ (d : Nat) (e : Ent), e ∈ q → e.2.1 = d → Wk nx s d e.1
  | 0, e, he, hd => by
    rcases h.par e he with ⟨_, hs, _⟩ | ⟨p, k, d, o, _, _, hd', _⟩
    · rw [hs]; exact .zero
    · omega
  | d + 1, e, he, hd => by
    rcases h.par e he with ⟨_, _, h0⟩ | ⟨p, k, d', o, _, hn, hd', hm⟩
    · omega
    · have : d' = d := by omega
      subst this
      exact .succ (QI.wk h d' _ hm rfl) hn
theorem QI.all {q : List Ent} {i B : Nat} (h : QI nx s q i B) : ∀ (n : Nat) (y : Pl), Wk nx s n y → (n ≤ B ∨ i = q.length) → ∃ e ∈ q, e.1 = y ∧ e.2.1 ≤ n := by
  intro n y w
  induction w with
  | zero => intro _; exact ⟨_, h.s0, rfl, Nat.le_refl _⟩
  | @succ n x y k w hk ih =>
    intro hB
    obtain ⟨e, he, hx, hd⟩ := ih (by rcases hB with h | h; · left; omega
                                     · exact .inr h)
    obtain ⟨j, hj⟩ := List.getElem?_of_mem he
    have hji : j < i := by
      rcases hB with hB | hB
      · rcases Nat.lt_or_ge j i with l | l
        · exact l
        · have := h.lo j e hj l
          omega
      · rw [hB]
        exact (List.getElem?_eq_some_iff.mp hj).1
    obtain ⟨e', he', hy, hd'⟩ := h.cl j e hji hj k y (by rw [hx]; exact hk)
    exact ⟨e', he', hy, by omega⟩
theorem nd_one {q : List Ent} (hn : (q.map (·.1)).Nodup) {e e' : Ent} (h : e ∈ q) (h' : e' ∈ q) (he : e.1 = e'.1) : e = e' := by
  induction q with
  | nil => cases h
  | cons a q ih =>
    rw [List.map_cons, List.nodup_cons] at hn
    rcases List.mem_cons.mp h with r | r <;> rcases List.mem_cons.mp h' with r' | r'
    · rw [r, r']
    · subst r
      exact absurd (List.mem_map.mpr ⟨e', r', he.symm⟩) hn.1
    · subst r'
      exact absurd (List.mem_map.mpr ⟨e, r, he⟩) hn.1
    · exact ih hn.2 r r'
theorem QI.dist {q : List Ent} {i B : Nat} (h : QI nx s q i B) {e : Ent} (he : e ∈ q) : Dist nx s e.2.1 e.1 := by
  refine ⟨h.wk _ e he rfl, fun m hm w => ?_⟩
  have := h.le e he
  obtain ⟨e', he', hy, hd⟩ := h.all m e.1 w (.inl (by omega))
  have := nd_one h.nd he' he hy
  subst this
  omega
theorem QI.done {q : List Ent} {B : Nat} (h : QI nx s q q.length B) {y : Pl} (hy : y ∉ q.map (·.1)) (n : Nat) : ¬ Dist nx s n y := fun d => by
  obtain ⟨e, he, hx, _⟩ := h.all n y d.1 (.inr rfl)
  exact hy (List.mem_map.mpr ⟨e, he, hx⟩)
theorem srt_at {q : List Ent} (hs : q.Pairwise fun a b => a.2.1 ≤ b.2.1) {i j : Nat} {a b : Ent} (ha : q[i]? = some a) (hb : q[j]? = some b) (hij : i ≤ j) : a.2.1 ≤ b.2.1 := by
  rcases Nat.lt_or_ge i j with l | l
  · obtain ⟨h1, e1⟩ := List.getElem?_eq_some_iff.mp ha
    obtain ⟨h2, e2⟩ := List.getElem?_eq_some_iff.mp hb
    have := List.pairwise_iff_getElem.mp hs i j h1 h2 l
    rw [e1, e2] at this
    exact this
  · have : i = j := by omega
    subst this
    rw [ha] at hb
    cases hb
    exact Nat.le_refl _
theorem QI.deepAt {q : List Ent} {i B : Nat} (h : QI nx s q i B) : ∀ (j : Nat) (e : Ent), q[j]? = some e → e.2.1 ≤ j := by
  intro j
  induction j using Nat.strongRecOn with
  | _ j ih =>
    intro e he
    rcases h.par e (List.mem_of_getElem? he) with ⟨_, _, h0⟩ | ⟨p, k, d, o, _, _, hd, hm⟩
    · omega
    · obtain ⟨j', hj'⟩ := List.getElem?_of_mem hm
      have hlt : j' < j := by
        rcases Nat.lt_or_ge j' j with l | l
        · exact l
        · have := srt_at h.srt he hj' l
          dsimp only at this
          omega
      have := ih j' hlt _ hj'
      dsimp only at this
      omega
theorem QI.deep {q : List Ent} {i B : Nat} (h : QI nx s q i B) {e : Ent} (he : e ∈ q) : e.2.1 ≤ q.length := by
  obtain ⟨j, hj⟩ := List.getElem?_of_mem he
  have h1 := h.deepAt j e hj
  have h2 := (List.getElem?_eq_some_iff.mp hj).1
  omega
structure QF (q : List Ent) (i : Nat) (h : Ent) (ks : List Nat) (m : Nat) : Prop where
  at_ : q[i]? = some h
  nd : (q.map (·.1)).Nodup
  par : ∀ e ∈ q, (e.2.2 = none ∧ e.1 = s ∧ e.2.1 = 0) ∨ ∃ p k d o, e.2.2 = some (p, k) ∧ nx p k = some e.1 ∧ e.2.1 = d + 1 ∧ (p, d, o) ∈ q
  le : ∀ e ∈ q, e.2.1 ≤ h.2.1 + 1
  srt : q.Pairwise fun a b => a.2.1 ≤ b.2.1
  cl : ∀ j e, j < i → q[j]? = some e → ∀ k y, nx e.1 k = some y → ∃ e' ∈ q, e'.1 = y ∧ e'.2.1 ≤ e.2.1 + 1
  ch : ∀ k ∈ ks.take m, ∀ y, nx h.1 k = some y → ∃ e' ∈ q, e'.1 = y ∧ e'.2.1 ≤ h.2.1 + 1
  s0 : (s, 0, none) ∈ q
theorem QI.look {q : List Ent} {i B : Nat} {h : Ent} (H : QI nx s q i B) (ha : q[i]? = some h) (ks : List Nat) : QF (nx := nx) (s := s) q i h ks 0 := by
  refine ⟨ha, H.nd, H.par, fun e he => ?_, H.srt, H.cl, fun k hk => by simp at hk, H.s0⟩
  have := H.le e he
  have := H.lo i h ha (Nat.le_refl _)
  omega
theorem QF.next {q : List Ent} {i : Nat} {h : Ent} {ks : List Nat} (H : QF (nx := nx) (s := s) q i h ks ks.length) (hk : ∀ k y, nx h.1 k = some y → k ∈ ks) : QI nx s q (i + 1) h.2.1 := by
  refine ⟨H.nd, H.par, H.le, fun j e hj hij => srt_at H.srt H.at_ hj (by omega), H.srt, fun j e hj he k y hy => ?_, H.s0⟩
  rcases Nat.lt_or_ge j i with l | l
  · exact H.cl j e l he k y hy
  · have : j = i := by omega
    subst this
    have e' := H.at_
    rw [he] at e'
    cases e'
    exact H.ch k (by rw [List.take_length]; exact hk k y hy) y hy
theorem QF.skip {q : List Ent} {i : Nat} {h : Ent} {ks : List Nat} {m k : Nat} (H : QF (nx := nx) (s := s) q i h ks m) (hk : ks[m]? = some k) (hy : ∀ y, nx h.1 k = some y → y ∈ q.map (·.1)) : QF (nx := nx) (s := s) q i h ks (m + 1) := by
  refine ⟨H.at_, H.nd, H.par, H.le, H.srt, H.cl, fun k' hk' y hy' => ?_, H.s0⟩
  rw [List.take_succ, hk] at hk'
  rcases List.mem_append.mp hk' with z | z
  · exact H.ch k' z y hy'
  · have : k' = k := by simpa using z
    subst this
    obtain ⟨e, he, hx⟩ := List.mem_map.mp (hy y hy')
    exact ⟨e, he, hx, H.le e he⟩
theorem QF.add {q : List Ent} {i : Nat} {h : Ent} {ks : List Nat} {m k : Nat} {y : Pl} (H : QF (nx := nx) (s := s) q i h ks m) (hk : ks[m]? = some k) (hy : nx h.1 k = some y) (hn : y ∉ q.map (·.1)) :
    QF (nx := nx) (s := s) (q ++ [(y, h.2.1 + 1, some (h.1, k))]) i h ks (m + 1) := by
  have hil := (List.getElem?_eq_some_iff.mp H.at_).1
  have hmem : h ∈ q := List.mem_of_getElem? H.at_
  refine ⟨by rw [List.getElem?_append_left hil]; exact H.at_, ?_, ?_, ?_, ?_, ?_, ?_, List.mem_append_left _ H.s0⟩
  · rw [List.map_append, List.nodup_append]
    refine ⟨H.nd, by simp, fun a ha b hb e => ?_⟩
    have : b = y := by simpa using hb
    subst this
    subst e
    exact hn ha
  · intro e he
    rcases List.mem_append.mp he with z | z
    · rcases H.par e z with p | ⟨p, k', d, o, h1, h2, h3, h4⟩
      · exact .inl p
      · exact .inr ⟨p, k', d, o, h1, h2, h3, List.mem_append_left _ h4⟩
    · have : e = (y, h.2.1 + 1, some (h.1, k)) := by simpa using z
      subst this
      exact .inr ⟨h.1, k, h.2.1, h.2.2, rfl, hy, rfl, List.mem_append_left _ hmem⟩
  · intro e he
    rcases List.mem_append.mp he with z | z
    · exact H.le e z
    · have : e = (y, h.2.1 + 1, some (h.1, k)) := by simpa using z
      subst this
      exact Nat.le_refl _
  · rw [List.pairwise_append]
    refine ⟨H.srt, by simp, fun a ha b hb => ?_⟩
    have : b = (y, h.2.1 + 1, some (h.1, k)) := by simpa using hb
    subst this
    exact H.le a ha
  · intro j e hj he k' y' hy'
    rw [List.getElem?_append_left (by omega)] at he
    obtain ⟨e', h1, h2⟩ := H.cl j e hj he k' y' hy'
    exact ⟨e', List.mem_append_left _ h1, h2⟩
  · intro k' hk' y' hy'
    rw [List.take_succ, hk] at hk'
    rcases List.mem_append.mp hk' with z | z
    · obtain ⟨e', h1, h2⟩ := H.ch k' z y' hy'
      exact ⟨e', List.mem_append_left _ h1, h2⟩
    · have : k' = k := by simpa using z
      subst this
      rw [hy] at hy'
      cases hy'
      exact ⟨_, List.mem_append_right _ List.mem_cons_self, rfl, Nat.le_refl _⟩
noncomputable def gone : Pl → List Nat → Option Pl
  | x, [] => some x
  | x, k :: r => (nx x k).bind fun y => gone y r
theorem gone_snoc {y z : Pl} {k : Nat} : ∀ {r : List Nat} {x : Pl}, gone (nx := nx) x r = some y → nx y k = some z → gone (nx := nx) x (r ++ [k]) = some z
  | [], x, h, hk => by
    cases h
    show (nx y k).bind _ = _
    rw [hk]
    rfl
  | a :: r, x, h, hk => by
    show (nx x a).bind _ = _
    have h' : (nx x a).bind (fun y => gone (nx := nx) y r) = some y := h
    cases e : nx x a with
    | none => rw [e] at h'; cases h'
    | some u =>
      rw [e] at h'
      exact gone_snoc h' hk
end
end Bfs
set_option Elab.async false
set_option linter.all false
namespace Bfs
inductive Rw (S : Pl → Pl → Prop) : Nat → Pl → Pl → Prop
  | nil {x : Pl} : Rw S 0 x x
  | snoc {n : Nat} {x y z : Pl} : Rw S n x y → S y z → Rw S (n + 1) x z
theorem Rw.trans {S : Pl → Pl → Prop} {n k : Nat} {x y z : Pl} (h : Rw S n x y) (g : Rw S k y z) : Rw S (n + k) x z := by
  induction g with
  | nil => exact h
  | snoc _ hs ih => exact .snoc (ih h) hs
theorem Rw.cons {S : Pl → Pl → Prop} {n : Nat} {x y z : Pl} (h : S x y) (g : Rw S n y z) : Rw S (n + 1) x z := by
  have := Rw.trans (.snoc .nil h) g
  rwa [show 0 + 1 + n = n + 1 by omega] at this
theorem Wk.rw {nx : Pl → Nat → Option Pl} {s y : Pl} {n : Nat} (h : Wk nx s n y) : Rw (fun a c => ∃ k, nx a k = some c) n s y := by
  induction h with
  | zero => exact .nil
  | succ _ hk ih => exact .snoc ih ⟨_, hk⟩
theorem Rw.wk {nx : Pl → Nat → Option Pl} {s y : Pl} {n : Nat} {S : Pl → Pl → Prop} (hS : ∀ a c, S a c → ∃ k, nx a k = some c) (h : Rw S n s y) : Wk nx s n y := by
  induction h with
  | nil => exact .zero
  | snoc _ hk ih =>
    obtain ⟨k, hk⟩ := hS _ _ hk
    exact .succ ih hk
theorem Rw.rev {S S' : Pl → Pl → Prop} {I : Pl → Prop} (hS : ∀ a c, I a → S a c → S' c a ∧ I c) {n : Nat} {x y : Pl} (h : Rw S n x y) (hx : I x) : Rw S' n y x ∧ I y := by
  induction h with
  | nil => exact ⟨.nil, hx⟩
  | snoc _ hs ih =>
    obtain ⟨i1, i2⟩ := ih hx
    obtain ⟨h1, h2⟩ := hS _ _ i2 hs
    exact ⟨.cons h1 i1, h2⟩
end Bfs
set_option Elab.async false
set_option linter.all false
set_option maxRecDepth 100000
namespace My
open PySem
theorem ar0 {α : Type} {P : List α → Prop} (h : P []) : ∀ us : List α, us.length = 0 → P us := fun us e => by
  cases us with
  | nil => exact h
  | cons a l => cases e
theorem arS {α : Type} {n : Nat} {P : List α → Prop} (h : ∀ a (us : List α), us.length = n → P (a :: us)) : ∀ us : List α, us.length = n + 1 → P us := fun us e => by
  cases us with
  | nil => cases e
  | cons a l => exact h a l (Nat.succ.inj e)
theorem ar1 {α : Type} {P : List α → Prop} (h : ∀ a, P [a]) : ∀ us : List α, us.length = 1 → P us := arS fun a => ar0 (P := fun l => P (a :: l)) (h a)
theorem ar2 {α : Type} {P : List α → Prop} (h : ∀ a b, P [a, b]) : ∀ us : List α, us.length = 2 → P us := arS fun a => ar1 (P := fun l => P (a :: l)) (h a)
theorem ar3 {α : Type} {P : List α → Prop} (h : ∀ a b c, P [a, b, c]) : ∀ us : List α, us.length = 3 → P us := arS fun a => ar2 (P := fun l => P (a :: l)) (h a)
theorem ar4 {α : Type} {P : List α → Prop} (h : ∀ a b c d, P [a, b, c, d]) : ∀ us : List α, us.length = 4 → P us := arS fun a => ar3 (P := fun l => P (a :: l)) (h a)
theorem ar5 {α : Type} {P : List α → Prop} (h : ∀ a b c d e, P [a, b, c, d, e]) : ∀ us : List α, us.length = 5 → P us := arS fun a => ar4 (P := fun l => P (a :: l)) (h a)
theorem ar6 {α : Type} {P : List α → Prop} (h : ∀ a b c d e f, P [a, b, c, d, e, f]) : ∀ us : List α, us.length = 6 → P us := arS fun a => ar5 (P := fun l => P (a :: l)) (h a)
theorem ar7 {α : Type} {P : List α → Prop} (h : ∀ a b c d e f g, P [a, b, c, d, e, f, g]) : ∀ us : List α, us.length = 7 → P us := arS fun a => ar6 (P := fun l => P (a :: l)) (h a)
theorem ar8 {α : Type} {P : List α → Prop} (h : ∀ a b c d e f g h, P [a, b, c, d, e, f, g, h]) : ∀ us : List α, us.length = 8 → P us := arS fun a => ar7 (P := fun l => P (a :: l)) (h a)
theorem ar9 {α : Type} {P : List α → Prop} (h : ∀ a b c d e f g h i, P [a, b, c, d, e, f, g, h, i]) : ∀ us : List α, us.length = 9 → P us := arS fun a => ar8 (P := fun l => P (a :: l)) (h a)
end My
namespace My
open PySem L2 St
set_option maxHeartbeats 4000000
noncomputable def top (i : Nat) : Stmt := PySem.Challenge.pw_stairrooms_k21_known_walks.main.body.getD i (.Pass ⟨0, 0, 0, 0⟩)
local macro_rules | `(tactic| walk_at "cond") => `(tactic| first | decide | omega | (dsimp only; omega) | (unfold CMul; omega) | (unfold CPow; exact ⟨by decide, by decide, by decide⟩) | (dsimp only; exact ⟨by omega, by omega⟩) | exact .inr ⟨by decide, by decide⟩ | exact .inl ⟨by decide, by decide⟩ | (unfold SmallR; omega))
local macro_rules | `(tactic| walk_at "sq") => `(tactic| first | assumption | exact SqL.of (by assumption) | exact SqT.of (by assumption) | exact SqL.of (by solve_by_elim) | exact SqT.of (by solve_by_elim) | solve_by_elim)
local macro_rules | `(tactic| walk_at "rd") => `(tactic| repeat (first | with_reducible refine rd_seq ?_ | with_reducible refine rd_ret ?_ | with_reducible refine rd_retN ?_ | with_reducible refine rd_asg ?_ | with_reducible refine rd_drop ?_ | with_reducible refine rd_ifS ?_ | with_reducible refine rd_next ?_ | with_reducible refine rd_name ?_ | ((with_reducible apply rd_var); (exact rfl)) | with_reducible refine rd_c ?_ | with_reducible refine rd_op ?_ | with_reducible refine rd_un ?_ | with_reducible refine rd_CB ?_ | with_reducible refine rd_cons ?_ | with_reducible refine rd_nil ?_ | with_reducible refine rd_ints ?_ | with_reducible refine rd_test ?_ | with_reducible refine rd_B ?_ | with_reducible refine rd_exb ?_ | with_reducible refine rd_not ?_ | with_reducible refine rd_and ?_ | with_reducible refine rd_or ?_ | with_reducible refine rd_andV ?_ | with_reducible refine rd_orV ?_ | with_reducible refine rd_notV ?_ | with_reducible refine rd_ifE ?_ | with_reducible refine rd_yes ?_ | with_reducible refine rd_I0 ?_ | ((with_reducible apply rd_I); (walk_at "cond")) | with_reducible refine rd_U ?_ | with_reducible refine rd_EqI ?_ | with_reducible refine rd_NeI ?_ | with_reducible refine rd_EqB ?_ | with_reducible refine rd_NeB ?_ | with_reducible refine rd_call ?_ | with_reducible refine rd_BM ?_ | with_reducible refine rd_tup ?_ | with_reducible refine rd_lst ?_ | with_reducible refine rd_sl ?_ | with_reducible refine rd_noPart ?_ | with_reducible refine rd_part ?_ | with_reducible refine rd_exi ?_ | with_reducible refine rd_chain ?_ | with_reducible refine rd_comp ?_ | with_reducible refine rd_iL ?_ | with_reducible refine rd_iT ?_ | with_reducible refine rd_i1 ?_ | with_reducible refine rd_i2 ?_ | with_reducible refine rd_i3 ?_ | with_reducible refine rd_for ?_ | with_reducible refine rd_tTru ?_ | with_reducible refine rd_intB ?_ | with_reducible refine rd_max2 ?_ | with_reducible refine rd_min2 ?_ | with_reducible refine rd_sub ?_ | with_reducible refine rd_gcons ?_ | with_reducible refine rd_gnil ?_ | ((with_reducible apply rd_aug); (exact rfl)) | with_reducible refine rd_ipI ?_ | with_reducible refine rd_zip ?_ | with_reducible refine rd_rev ?_ | with_reducible refine rd_par ?_ | with_reducible refine rd_par2 ?_ | with_reducible refine rd_lam ?_ | with_reducible refine rd_calV ?_ | with_reducible refine rd_raise ?_ | with_reducible refine rd_fs ?_ | with_reducible refine rd_try ?_ | with_reducible refine rd_bseq ?_ | with_reducible refine rd_bnext ?_ | with_reducible refine rd_bplain ?_ | with_reducible refine rd_bif ?_ | with_reducible refine rd_bcall ?_ | with_reducible refine rd_enum ?_ | with_reducible refine rd_gget ?_ | with_reducible refine rd_gin ?_ | with_reducible refine rd_revL ?_ | with_reducible refine rd_leS ?_ | with_reducible refine rd_disp ?_ | with_reducible refine rd_dget ?_ | with_reducible refine rd_lrev ?_ | with_reducible refine rd_disp1 ?_ | with_reducible refine rd_din ?_ | with_reducible refine rd_dnin ?_ | with_reducible refine rd_dput ?_ | with_reducible refine rd_min3 ?_ | dsimp only))
structure Blt (mg : Str → Option Value) : Prop where
  len_ : mg "len" = none
  isinstance_ : mg "isinstance" = none
  tuple_ : mg "tuple" = none
  list_ : mg "list" = none
  int_ : mg "int" = none
  bool_ : mg "bool" = none
  range_ : mg "range" = none
  zip_ : mg "zip" = none
  max_ : mg "max" = none
  min_ : mg "min" = none
  abs_ : mg "abs" = none
  all_ : mg "all" = none
  enumerate_ : mg "enumerate" = none
  set_ : mg "set" = none
  str_ : mg "str" = none
  reversed_ : mg "reversed" = none
noncomputable def isInt : V → Bool
  | .int _ => true
  | _ => false
theorem kind_whole {H : Hp} {v : V} {n : String} (h : kindV H v n) : ∃ b c, isiB n "int" = some b ∧ isiB n "bool" = some c ∧ (b && !c) = isInt v := by
  cases v with
  | non => cases (show n = "NoneType" from h); exact ⟨_, _, rfl, rfl, rfl⟩
  | bl b => cases (show n = "bool" from h); exact ⟨_, _, rfl, rfl, rfl⟩
  | int i => cases (show n = "int" from h); exact ⟨_, _, rfl, rfl, rfl⟩
  | str z => cases (show n = "str" from h); exact ⟨_, _, rfl, rfl, rfl⟩
  | ref a => rcases h with ⟨rfl, xs, e⟩ | ⟨rfl, xs, e⟩ <;> exact ⟨_, _, rfl, rfl, rfl⟩
  | _ => exact False.elim h
noncomputable def sp_is_whole (K : PySem.W.Frag) : Sp := fun vs H Q _ => ∃ v n, vs = [v] ∧ kindV H v n ∧ Q (.bl (isInt v)) H
noncomputable abbrev s_is_whole : Stmt := top 7
theorem sc_is_whole : FnScope ["thing"] ["thing"] (defScope s_is_whole) := ⟨rfl, rfl, rfl, by decide +kernel, rfl, by decide +kernel, by decide +kernel⟩
theorem ok_is_whole {P : Program} {w : World} {K : PySem.W.Frag} {mg : Str → Option Value} {base : Heap} (D : Dfn K mg "is_whole" s_is_whole ["thing"]) (T : Blt mg) : Cal P w K mg base "is_whole" 1 ["thing"] (sp_is_whole K) := by
  have nd := (sc_is_whole).nd
  refine D.ok sc_is_whole (fun vs H Q E h => ?_) (fun X hX H vs Q E h => ?_)
  · obtain ⟨v, n, rfl, _⟩ := h; rfl
  · obtain ⟨f, cdv, A, outer, s, H0, E0, rfl, hr⟩ := hX
    obtain ⟨v, n, rfl, hk, q⟩ := h
    obtain ⟨b, c, hb, hc, e⟩ := kind_whole hk
    refine ⟨_, (no_implicit_lambda% (pss_one (no_implicit_lambda% (ps_ret (no_implicit_lambda% (pe_and (no_implicit_lambda% (pe_callB call_isi rfl T.isinstance_ PyProof.Rows.boot_isinstance (no_implicit_lambda% (pa_cons (no_implicit_lambda% (pv 0)) (no_implicit_lambda% (pa_cons (no_implicit_lambda% (pe_bltn (v := .ty "int") rfl T.int_ PyProof.Rows.boot_int rfl)) pa_nil)))))) (pe_one (no_implicit_lambda% (pe_not (no_implicit_lambda% (pe_callB call_isi rfl T.isinstance_ PyProof.Rows.boot_isinstance (no_implicit_lambda% (pa_cons (no_implicit_lambda% (pv 0)) (no_implicit_lambda% (pa_cons (no_implicit_lambda% (pe_bltn (v := .ty "bool") rfl T.bool_ PyProof.Rows.boot_bool rfl)) pa_nil))))))))))))))), ?_⟩
    walk_at "rd"
    refine rd_isi hk hb ?_
    walk_at "rd"
    cases b with
    | false => refine iteF ?_; rw [← e] at q; exact q
    | true =>
      refine iteT ?_
      walk_at "rd"
      refine rd_isi hk hc ?_
      walk_at "rd"
      rw [← e] at q; exact q
structure Way where
  room : Int
  deed : Str
  other : Int
  sign : Str
  deriving DecidableEq
noncomputable abbrev Way.key (w : Way) : List Key := [.inl w.room, .inr w.deed, .inl w.other, .inr w.sign]
noncomputable abbrev Way.vs (w : Way) : List V := [.int w.room, .str w.deed, .int w.other, .str w.sign]
theorem Way.key_inj {w u : Way} (h : w.key = u.key) : w = u := by
  cases w; cases u
  simp only [Way.key, List.cons.injEq, Sum.inl.injEq, Sum.inr.injEq] at h
  obtain ⟨rfl, rfl, rfl, rfl, _⟩ := h
  rfl
noncomputable def okSign (z : Str) : Prop := ∃ c : Nat, 97 ≤ c ∧ c ≤ 122 ∧ z = ⟨#[c]⟩
noncomputable def okDeed (z : Str) : Prop := z = "up" ∨ z = "down" ∨ z = "stay" ∨ z = "zero"
structure Way.Ok (m : Int) (w : Way) : Prop where
  r0 : 0 ≤ w.room
  r1 : w.room < m
  o0 : 0 ≤ w.other
  o1 : w.other < m
  dd : okDeed w.deed
  sg : okSign w.sign
structure HOuse (m : Int) (ws : List Way) : Prop where
  m1 : 1 ≤ m
  m12 : m ≤ 12
  few : ws.length ≤ 100
  ok : ∀ w ∈ ws, w.Ok m
  nd : ws.Nodup
theorem HOuse.keys {m : Int} {ws : List Way} (h : HOuse m ws) : (ws.map Way.key).Nodup := by
  have := h.nd
  unfold List.Nodup at this ⊢
  rw [List.pairwise_map]
  exact this.imp fun ne e => ne (Way.key_inj e)
noncomputable def HouseAt (H : Hp) (v : V) (m : Int) (ws : List Way) : Prop := ∃ p q, v = .ref p ∧ H p = some (.tup [.int m, .ref q]) ∧ WaysAt H q (ws.map Way.key)
theorem HouseAt.ext {H H' : Hp} {v : V} {m : Int} {ws : List Way} (e : Ext H H') (h : HouseAt H v m ws) : HouseAt H' v m ws := by
  obtain ⟨p, q, rfl, h1, h2⟩ := h
  exact ⟨p, q, rfl, e _ _ h1, h2.ext e⟩
theorem small9 {n : Nat} (h : n ≤ 1000) : n ≤ sizeLine := Nat.le_trans h (by decide)
noncomputable def sp_is_room (K : PySem.W.Frag) : Sp := fun vs H Q _ => ∃ i m, vs = [.int i, .int m] ∧ 0 ≤ i ∧ i < m ∧ Q (.bl true) H
noncomputable abbrev s_is_room : Stmt := top 14
theorem sc_is_room : FnScope ["thing", "many"] ["thing", "many"] (defScope s_is_room) := ⟨rfl, rfl, rfl, by decide +kernel, rfl, by decide +kernel, by decide +kernel⟩
theorem ok_is_room {P : Program} {w : World} {K : PySem.W.Frag} {mg : Str → Option Value} {base : Heap} (D : Dfn K mg "is_room" s_is_room ["thing", "many"]) (T : Blt mg) (C_is_whole : Cal P w K mg base "is_whole" 1 ["thing"] (sp_is_whole K)) : Cal P w K mg base "is_room" 2 ["thing", "many"] (sp_is_room K) := by
  have nd := (sc_is_room).nd
  refine D.ok sc_is_room (fun vs H Q E h => ?_) (fun X hX H vs Q E h => ?_)
  · obtain ⟨i, m, rfl, _⟩ := h; rfl
  · obtain ⟨f, cdv, A, outer, s, H0, E0, rfl, hr⟩ := hX
    obtain ⟨i, m, rfl, h0, h1, q⟩ := h
    refine ⟨_, (no_implicit_lambda% (pss_one (no_implicit_lambda% (ps_ret (no_implicit_lambda% (pe_and (no_implicit_lambda% (pe_cal C_is_whole hr (no_implicit_lambda% (pa_cons (no_implicit_lambda% (pv 0)) pa_nil)))) (pe_one (no_implicit_lambda% (pe_chain op_le op_lt pe_int (no_implicit_lambda% (pv 0)) (no_implicit_lambda% (pv 1))))))))))), ?_⟩
    walk_at "rd"
    refine ⟨_, "int", rfl, rfl, ?_⟩
    refine rd_exb ?_
    refine iteT ?_
    walk_at "rd"
    rw [decide_eq_true h0]
    refine iteT ?_
    walk_at "rd"
    rw [decide_eq_true h1]
    exact q
noncomputable def gd_TURNED : List (Key × V) := [(.inr "up", .str "down"), (.inr "down", .str "up"), (.inr "stay", .str "stay"), (.inr "zero", .str "zero")]
theorem gdk_TURNED {w : World} {K : PySem.W.Frag} {a : Addr} {t1 t2 t3 t4 t5 t6 t7 t8 : Tok} {ep : Nat} (h : K.lookup a = some (gdO w [("up", t1, .str "down" t2), ("down", t3, .str "up" t4), ("stay", t5, .str "stay" t6), ("zero", t7, .str "zero" t8)] ep)) (hs : (a == sysModules) = false) : GDict w K a gd_TURNED :=
  ⟨⟨_, _, h, .cons ⟨rfl, ⟨_, rfl⟩⟩ (.cons ⟨rfl, ⟨_, rfl⟩⟩ (.cons ⟨rfl, ⟨_, rfl⟩⟩ (.cons ⟨rfl, ⟨_, rfl⟩⟩ .nil)))⟩, by decide +kernel, hs⟩
noncomputable def turnD (z : Str) : Str := if z = "up" then "down" else if z = "down" then "up" else z
theorem gd_has {z : Str} (h : okDeed z) : valV gd_TURNED (.inr z) = some (.str (turnD z)) := by
  rcases h with rfl | rfl | rfl | rfl <;> decide +kernel
noncomputable def sp_is_deed (K : PySem.W.Frag) : Sp := fun vs H Q _ => ∃ z, vs = [.str z] ∧ okDeed z ∧ Q (.bl true) H
noncomputable abbrev s_is_deed : Stmt := top 15
theorem sc_is_deed : FnScope ["thing"] ["thing"] (defScope s_is_deed) := ⟨rfl, rfl, rfl, by decide +kernel, rfl, by decide +kernel, by decide +kernel⟩
theorem ok_is_deed {P : Program} {w : World} {K : PySem.W.Frag} {mg : Str → Option Value} {base : Heap} (D : Dfn K mg "is_deed" s_is_deed ["thing"]) (T : Blt mg) (g_TURNED : ∃ a, mg "TURNED" = some (.ref a) ∧ GDict w K a gd_TURNED) : Cal P w K mg base "is_deed" 1 ["thing"] (sp_is_deed K) := by
  have nd := (sc_is_deed).nd
  refine D.ok sc_is_deed (fun vs H Q E h => ?_) (fun X hX H vs Q E h => ?_)
  · obtain ⟨z, rfl, _⟩ := h; rfl
  · obtain ⟨f, cdv, A, outer, s, H0, E0, rfl, hr⟩ := hX
    obtain ⟨a_TURNED, m_TURNED, d_TURNED⟩ := g_TURNED
    obtain ⟨z, rfl, hz, q⟩ := h
    refine ⟨_, (no_implicit_lambda% (pss_one (no_implicit_lambda% (ps_ret (no_implicit_lambda% (pe_and (no_implicit_lambda% (pe_callB call_isi rfl T.isinstance_ PyProof.Rows.boot_isinstance (no_implicit_lambda% (pa_cons (no_implicit_lambda% (pv 0)) (no_implicit_lambda% (pa_cons (no_implicit_lambda% (pe_bltn (v := .ty "str") rfl T.str_ PyProof.Rows.boot_str rfl)) pa_nil)))))) (pe_one (no_implicit_lambda% (pe_cmp (pc_gin rfl m_TURNED d_TURNED (no_implicit_lambda% (pv 0))) (by with_unfolding_all rfl)))))))))), ?_⟩
    walk_at "rd"
    refine rd_isi (n := "str") rfl (b := true) rfl ?_
    walk_at "rd"
    refine iteT ?_
    walk_at "rd"
    refine ⟨.inr z, rfl, ?_⟩
    rw [gd_has hz]
    exact q
theorem sign_lo {c : Nat} (h : 97 ≤ c) : (!decide (([c] : List Nat) < (Str.ofString "a").cps.toList)) = true := by
  have e : (Str.ofString "a").cps.toList = [97] := by decide +kernel
  rw [e, decide_eq_false (fun z => by rw [List.cons_lt_cons_iff] at z; rcases z with z | ⟨_, z⟩; · omega
                                      · cases z)]
  rfl
theorem sign_hi {c : Nat} (h : c ≤ 122) : (!decide ((Str.ofString "z").cps.toList < ([c] : List Nat))) = true := by
  have e : (Str.ofString "z").cps.toList = [122] := by decide +kernel
  rw [e, decide_eq_false (fun z => by rw [List.cons_lt_cons_iff] at z; rcases z with z | ⟨_, z⟩; · omega
                                      · cases z)]
  rfl
noncomputable def sp_is_sign (K : PySem.W.Frag) : Sp := fun vs H Q _ => ∃ z, vs = [.str z] ∧ okSign z ∧ Q (.bl true) H
noncomputable abbrev s_is_sign : Stmt := top 16
theorem sc_is_sign : FnScope ["thing"] ["thing"] (defScope s_is_sign) := ⟨rfl, rfl, rfl, by decide +kernel, rfl, by decide +kernel, by decide +kernel⟩
theorem ok_is_sign {P : Program} {w : World} {K : PySem.W.Frag} {mg : Str → Option Value} {base : Heap} (D : Dfn K mg "is_sign" s_is_sign ["thing"]) (T : Blt mg) : Cal P w K mg base "is_sign" 1 ["thing"] (sp_is_sign K) := by
  have nd := (sc_is_sign).nd
  refine D.ok sc_is_sign (fun vs H Q E h => ?_) (fun X hX H vs Q E h => ?_)
  · obtain ⟨z, rfl, _⟩ := h; rfl
  · obtain ⟨f, cdv, A, outer, s, H0, E0, rfl, hr⟩ := hX
    obtain ⟨z, rfl, ⟨c, hc1, hc2, rfl⟩, q⟩ := h
    refine ⟨_, (no_implicit_lambda% (pss_one (no_implicit_lambda% (ps_ret (no_implicit_lambda% (pe_and (no_implicit_lambda% (pe_callB call_isi rfl T.isinstance_ PyProof.Rows.boot_isinstance (no_implicit_lambda% (pa_cons (no_implicit_lambda% (pv 0)) (no_implicit_lambda% (pa_cons (no_implicit_lambda% (pe_bltn (v := .ty "str") rfl T.str_ PyProof.Rows.boot_str rfl)) pa_nil)))))) (pe_and (no_implicit_lambda% (pe_cmpR op_eq (no_implicit_lambda% (pe_callB call_len_str rfl T.len_ PySem.boot_len (no_implicit_lambda% (pa_cons (no_implicit_lambda% (pv 0)) pa_nil)))) pe_int (nomark _))) (pe_one (no_implicit_lambda% (pe_chain op_leS op_leS pe_str (no_implicit_lambda% (pv 0)) pe_str)))))))))), ?_⟩
    walk_at "rd"
    refine rd_isi (n := "str") rfl (b := true) rfl ?_
    walk_at "rd"
    refine iteT ?_
    walk_at "rd"
    refine ⟨_, rfl, small9 (show 1 ≤ 1000 by decide), ?_⟩
    walk_at "rd"
    refine iteT ?_
    walk_at "rd"
    rw [sign_lo hc1]
    refine iteT ?_
    walk_at "rd"
    rw [sign_hi hc2]
    exact q
theorem kind_tup {H : Hp} {p : Addr} {xs : List V} (h : H p = some (.tup xs)) : kindV H (.ref p) "tuple" := .inr ⟨rfl, xs, h⟩
noncomputable def sp_is_way (K : PySem.W.Frag) : Sp := fun vs H Q _ => ∃ p w m, vs = [.ref p, .int m] ∧ H p = some (.tup (Way.vs w)) ∧ w.Ok m ∧ Q (.bl true) H
noncomputable abbrev s_is_way : Stmt := top 17
theorem sc_is_way : FnScope ["thing", "many"] ["thing", "many"] (defScope s_is_way) := ⟨rfl, rfl, rfl, by decide +kernel, rfl, by decide +kernel, by decide +kernel⟩
theorem ok_is_way {P : Program} {w : World} {K : PySem.W.Frag} {mg : Str → Option Value} {base : Heap} (D : Dfn K mg "is_way" s_is_way ["thing", "many"]) (T : Blt mg) (C_is_sign : Cal P w K mg base "is_sign" 1 ["thing"] (sp_is_sign K)) (C_is_deed : Cal P w K mg base "is_deed" 1 ["thing"] (sp_is_deed K)) (C_is_room : Cal P w K mg base "is_room" 2 ["thing", "many"] (sp_is_room K)) : Cal P w K mg base "is_way" 3 ["thing", "many"] (sp_is_way K) := by
  have nd := (sc_is_way).nd
  refine D.ok sc_is_way (fun vs H Q E h => ?_) (fun X hX H vs Q E h => ?_)
  · obtain ⟨p, w, m, rfl, _⟩ := h; rfl
  · obtain ⟨f, cdv, A, outer, s, H0, E0, rfl, hr⟩ := hX
    obtain ⟨p, w, m, rfl, hp, ok, q⟩ := h
    refine ⟨_, (no_implicit_lambda% (pss_cons (no_implicit_lambda% (ps_if (no_implicit_lambda% (PW.pt (pw_or (no_implicit_lambda% (pt_not (no_implicit_lambda% (pt_val (no_implicit_lambda% (pe_callB call_isi rfl T.isinstance_ PyProof.Rows.boot_isinstance (no_implicit_lambda% (pa_cons (no_implicit_lambda% (pv 0)) (no_implicit_lambda% (pa_cons (no_implicit_lambda% (pe_bltn (v := .ty "tuple") rfl T.tuple_ PyProof.Rows.boot_tuple rfl)) pa_nil)))))))))) (pw_or1 (no_implicit_lambda% (pt_cmpR op_ne (no_implicit_lambda% (pe_callB (call_lenK K) rfl T.len_ PySem.boot_len (no_implicit_lambda% (pa_cons (no_implicit_lambda% (pv 0)) pa_nil)))) pe_int (nomark _))))))) (no_implicit_lambda% (pss_one (no_implicit_lambda% (ps_ret pe_bl)))) pss_nil))
        (no_implicit_lambda% (pss_cons (no_implicit_lambda% (ps_if (no_implicit_lambda% (PW.pt (pw_or (no_implicit_lambda% (pt_not (no_implicit_lambda% (pt_val (no_implicit_lambda% (pe_cal C_is_room hr (no_implicit_lambda% (pa_cons (no_implicit_lambda% (pe_ix (ix_tupK K) (no_implicit_lambda% (pv 0)) pe_int (fun _ _ => rfl))) (no_implicit_lambda% (pa_cons (no_implicit_lambda% (pv 1)) pa_nil)))))))))) (pw_or1 (no_implicit_lambda% (pt_not (no_implicit_lambda% (pt_val (no_implicit_lambda% (pe_cal C_is_room hr (no_implicit_lambda% (pa_cons (no_implicit_lambda% (pe_ix (ix_tupK K) (no_implicit_lambda% (pv 0)) pe_int (fun _ _ => rfl))) (no_implicit_lambda% (pa_cons (no_implicit_lambda% (pv 1)) pa_nil)))))))))))))) (no_implicit_lambda% (pss_one (no_implicit_lambda% (ps_ret pe_bl)))) pss_nil))
        (no_implicit_lambda% (pss_one (no_implicit_lambda% (ps_ret (no_implicit_lambda% (pe_and (no_implicit_lambda% (pe_cal C_is_deed hr (no_implicit_lambda% (pa_cons (no_implicit_lambda% (pe_ix (ix_tupK K) (no_implicit_lambda% (pv 0)) pe_int (fun _ _ => rfl))) pa_nil)))) (pe_one (no_implicit_lambda% (pe_cal C_is_sign hr (no_implicit_lambda% (pa_cons (no_implicit_lambda% (pe_ix (ix_tupK K) (no_implicit_lambda% (pv 0)) pe_int (fun _ _ => rfl))) pa_nil))))))))))))))), ?_⟩
    walk_at "rd"
    refine rd_isi (kind_tup hp) (b := true) rfl ?_
    walk_at "rd"
    refine iteF ?_
    walk_at "rd"
    refine rd_lenT (SqT.of hp) ?_
    walk_at "rd"
    refine iteF ?_
    walk_at "rd"
    refine rd_ixT (SqT.of hp) (v := .int w.room) rfl ?_
    walk_at "rd"
    refine ⟨_, _, rfl, ok.r0, ok.r1, ?_⟩
    walk_at "rd"
    refine iteF ?_
    walk_at "rd"
    refine rd_ixT (SqT.of hp) (v := .int w.other) rfl ?_
    walk_at "rd"
    refine ⟨_, _, rfl, ok.o0, ok.o1, ?_⟩
    walk_at "rd"
    refine iteF ?_
    walk_at "rd"
    refine rd_ixT (SqT.of hp) (v := .str w.deed) rfl ?_
    walk_at "rd"
    refine ⟨_, rfl, ok.dd, ?_⟩
    walk_at "rd"
    refine iteT ?_
    walk_at "rd"
    refine rd_ixT (SqT.of hp) (v := .str w.sign) rfl ?_
    walk_at "rd"
    exact ⟨_, rfl, ok.sg, q⟩
theorem WaysAt.item {H : Hp} {ws : List Way} {bs : List Addr} (h : ∀ (j : Nat) (b : Addr) (k : List Key), bs[j]? = some b → (ws.map Way.key)[j]? = some k → H b = some (.tup (k.map kV))) {j : Nat} {b : Addr} {w : Way} (e1 : bs[j]? = some b) (e2 : ws[j]? = some w) : H b = some (.tup w.vs) :=
  h j b w.key e1 (by rw [List.getElem?_map, e2]; rfl)
noncomputable def sp_are_ways (K : PySem.W.Frag) : Sp := fun vs H Q _ => ∃ q ws m, vs = [.ref q, .int m] ∧ WaysAt H q (ws.map Way.key) ∧ HOuse m ws ∧ ∀ H', Ext H H' → Q (.bl true) H'
noncomputable abbrev s_are_ways : Stmt := top 18
theorem sc_are_ways : FnScope ["thing", "many"] ["thing", "many"] (defScope s_are_ways) := ⟨rfl, rfl, rfl, by decide +kernel, rfl, by decide +kernel, by decide +kernel⟩
theorem ok_are_ways {P : Program} {w : World} {K : PySem.W.Frag} {mg : Str → Option Value} {base : Heap} (D : Dfn K mg "are_ways" s_are_ways ["thing", "many"]) (T : Blt mg) (g_GREATEST_WAYS : ∃ t, mg "GREATEST_WAYS" = some (.int 100 t)) (C_is_way : Cal P w K mg base "is_way" 3 ["thing", "many"] (sp_is_way K)) : Cal P w K mg base "are_ways" 4 ["thing", "many"] (sp_are_ways K) := by
  have nd := (sc_are_ways).nd
  refine D.ok sc_are_ways (fun vs H Q E h => ?_) (fun X hX H vs Q E h => ?_)
  · obtain ⟨p, w, m, rfl, _⟩ := h; rfl
  · obtain ⟨f, cdv, A, outer, s, H0, E0, rfl, hr⟩ := hX
    obtain ⟨t_GREATEST_WAYS, c_GREATEST_WAYS⟩ := g_GREATEST_WAYS
    obtain ⟨q, ws, m, rfl, hw, ok, qq⟩ := h
    obtain ⟨bs, h1, h2, h3⟩ := id hw
    rw [List.length_map] at h2
    have hfew := ok.few
    refine ⟨_, (no_implicit_lambda% (pss_cons (no_implicit_lambda% (ps_if (no_implicit_lambda% (PW.pt (pw_or (no_implicit_lambda% (pt_not (no_implicit_lambda% (pt_val (no_implicit_lambda% (pe_callB call_isi rfl T.isinstance_ PyProof.Rows.boot_isinstance (no_implicit_lambda% (pa_cons (no_implicit_lambda% (pv 0)) (no_implicit_lambda% (pa_cons (no_implicit_lambda% (pe_bltn (v := .ty "tuple") rfl T.tuple_ PyProof.Rows.boot_tuple rfl)) pa_nil)))))))))) (pw_or1 (no_implicit_lambda% (pt_cmpR op_gt (no_implicit_lambda% (pe_callB (call_lenK K) rfl T.len_ PySem.boot_len (no_implicit_lambda% (pa_cons (no_implicit_lambda% (pv 0)) pa_nil)))) (no_implicit_lambda% (pe_glob (v := .int 100) rfl c_GREATEST_WAYS ⟨_, rfl⟩)) (nomark _))))))) (no_implicit_lambda% (pss_one (no_implicit_lambda% (ps_ret pe_bl)))) pss_nil))
        (no_implicit_lambda% (pss_one (no_implicit_lambda% (ps_ret (no_implicit_lambda% (pe_and (no_implicit_lambda% (pe_callB (call_allL K rfl) rfl T.all_ PyProof.Rows.boot_all (no_implicit_lambda% (pa_cons (no_implicit_lambda% (pe_comp ["way"] [1] (no_implicit_lambda% (pi_tupK K (no_implicit_lambda% (pv 0)))) (fun _ => (no_implicit_lambda% (pg_name (i := 0) (show (["way", "many"] : List Str).Nodup from by decide +kernel) rfl (Or.inl rfl) (Or.inr rfl)))) (fun _ => pcs_nil) (fun _ => (no_implicit_lambda% (pe_cal C_is_way hr (no_implicit_lambda% (pa_cons (no_implicit_lambda% (pv 0)) (no_implicit_lambda% (pa_cons (no_implicit_lambda% (pv 1)) pa_nil))))))))) pa_nil)))) (pe_one (no_implicit_lambda% (pe_cmpR op_eq (no_implicit_lambda% (pe_callB call_lenSet rfl T.len_ PySem.boot_len (no_implicit_lambda% (pa_cons (no_implicit_lambda% (pe_callTy (call_setT hr) rfl T.set_ PyProof.Rows.boot_set (no_implicit_lambda% (pa_cons (no_implicit_lambda% (pv 0)) pa_nil)))) pa_nil)))) (no_implicit_lambda% (pe_callB (call_lenK K) rfl T.len_ PySem.boot_len (no_implicit_lambda% (pa_cons (no_implicit_lambda% (pv 0)) pa_nil)))) (nomark _)))))))))))), ?_⟩
    walk_at "rd"
    refine rd_isi (kind_tup h1) (b := true) rfl ?_
    walk_at "rd"
    refine iteF ?_
    walk_at "rd"
    refine rd_lenT (SqT.of h1) ?_
    walk_at "rd"
    rw [decide_eq_false (show ¬ ((100 : Int) < ((bs.map V.ref).length : Nat)) by rw [List.length_map]; omega)]
    refine iteF ?_
    walk_at "rd"
    refine rd_iTx (SqT.of h1) ?_
    refine comp_tup (xs := bs.map V.ref) (fun i ys H' => Ext H H' ∧ ys = (List.replicate i true).map V.bl) (small9 (by rw [List.length_map]; omega)) ⟨fun _ _ z => z, rfl⟩ (fun i ys H' hi h => ⟨SqT.of (h.1 _ _ h1), by rw [h.2]; simp⟩) ?_ ?_
    · rintro i x ys H' hx ⟨e, rfl⟩
      rw [List.getElem?_map] at hx
      obtain ⟨b, hb, rfl⟩ := Option.map_eq_some_iff.mp hx
      have hi : i < ws.length := by
        rw [← h2]
        exact (List.getElem?_eq_some_iff.mp hb).1
      have hwi : ws[i]? = some ws[i] := List.getElem?_eq_getElem hi
      walk_at "rd"
      refine iteT ?_
      walk_at "rd"
      refine ⟨b, ws[i], m, rfl, e _ _ (WaysAt.item h3 hb hwi), ok.ok _ (List.getElem_mem hi), e, ?_⟩
      rw [List.replicate_succ', List.map_append]
      rfl
    · rintro ys H' p ⟨e, rfl⟩ hp
      walk_at "rd"
      have eN : Ext H (upd H' p (.lst ((List.replicate (bs.map V.ref).length true).map V.bl))) := e.trans (ext_upd hp)
      refine ⟨p, List.replicate (bs.map V.ref).length true, rfl, SqL.of upd_same, ?_⟩
      rw [show (List.replicate (bs.map V.ref).length true).all id = true by simp]
      walk_at "rd"
      refine iteT ?_
      walk_at "rd"
      refine rd_setOf (hw.ext eN) ok.keys (by rw [List.length_map]; omega) fun l H2 e2 hl => ?_
      walk_at "rd"
      refine rd_lenSet hl (by rw [List.length_map]; omega) ?_
      walk_at "rd"
      refine rd_lenT (SqT.of ((eN.trans e2) _ _ h1)) ?_
      walk_at "rd"
      rw [show decide (((((ws.map Way.key).length : Nat) : Int)) = ((bs.map V.ref).length : Nat)) = true by rw [List.length_map, List.length_map, h2]; simp]
      exact qq _ (eN.trans e2)
noncomputable def sp_is_house (K : PySem.W.Frag) : Sp := fun vs H Q _ => ∃ v m ws, vs = [v] ∧ HouseAt H v m ws ∧ HOuse m ws ∧ ∀ H', Ext H H' → Q (.bl true) H'
noncomputable abbrev s_is_house : Stmt := top 19
theorem sc_is_house : FnScope ["thing"] ["thing"] (defScope s_is_house) := ⟨rfl, rfl, rfl, by decide +kernel, rfl, by decide +kernel, by decide +kernel⟩
theorem ok_is_house {P : Program} {w : World} {K : PySem.W.Frag} {mg : Str → Option Value} {base : Heap} (D : Dfn K mg "is_house" s_is_house ["thing"]) (T : Blt mg) (g_GREATEST_MANY : ∃ t, mg "GREATEST_MANY" = some (.int 12 t)) (C_are_ways : Cal P w K mg base "are_ways" 4 ["thing", "many"] (sp_are_ways K)) (C_is_whole : Cal P w K mg base "is_whole" 1 ["thing"] (sp_is_whole K)) : Cal P w K mg base "is_house" 5 ["thing"] (sp_is_house K) := by
  have nd := (sc_is_house).nd
  refine D.ok sc_is_house (fun vs H Q E h => ?_) (fun X hX H vs Q E h => ?_)
  · obtain ⟨p, w, m, rfl, _⟩ := h; rfl
  · obtain ⟨f, cdv, A, outer, s, H0, E0, rfl, hr⟩ := hX
    obtain ⟨t_GREATEST_MANY, c_GREATEST_MANY⟩ := g_GREATEST_MANY
    obtain ⟨v, m, ws, rfl, ⟨p, r, rfl, h1, h2⟩, ok, q⟩ := h
    have m1 := ok.m1
    have m2 := ok.m12
    refine ⟨_, (no_implicit_lambda% (pss_cons (no_implicit_lambda% (ps_if (no_implicit_lambda% (PW.pt (pw_or (no_implicit_lambda% (pt_not (no_implicit_lambda% (pt_val (no_implicit_lambda% (pe_callB call_isi rfl T.isinstance_ PyProof.Rows.boot_isinstance (no_implicit_lambda% (pa_cons (no_implicit_lambda% (pv 0)) (no_implicit_lambda% (pa_cons (no_implicit_lambda% (pe_bltn (v := .ty "tuple") rfl T.tuple_ PyProof.Rows.boot_tuple rfl)) pa_nil)))))))))) (pw_or1 (no_implicit_lambda% (pt_cmpR op_ne (no_implicit_lambda% (pe_callB (call_lenK K) rfl T.len_ PySem.boot_len (no_implicit_lambda% (pa_cons (no_implicit_lambda% (pv 0)) pa_nil)))) pe_int (nomark _))))))) (no_implicit_lambda% (pss_one (no_implicit_lambda% (ps_ret pe_bl)))) pss_nil))
        (no_implicit_lambda% (pss_one (no_implicit_lambda% (ps_ret (no_implicit_lambda% (pe_and (no_implicit_lambda% (pe_cal C_is_whole hr (no_implicit_lambda% (pa_cons (no_implicit_lambda% (pe_ix (ix_tupK K) (no_implicit_lambda% (pv 0)) pe_int (fun _ _ => rfl))) pa_nil)))) (pe_and (no_implicit_lambda% (pe_chain op_le op_le pe_int (no_implicit_lambda% (pe_ix (ix_tupK K) (no_implicit_lambda% (pv 0)) pe_int (fun _ _ => rfl))) (no_implicit_lambda% (pe_glob (v := .int 12) rfl c_GREATEST_MANY ⟨_, rfl⟩)))) (pe_one (no_implicit_lambda% (pe_cal C_are_ways hr (no_implicit_lambda% (pa_cons (no_implicit_lambda% (pe_ix (ix_tupK K) (no_implicit_lambda% (pv 0)) pe_int (fun _ _ => rfl))) (no_implicit_lambda% (pa_cons (no_implicit_lambda% (pe_ix (ix_tupK K) (no_implicit_lambda% (pv 0)) pe_int (fun _ _ => rfl))) pa_nil)))))))))))))))), ?_⟩
    walk_at "rd"
    refine rd_isi (kind_tup h1) (b := true) rfl ?_
    walk_at "rd"
    refine iteF ?_
    walk_at "rd"
    refine rd_lenT (SqT.of h1) ?_
    walk_at "rd"
    refine iteF ?_
    walk_at "rd"
    refine rd_ixT (SqT.of h1) (v := .int m) rfl ?_
    walk_at "rd"
    refine ⟨_, "int", rfl, rfl, ?_⟩
    refine rd_exb (iteT ?_)
    walk_at "rd"
    refine rd_ixT (SqT.of h1) (v := .int m) rfl ?_
    walk_at "rd"
    rw [decide_eq_true m1]
    refine iteT ?_
    walk_at "rd"
    rw [decide_eq_true m2]
    refine iteT ?_
    walk_at "rd"
    refine rd_ixT (SqT.of h1) (v := .ref r) rfl ?_
    walk_at "rd"
    refine rd_ixT (SqT.of h1) (v := .int m) rfl ?_
    walk_at "rd"
    exact ⟨r, ws, m, rfl, h2, ok, q⟩
noncomputable def sp_refuse_no_house (K : PySem.W.Frag) : Sp := fun vs H Q _ => ∃ v m ws, vs = [v] ∧ HouseAt H v m ws ∧ HOuse m ws ∧ ∀ H', Ext H H' → Q .non H'
noncomputable abbrev s_refuse_no_house : Stmt := top 20
theorem sc_refuse_no_house : FnScope ["thing"] ["thing"] (defScope s_refuse_no_house) := ⟨rfl, rfl, rfl, by decide +kernel, rfl, by decide +kernel, by decide +kernel⟩
theorem ok_refuse_no_house {P : Program} {w : World} {K : PySem.W.Frag} {mg : Str → Option Value} {base : Heap} (D : Dfn K mg "refuse_no_house" s_refuse_no_house ["thing"]) (T : Blt mg) (C_is_house : Cal P w K mg base "is_house" 5 ["thing"] (sp_is_house K)) : Cal P w K mg base "refuse_no_house" 6 ["thing"] (sp_refuse_no_house K) := by
  have nd := (sc_refuse_no_house).nd
  refine D.ok sc_refuse_no_house (fun vs H Q E h => ?_) (fun X hX H vs Q E h => ?_)
  · obtain ⟨p, w, m, rfl, _⟩ := h; rfl
  · obtain ⟨f, cdv, A, outer, s, H0, E0, rfl, hr⟩ := hX
    obtain ⟨v, m, ws, rfl, h1, ok, q⟩ := h
    refine ⟨_, (no_implicit_lambda% (pss_one (no_implicit_lambda% (ps_if (no_implicit_lambda% (pt_not (no_implicit_lambda% (pt_val (no_implicit_lambda% (pe_cal C_is_house hr (no_implicit_lambda% (pa_cons (no_implicit_lambda% (pv 0)) pa_nil)))))))) (no_implicit_lambda% (pss_one ps_never)) pss_nil)))), ?_⟩
    walk_at "rd"
    refine ⟨v, m, ws, rfl, h1, ok, fun H' e => ?_⟩
    refine rd_exb (iteF ?_)
    walk_at "rd"
    exact q H' e
theorem small_line {n : Nat} (h : n ≤ 1000000) : n ≤ sizeLine := Nat.le_trans h (by decide)
noncomputable def sp__law_cell (K : PySem.W.Frag) : Sp := fun vs H Q _ => ∃ (a : Addr) (ns : List Int) (k : Int), vs = [.ref a, .int k] ∧ SqL K H a (ns.map V.int) ∧ ns.length ≤ 63 ∧ 0 ≤ k ∧ ∀ z, Q (.int z) H
theorem atI_ints {ns : List Int} {i : Int} (h0 : 0 ≤ i) (h : i < ns.length) : ∃ z, atI (ns.map V.int) i = some (.int z) ∧ ns[i.toNat]? = some z := by
  have hi : i.toNat < ns.length := by omega
  refine ⟨ns[i.toNat], atI_of h0 ?_, List.getElem?_eq_getElem hi⟩
  rw [List.getElem?_map, List.getElem?_eq_getElem hi]
  rfl
noncomputable abbrev s__law_cell : Stmt := top 44
theorem sc__law_cell : FnScope ["_law_script", "_law_k"] ["_law_script", "_law_k"] (defScope s__law_cell) := ⟨rfl, rfl, rfl, by decide +kernel, rfl, by decide +kernel, by decide +kernel⟩
theorem ok__law_cell {P : Program} {w : World} {K : PySem.W.Frag} {mg : Str → Option Value} {base : Heap} (D : Dfn K mg "_law_cell" s__law_cell ["_law_script", "_law_k"]) (T : Blt mg) : Cal P w K mg base "_law_cell" 1 ["_law_script", "_law_k"] (sp__law_cell K) := by
  have nd := (sc__law_cell).nd
  refine D.ok sc__law_cell (fun vs H Q E h => ?_) (fun X hX H vs Q E h => ?_)
  · obtain ⟨a, ns, k, rfl, _⟩ := h; rfl
  · obtain ⟨f, cdv, A, outer, s, H0, E0, rfl, hr⟩ := hX
    obtain ⟨a, ns, k, rfl, ha, hl, hk, q⟩ := h
    refine ⟨_, (no_implicit_lambda% (pss_cons (no_implicit_lambda% (ps_if (no_implicit_lambda% (pt_cmpR op_eq (no_implicit_lambda% (pe_callB (call_lenK K) rfl T.len_ PySem.boot_len (no_implicit_lambda% (pa_cons (no_implicit_lambda% (pv 0)) pa_nil)))) pe_int (nomark _))) (no_implicit_lambda% (pss_one (no_implicit_lambda% (ps_ret (no_implicit_lambda% (pe_op op_mul pe_int (no_implicit_lambda% (pe_op op_add (no_implicit_lambda% (pv 1)) pe_int)))))))) pss_nil))
        (no_implicit_lambda% (pss_cons (no_implicit_lambda% (ps_if (no_implicit_lambda% (pt_cmpR op_lt (no_implicit_lambda% (pv 1)) (no_implicit_lambda% (pe_callB (call_lenK K) rfl T.len_ PySem.boot_len (no_implicit_lambda% (pa_cons (no_implicit_lambda% (pv 0)) pa_nil)))) (nomark _))) (no_implicit_lambda% (pss_one (no_implicit_lambda% (ps_ret (no_implicit_lambda% (pe_ix (ix_listK K) (no_implicit_lambda% (pv 0)) (no_implicit_lambda% (pv 1)) (fun _ _ => rfl))))))) pss_nil))
        (no_implicit_lambda% (pss_one (no_implicit_lambda% (ps_ret (no_implicit_lambda% (pe_op op_add (no_implicit_lambda% (pe_ix (ix_listK K) (no_implicit_lambda% (pv 0)) (no_implicit_lambda% (pe_op op_mod (no_implicit_lambda% (pv 1)) (no_implicit_lambda% (pe_callB (call_lenK K) rfl T.len_ PySem.boot_len (no_implicit_lambda% (pa_cons (no_implicit_lambda% (pv 0)) pa_nil)))))) (fun _ _ => rfl))) (no_implicit_lambda% (pe_op op_mul pe_int (no_implicit_lambda% (pv 1)))))))))))))), ?_⟩
    walk_at "rd"
    refine rd_lenL ha ?_
    walk_at "rd"
    rw [List.length_map]
    by_cases h0 : (ns.length : Int) = 0
    · rw [decide_eq_true h0]
      refine iteT ?_
      walk_at "rd"
      exact q _
    · rw [decide_eq_false h0]
      refine iteF ?_
      walk_at "rd"
      refine rd_lenL ha ?_
      walk_at "rd"
      rw [List.length_map]
      by_cases h1 : k < ns.length
      · rw [decide_eq_true h1]
        refine iteT ?_
        obtain ⟨z, hz, _⟩ := atI_ints hk h1
        walk_at "rd"
        refine rd_ixL ha hz ?_
        exact q _
      · rw [decide_eq_false h1]
        refine iteF ?_
        walk_at "rd"
        refine rd_lenL ha ?_
        rw [List.length_map]
        have hp : (0 : Int) < ns.length := by omega
        refine rd_I hp ?_
        obtain ⟨z, hz, _⟩ := atI_ints (ns := ns) (Int.emod_nonneg k (by omega)) (Int.emod_lt_of_pos k hp)
        refine rd_ixL ha hz ?_
        walk_at "rd"
        exact q _
noncomputable def sp__law_mixed (K : PySem.W.Frag) : Sp := fun vs H Q _ => ∃ c k p, vs = [.int c, .int k, .int p] ∧ 0 ≤ k ∧ k < 100000 ∧ 0 < p ∧ ∀ z, 0 ≤ z → z < p → Q (.int z) H
noncomputable abbrev s__law_mixed : Stmt := top 42
theorem sc__law_mixed : FnScope ["_law_cell_here", "_law_k", "_law_prime", "_law_far"] ["_law_cell_here", "_law_k", "_law_prime"] (defScope s__law_mixed) := ⟨rfl, rfl, rfl, by decide +kernel, rfl, by decide +kernel, by decide +kernel⟩
theorem ok__law_mixed {P : Program} {w : World} {K : PySem.W.Frag} {mg : Str → Option Value} {base : Heap} (D : Dfn K mg "_law_mixed" s__law_mixed ["_law_cell_here", "_law_k", "_law_prime"]) (T : Blt mg) : Cal P w K mg base "_law_mixed" 1 ["_law_cell_here", "_law_k", "_law_prime"] (sp__law_mixed K) := by
  have nd := (sc__law_mixed).nd
  refine D.ok sc__law_mixed (fun vs H Q E h => ?_) (fun X hX H vs Q E h => ?_)
  · obtain ⟨c, k, p, rfl, _⟩ := h; rfl
  · obtain ⟨f, cdv, A, outer, s, H0, E0, rfl, hr⟩ := hX
    obtain ⟨c, k, p, rfl, hk, hk2, hp, q⟩ := h
    refine ⟨_, (no_implicit_lambda% (pss_cons (no_implicit_lambda% (ps_set (i := 3) nd rfl (Or.inl rfl) (no_implicit_lambda% (pe_op op_mod (no_implicit_lambda% (pe_op op_mul (no_implicit_lambda% (pe_op op_add (no_implicit_lambda% (pe_op op_add (no_implicit_lambda% (pe_op op_add (no_implicit_lambda% (pv 0)) (no_implicit_lambda% (pe_op op_mul (no_implicit_lambda% (pe_op op_mul pe_int (no_implicit_lambda% (pv 1)))) (no_implicit_lambda% (pv 1)))))) (no_implicit_lambda% (pe_op op_mul pe_int (no_implicit_lambda% (pv 1)))))) pe_int)) pe_int)) pe_int))))
        (no_implicit_lambda% (pss_cons (no_implicit_lambda% (ps_set (i := 3) nd rfl (Or.inl rfl) (no_implicit_lambda% (pe_op op_mod (no_implicit_lambda% (pe_op op_mul (no_implicit_lambda% (pv 3)) (no_implicit_lambda% (pv 3)))) pe_int))))
        (no_implicit_lambda% (pss_one (no_implicit_lambda% (ps_ret (no_implicit_lambda% (pe_op op_mod (no_implicit_lambda% (pe_op op_mul (no_implicit_lambda% (pv 3)) pe_int)) (no_implicit_lambda% (pv 2)))))))))))), ?_⟩
    walk_at "rd"
    exact q _ (Int.emod_nonneg _ (by omega)) (Int.emod_lt_of_pos _ hp)
theorem ext_write {H H2 : Hp} {q : Addr} {o : HO} (e : Ext H H2) (hq : H q = none) : Ext H (upd H2 q o) := fun b u hb => by
  rw [upd_ne (ne_of_none hb hq)]
  exact e b u hb
noncomputable def sp__law_draws (K : PySem.W.Frag) : Sp := fun vs H Q _ => ∃ (c : Int) (w : Addr) (ws : List Int) (p : Int), vs = [.int c, .ref w, .int p] ∧ H w = some (.lst (ws.map V.int)) ∧ (∀ x ∈ ws, 0 < x ∧ x < 2 ^ 40) ∧ ws.length ≤ 10000 ∧ 0 < p ∧
  ∀ (q : Addr) (ds : List Int) (H' : Hp), Ext H H' → H' q = some (.lst (ds.map V.int)) → H q = none → ds.length = ws.length → (∀ (i : Nat) d x, ds[i]? = some d → ws[i]? = some x → 0 ≤ d ∧ d < x) → Q (.ref q) H'
noncomputable abbrev s__law_draws : Stmt := top 43
theorem sc__law_draws : FnScope ["_law_cell_here", "_law_widths", "_law_prime", "_law_left", "_law_found", "_law_k"] ["_law_cell_here", "_law_widths", "_law_prime"] (defScope s__law_draws) := ⟨rfl, rfl, rfl, by decide +kernel, rfl, by decide +kernel, by decide +kernel⟩
theorem ok__law_draws {P : Program} {w : World} {K : PySem.W.Frag} {mg : Str → Option Value} {base : Heap} (D : Dfn K mg "_law_draws" s__law_draws ["_law_cell_here", "_law_widths", "_law_prime"]) (T : Blt mg) (C__law_mixed : Cal P w K mg base "_law_mixed" 1 ["_law_cell_here", "_law_k", "_law_prime"] (sp__law_mixed K)) : Cal P w K mg base "_law_draws" 2 ["_law_cell_here", "_law_widths", "_law_prime"] (sp__law_draws K) := by
  have nd := (sc__law_draws).nd
  refine D.ok sc__law_draws (fun vs H Q E h => ?_) (fun X hX H vs Q E h => ?_)
  · obtain ⟨c, w, ws, p, rfl, _⟩ := h; rfl
  · obtain ⟨f, cdv, A, outer, s, H0, E0, rfl, hr⟩ := hX
    obtain ⟨c, w, ws, p, rfl, hw, hpos, hlen, hp, q⟩ := h
    refine ⟨_, (no_implicit_lambda% (pss_cons (no_implicit_lambda% (ps_set (i := 3) nd rfl (Or.inl rfl) pe_int))
        (no_implicit_lambda% (pss_cons (no_implicit_lambda% (ps_ifJ (no_implicit_lambda% (pt_cmpR op_ge (no_implicit_lambda% (pv 0)) (no_implicit_lambda% (pe_op op_pow pe_int pe_int)) (nomark _))) (no_implicit_lambda% (pss_one (no_implicit_lambda% (ps_set (i := 3) nd rfl (Or.inl rfl) (no_implicit_lambda% (pe_op op_sub (no_implicit_lambda% (pv 0)) (no_implicit_lambda% (pe_op op_pow pe_int pe_int)))))))) pss_nil))
        (no_implicit_lambda% (pss_cons (no_implicit_lambda% (ps_set (i := 4) nd rfl (Or.inl rfl) (no_implicit_lambda% (pe_lst pa_nil))))
        (no_implicit_lambda% (pss_cons (no_implicit_lambda% (ps_for PassesOwn.never rfl (no_implicit_lambda% (pi_range1 rfl T.range_ (no_implicit_lambda% (pa_cons (no_implicit_lambda% (pe_callB (call_lenK K) rfl T.len_ PySem.boot_len (no_implicit_lambda% (pa_cons (no_implicit_lambda% (pv 1)) pa_nil)))) pa_nil)))) (no_implicit_lambda% (pg_name (i := 5) nd rfl (Or.inl rfl))) (no_implicit_lambda% (pss_one (no_implicit_lambda% (ps_ifJ (no_implicit_lambda% (pt_cmpR op_gt (no_implicit_lambda% (pv 3)) pe_int (nomark _))) (no_implicit_lambda% (pss_cons (no_implicit_lambda% (ps_expr (no_implicit_lambda% (pe_bmK K PySem.F.plainAttrs_list PySem.F.slot_list_append PySem.F.type_list_append mt_append (no_implicit_lambda% (pv 4)) (no_implicit_lambda% (pa_cons (no_implicit_lambda% (pe_op op_mod (no_implicit_lambda% (pv 3)) (no_implicit_lambda% (pe_ix (ix_listK K) (no_implicit_lambda% (pv 1)) (no_implicit_lambda% (pv 5)) (fun _ _ => rfl))))) pa_nil))))))
        (no_implicit_lambda% (pss_one (no_implicit_lambda% (ps_set (i := 3) nd rfl (Or.inl rfl) (no_implicit_lambda% (pe_op op_fdivL (no_implicit_lambda% (pv 3)) (no_implicit_lambda% (pe_ix (ix_listK K) (no_implicit_lambda% (pv 1)) (no_implicit_lambda% (pv 5)) (fun _ _ => rfl))))))))))) (no_implicit_lambda% (pss_one (no_implicit_lambda% (ps_expr (no_implicit_lambda% (pe_bmK K PySem.F.plainAttrs_list PySem.F.slot_list_append PySem.F.type_list_append mt_append (no_implicit_lambda% (pv 4)) (no_implicit_lambda% (pa_cons (no_implicit_lambda% (pe_op op_mod (no_implicit_lambda% (pe_cal C__law_mixed hr (no_implicit_lambda% (pa_cons (no_implicit_lambda% (pv 0)) (no_implicit_lambda% (pa_cons (no_implicit_lambda% (pv 5)) (no_implicit_lambda% (pa_cons (no_implicit_lambda% (pv 2)) pa_nil)))))))) (no_implicit_lambda% (pe_ix (ix_listK K) (no_implicit_lambda% (pv 1)) (no_implicit_lambda% (pv 5)) (fun _ _ => rfl))))) pa_nil))))))))))))))
        (no_implicit_lambda% (pss_one (no_implicit_lambda% (ps_ret (no_implicit_lambda% (pv 4)))))))))))))), ?_⟩
    walk_at "rd"
    refine rd_ifJ (fun σ' H' => H' = H ∧ ∃ l, σ' = [some (.int c), some (.ref w), some (.int p), some (.int l), none, none]) ?_ ?_
    · walk_at "rd"
      refine ite2 (fun h => ?_) (fun h => ?_)
      · walk_at "rd"
        exact ⟨rfl, _, rfl⟩
      · walk_at "rd"
        exact ⟨rfl, _, rfl⟩
    rintro σ' H' ⟨rfl, l, rfl⟩
    walk_at "rd"
    refine ⟨small_line (by simp), rd_new fun f H1 e1 hf hfn => ?_⟩
    walk_at "rd"
    refine rd_lenL (SqL.of (e1 _ _ hw)) ?_
    rw [List.length_map]
    walk_at "rd"
    refine rd_i1x (by omega) ?_
    refine forR (fun i σ H2 => Ext H' H2 ∧ ∃ (l : Int) (k : Option V) (ds : List Int), σ = [some (.int c), some (.ref w), some (.int p), some (.int l), some (.ref f), k] ∧ H2 f = some (.lst (ds.map V.int)) ∧ ds.length = i ∧ ∀ (i : Nat) d x, ds[i]? = some d → ws[i]? = some x → 0 ≤ d ∧ d < x)
      ⟨e1, l, none, [], rfl, hf, rfl, fun i d x hd => by simp at hd⟩ ?_ ?_
    · rintro i σ H2 hi ⟨e2, l, k, ds, rfl, hf2, hds, hb⟩
      rw [Int.toNat_natCast] at hi
      have hwi : ws[i]? = some ws[i] := List.getElem?_eq_getElem hi
      have hx := hpos ws[i] (List.getElem_mem hi)
      have hat : atI (ws.map V.int) (0 + (i : Int)) = some (.int ws[i]) := by
        rw [Int.zero_add]
        exact atI_nat (by rw [List.getElem?_map, hwi]; rfl)
      have next : ∀ d, 0 ≤ d → d < ws[i] → ∀ (j : Nat) (d' x : Int), (ds ++ [d])[j]? = some d' → ws[j]? = some x → 0 ≤ d' ∧ d' < x := fun d h0 h1 j d' x hj hx' => by
        rcases Nat.lt_or_ge j ds.length with h | h
        · rw [List.getElem?_append_left h] at hj
          exact hb j d' x hj hx'
        · rw [List.getElem?_append_right h] at hj
          have hj0 : j - ds.length = 0 := by
            rcases Nat.eq_zero_or_pos (j - ds.length) with h | h
            · exact h
            · rw [List.getElem?_eq_none (by simp; omega)] at hj; cases hj
          rw [hj0] at hj
          have hji : j = i := by omega
          subst hji
          rw [hwi] at hx'
          cases hx'
          have : d = d' := by simpa using hj
          rw [← this]
          exact ⟨h0, h1⟩
      walk_at "rd"
      refine rd_ifN ?_
      walk_at "rd"
      refine ite2 (fun h => ?_) (fun h => ?_)
      · have h' : 1 < l := by simpa using h
        walk_at "rd"
        refine ⟨rd_tyL (SqL.of hf2), ?_⟩
        walk_at "rd"
        refine rd_ixL (SqL.of (e2 _ _ hw)) hat ?_
        refine rd_I (show 0 < ws[i] by omega) ?_
        walk_at "rd"
        refine rd_append hf2 (by rw [List.length_map]; exact Nat.lt_of_le_of_lt (show ds.length ≤ 10000 by omega) (by decide)) ?_
        walk_at "rd"
        refine rd_ixL (SqL.of (ext_write e2 hfn _ _ hw)) hat ?_
        refine rd_I (show 0 < ws[i] ∧ ws[i] < 2 ^ 64 by omega) ?_
        walk_at "rd"
        refine ⟨ext_write e2 hfn, _, _, ds ++ [l % ws[i]], rfl, ?_, by rw [List.length_append, hds]; rfl, next _ (Int.emod_nonneg _ (by omega)) (Int.emod_lt_of_pos _ (by omega))⟩
        rw [upd_same, List.map_append]
        rfl
      · walk_at "rd"
        refine ⟨rd_tyL (SqL.of hf2), ?_⟩
        walk_at "rd"
        refine ⟨c, 0 + (i : Int), p, rfl, by omega, by omega, hp, fun z hz0 hz1 => ?_⟩
        walk_at "rd"
        refine rd_ixL (SqL.of (e2 _ _ hw)) hat ?_
        refine rd_I (show 0 < ws[i] by omega) ?_
        walk_at "rd"
        refine rd_append hf2 (by rw [List.length_map]; exact Nat.lt_of_le_of_lt (show ds.length ≤ 10000 by omega) (by decide)) ?_
        walk_at "rd"
        refine ⟨ext_write e2 hfn, _, _, ds ++ [z % ws[i]], rfl, ?_, by rw [List.length_append, hds]; rfl, next _ (Int.emod_nonneg _ (by omega)) (Int.emod_lt_of_pos _ (by omega))⟩
        rw [upd_same, List.map_append]
        rfl
    · rintro σ H2 ⟨e2, l, k, ds, rfl, hf2, hds, hb⟩
      walk_at "rd"
      exact q f ds H2 e2 hf2 hfn (by rw [hds, Int.toNat_natCast]) hb
end My
set_option Elab.async false
set_option linter.all false
set_option maxRecDepth 100000
namespace My
open PySem L2 St
set_option maxHeartbeats 4000000
local macro_rules | `(tactic| walk_at "cond") => `(tactic| first | decide | omega | (dsimp only; omega) | (unfold CMul; omega) | (unfold CPow; exact ⟨by decide, by decide, by decide⟩) | (dsimp only; exact ⟨by omega, by omega⟩) | exact .inr ⟨by decide, by decide⟩ | exact .inl ⟨by decide, by decide⟩ | (unfold SmallR; omega))
local macro_rules | `(tactic| walk_at "sq") => `(tactic| first | assumption | exact SqL.of (by assumption) | exact SqT.of (by assumption) | exact SqL.of (by solve_by_elim) | exact SqT.of (by solve_by_elim) | solve_by_elim)
local macro_rules | `(tactic| walk_at "rd") => `(tactic| repeat (first | with_reducible refine rd_seq ?_ | with_reducible refine rd_ret ?_ | with_reducible refine rd_retN ?_ | with_reducible refine rd_asg ?_ | with_reducible refine rd_drop ?_ | with_reducible refine rd_ifS ?_ | with_reducible refine rd_next ?_ | with_reducible refine rd_name ?_ | ((with_reducible apply rd_var); (exact rfl)) | with_reducible refine rd_c ?_ | with_reducible refine rd_op ?_ | with_reducible refine rd_un ?_ | with_reducible refine rd_CB ?_ | with_reducible refine rd_cons ?_ | with_reducible refine rd_nil ?_ | with_reducible refine rd_ints ?_ | with_reducible refine rd_test ?_ | with_reducible refine rd_B ?_ | with_reducible refine rd_exb ?_ | with_reducible refine rd_not ?_ | with_reducible refine rd_and ?_ | with_reducible refine rd_or ?_ | with_reducible refine rd_andV ?_ | with_reducible refine rd_orV ?_ | with_reducible refine rd_notV ?_ | with_reducible refine rd_ifE ?_ | with_reducible refine rd_yes ?_ | with_reducible refine rd_I0 ?_ | ((with_reducible apply rd_I); (walk_at "cond")) | with_reducible refine rd_U ?_ | with_reducible refine rd_EqI ?_ | with_reducible refine rd_NeI ?_ | with_reducible refine rd_EqB ?_ | with_reducible refine rd_NeB ?_ | with_reducible refine rd_call ?_ | with_reducible refine rd_BM ?_ | with_reducible refine rd_tup ?_ | with_reducible refine rd_lst ?_ | with_reducible refine rd_sl ?_ | with_reducible refine rd_noPart ?_ | with_reducible refine rd_part ?_ | with_reducible refine rd_exi ?_ | with_reducible refine rd_chain ?_ | with_reducible refine rd_comp ?_ | with_reducible refine rd_iL ?_ | with_reducible refine rd_iT ?_ | with_reducible refine rd_i1 ?_ | with_reducible refine rd_i2 ?_ | with_reducible refine rd_i3 ?_ | with_reducible refine rd_for ?_ | with_reducible refine rd_tTru ?_ | with_reducible refine rd_intB ?_ | with_reducible refine rd_max2 ?_ | with_reducible refine rd_min2 ?_ | with_reducible refine rd_sub ?_ | with_reducible refine rd_gcons ?_ | with_reducible refine rd_gnil ?_ | ((with_reducible apply rd_aug); (exact rfl)) | with_reducible refine rd_ipI ?_ | with_reducible refine rd_zip ?_ | with_reducible refine rd_rev ?_ | with_reducible refine rd_par ?_ | with_reducible refine rd_par2 ?_ | with_reducible refine rd_lam ?_ | with_reducible refine rd_calV ?_ | with_reducible refine rd_raise ?_ | with_reducible refine rd_fs ?_ | with_reducible refine rd_try ?_ | with_reducible refine rd_bseq ?_ | with_reducible refine rd_bnext ?_ | with_reducible refine rd_bplain ?_ | with_reducible refine rd_bif ?_ | with_reducible refine rd_bcall ?_ | with_reducible refine rd_enum ?_ | with_reducible refine rd_gget ?_ | with_reducible refine rd_gin ?_ | with_reducible refine rd_revL ?_ | with_reducible refine rd_leS ?_ | with_reducible refine rd_disp ?_ | with_reducible refine rd_dget ?_ | with_reducible refine rd_lrev ?_ | with_reducible refine rd_disp1 ?_ | with_reducible refine rd_din ?_ | with_reducible refine rd_dnin ?_ | with_reducible refine rd_dput ?_ | with_reducible refine rd_min3 ?_ | dsimp only))
noncomputable def AlW (H : Hp) (bs : List Addr) (ws : List Way) : Prop := bs.length = ws.length ∧ ∀ (j : Nat) (b : Addr) (w : Way), bs[j]? = some b → ws[j]? = some w → H b = some (.tup w.vs)
theorem AlW.ext {H H' : Hp} {bs : List Addr} {ws : List Way} (e : Ext H H') (h : AlW H bs ws) : AlW H' bs ws := ⟨h.1, fun j b w e1 e2 => e _ _ (h.2 j b w e1 e2)⟩
theorem AlW.nil (H : Hp) : AlW H [] [] := ⟨rfl, fun j b w e => by simp at e⟩
theorem AlW.snoc {H : Hp} {bs : List Addr} {ws : List Way} {b : Addr} {w : Way} (h : AlW H bs ws) (hb : H b = some (.tup w.vs)) : AlW H (bs ++ [b]) (ws ++ [w]) := by
  refine ⟨by simp [h.1], fun j b' w' e1 e2 => ?_⟩
  rcases Nat.lt_or_ge j bs.length with hj | hj
  · rw [List.getElem?_append_left hj] at e1
    rw [List.getElem?_append_left (by rw [← h.1]; exact hj)] at e2
    exact h.2 j b' w' e1 e2
  · rw [List.getElem?_append_right hj] at e1
    rw [List.getElem?_append_right (by rw [← h.1]; exact hj), ← h.1] at e2
    cases hk : j - bs.length with
    | zero =>
      rw [hk] at e1 e2
      cases e1; cases e2
      exact hb
    | succ k => rw [hk] at e1; simp at e1
theorem AlW.ways {H : Hp} {p : Addr} {bs : List Addr} {ws : List Way} (h : AlW H bs ws) (hp : H p = some (.tup (bs.map V.ref))) : WaysAt H p (ws.map Way.key) :=
  ⟨bs, hp, by rw [List.length_map]; exact h.1, fun j b k e1 e2 => by
    rw [List.getElem?_map] at e2
    obtain ⟨w, hw, rfl⟩ := Option.map_eq_some_iff.mp e2
    exact h.2 j b w e1 hw⟩
theorem WaysAt.al {H : Hp} {p : Addr} {ws : List Way} (h : WaysAt H p (ws.map Way.key)) : ∃ bs : List Addr, H p = some (.tup (bs.map V.ref)) ∧ AlW H bs ws := by
  obtain ⟨bs, h1, h2, h3⟩ := h
  rw [List.length_map] at h2
  exact ⟨bs, h1, h2, fun j b w e1 e2 => WaysAt.item h3 e1 e2⟩
theorem HouseAt.mk {H : Hp} {p q : Addr} {m : Int} {ws : List Way} (h1 : H p = some (.tup [.int m, .ref q])) (h2 : WaysAt H q (ws.map Way.key)) : HouseAt H (.ref p) m ws := ⟨p, q, rfl, h1, h2⟩
theorem sgA : okSign "a" := ⟨97, by decide, by decide, by decide +kernel⟩
theorem sgB : okSign "b" := ⟨98, by decide, by decide, by decide +kernel⟩
theorem sgC : okSign "c" := ⟨99, by decide, by decide, by decide +kernel⟩
theorem okU : okDeed "up" := .inl rfl
theorem okDn : okDeed "down" := .inr (.inl rfl)
theorem okS : okDeed "stay" := .inr (.inr (.inl rfl))
theorem okZ : okDeed "zero" := .inr (.inr (.inr rfl))
theorem line16 {n : Nat} (h : n ≤ 1000) : n < sizeLine := Nat.lt_of_le_of_lt h (by decide)
theorem draws_at {ws ds : List Int} (hl : ds.length = ws.length) (hb : ∀ (i : Nat) (d x : Int), ds[i]? = some d → ws[i]? = some x → 0 ≤ d ∧ d < x) (i : Nat) {x : Int} (hx : ws[i]? = some x) : ∃ d, atI (ds.map V.int) (i : Int) = some (.int d) ∧ 0 ≤ d ∧ d < x := by
  have hi : i < ds.length := by
    rw [hl]
    exact (List.getElem?_eq_some_iff.mp hx).1
  have g : ds[i]? = some ds[i] := List.getElem?_eq_getElem hi
  exact ⟨ds[i], atI_nat (by rw [List.getElem?_map, g]; rfl), hb i _ x g hx⟩
end My
set_option Elab.async false
set_option linter.all false
set_option maxRecDepth 100000
namespace My
open PySem L2 St
set_option maxHeartbeats 4000000
local macro_rules | `(tactic| walk_at "cond") => `(tactic| first | decide | omega | (dsimp only; omega) | (unfold CMul; omega) | (unfold CPow; exact ⟨by decide, by decide, by decide⟩) | (dsimp only; exact ⟨by omega, by omega⟩) | exact .inr ⟨by decide, by decide⟩ | exact .inl ⟨by decide, by decide⟩ | (unfold SmallR; omega))
local macro_rules | `(tactic| walk_at "sq") => `(tactic| first | assumption | exact SqL.of (by assumption) | exact SqT.of (by assumption) | exact SqL.of (by solve_by_elim) | exact SqT.of (by solve_by_elim) | solve_by_elim)
local macro_rules | `(tactic| walk_at "rd") => `(tactic| repeat (first | with_reducible refine rd_seq ?_ | with_reducible refine rd_ret ?_ | with_reducible refine rd_retN ?_ | with_reducible refine rd_asg ?_ | with_reducible refine rd_drop ?_ | with_reducible refine rd_ifS ?_ | with_reducible refine rd_next ?_ | with_reducible refine rd_name ?_ | ((with_reducible apply rd_var); (exact rfl)) | with_reducible refine rd_c ?_ | with_reducible refine rd_op ?_ | with_reducible refine rd_un ?_ | with_reducible refine rd_CB ?_ | with_reducible refine rd_cons ?_ | with_reducible refine rd_nil ?_ | with_reducible refine rd_ints ?_ | with_reducible refine rd_test ?_ | with_reducible refine rd_B ?_ | with_reducible refine rd_exb ?_ | with_reducible refine rd_not ?_ | with_reducible refine rd_and ?_ | with_reducible refine rd_or ?_ | with_reducible refine rd_andV ?_ | with_reducible refine rd_orV ?_ | with_reducible refine rd_notV ?_ | with_reducible refine rd_ifE ?_ | with_reducible refine rd_yes ?_ | with_reducible refine rd_I0 ?_ | ((with_reducible apply rd_I); (walk_at "cond")) | with_reducible refine rd_U ?_ | with_reducible refine rd_EqI ?_ | with_reducible refine rd_NeI ?_ | with_reducible refine rd_EqB ?_ | with_reducible refine rd_NeB ?_ | with_reducible refine rd_call ?_ | with_reducible refine rd_BM ?_ | with_reducible refine rd_tup ?_ | with_reducible refine rd_lst ?_ | with_reducible refine rd_sl ?_ | with_reducible refine rd_noPart ?_ | with_reducible refine rd_part ?_ | with_reducible refine rd_exi ?_ | with_reducible refine rd_chain ?_ | with_reducible refine rd_comp ?_ | with_reducible refine rd_iL ?_ | with_reducible refine rd_iT ?_ | with_reducible refine rd_i1 ?_ | with_reducible refine rd_i2 ?_ | with_reducible refine rd_i3 ?_ | with_reducible refine rd_for ?_ | with_reducible refine rd_tTru ?_ | with_reducible refine rd_intB ?_ | with_reducible refine rd_max2 ?_ | with_reducible refine rd_min2 ?_ | with_reducible refine rd_sub ?_ | with_reducible refine rd_gcons ?_ | with_reducible refine rd_gnil ?_ | ((with_reducible apply rd_aug); (exact rfl)) | with_reducible refine rd_ipI ?_ | with_reducible refine rd_zip ?_ | with_reducible refine rd_rev ?_ | with_reducible refine rd_par ?_ | with_reducible refine rd_par2 ?_ | with_reducible refine rd_lam ?_ | with_reducible refine rd_calV ?_ | with_reducible refine rd_raise ?_ | with_reducible refine rd_fs ?_ | with_reducible refine rd_try ?_ | with_reducible refine rd_bseq ?_ | with_reducible refine rd_bnext ?_ | with_reducible refine rd_bplain ?_ | with_reducible refine rd_bif ?_ | with_reducible refine rd_bcall ?_ | with_reducible refine rd_enum ?_ | with_reducible refine rd_gget ?_ | with_reducible refine rd_gin ?_ | with_reducible refine rd_revL ?_ | with_reducible refine rd_leS ?_ | with_reducible refine rd_disp ?_ | with_reducible refine rd_dget ?_ | with_reducible refine rd_lrev ?_ | with_reducible refine rd_disp1 ?_ | with_reducible refine rd_din ?_ | with_reducible refine rd_dnin ?_ | with_reducible refine rd_dput ?_ | with_reducible refine rd_min3 ?_ | dsimp only))
noncomputable def sp__law_number (K : PySem.W.Frag) : Sp := fun vs H Q _ => ∃ c p, vs = [.int c, .int p] ∧ 0 < p ∧ ∀ n H', Ext H H' → 0 ≤ n → n ≤ 1000 → Q (.int n) H'
noncomputable abbrev s__law_number : Stmt := top 45
theorem sc__law_number : FnScope ["_law_cell_here", "_law_prime", "_law_draws_here"] ["_law_cell_here", "_law_prime"] (defScope s__law_number) := ⟨rfl, rfl, rfl, by decide +kernel, rfl, by decide +kernel, by decide +kernel⟩
theorem ok__law_number {P : Program} {w : World} {K : PySem.W.Frag} {mg : Str → Option Value} {base : Heap} (D : Dfn K mg "_law_number" s__law_number ["_law_cell_here", "_law_prime"]) (T : Blt mg) (C__law_draws : Cal P w K mg base "_law_draws" 2 ["_law_cell_here", "_law_widths", "_law_prime"] (sp__law_draws K)) : Cal P w K mg base "_law_number" 3 ["_law_cell_here", "_law_prime"] (sp__law_number K) := by
  have nd := (sc__law_number).nd
  refine D.ok sc__law_number (fun vs H Q E h => ?_) (fun X hX H vs Q E h => ?_)
  · obtain ⟨c, p, rfl, _⟩ := h; rfl
  · obtain ⟨f, cdv, A, outer, s, H0, E0, rfl, hr⟩ := hX
    obtain ⟨c, p, rfl, hp, q⟩ := h
    refine ⟨_, (no_implicit_lambda% (pss_cons (no_implicit_lambda% (ps_set (i := 2) nd rfl (Or.inl rfl) (no_implicit_lambda% (pe_cal C__law_draws hr (no_implicit_lambda% (pa_cons (no_implicit_lambda% (pv 0)) (no_implicit_lambda% (pa_cons (no_implicit_lambda% (pe_lst (no_implicit_lambda% (pa_ints (.c (.c (.c (.c .n)))))))) (no_implicit_lambda% (pa_cons (no_implicit_lambda% (pv 1)) pa_nil))))))))))
        (no_implicit_lambda% (pss_cons (no_implicit_lambda% (ps_if (no_implicit_lambda% (pt_cmpR op_eq (no_implicit_lambda% (pe_ix (ix_listK K) (no_implicit_lambda% (pv 2)) pe_int (fun _ _ => rfl))) pe_int (nomark _))) (no_implicit_lambda% (pss_one (no_implicit_lambda% (ps_ret (no_implicit_lambda% (pe_ix (ix_listK K) (no_implicit_lambda% (pv 2)) pe_int (fun _ _ => rfl))))))) pss_nil))
        (no_implicit_lambda% (pss_cons (no_implicit_lambda% (ps_if (no_implicit_lambda% (pt_cmpR op_eq (no_implicit_lambda% (pe_ix (ix_listK K) (no_implicit_lambda% (pv 2)) pe_int (fun _ _ => rfl))) pe_int (nomark _))) (no_implicit_lambda% (pss_one (no_implicit_lambda% (ps_ret (no_implicit_lambda% (pe_ix (ix_listK K) (no_implicit_lambda% (pv 2)) pe_int (fun _ _ => rfl))))))) pss_nil))
        (no_implicit_lambda% (pss_one (no_implicit_lambda% (ps_ret (no_implicit_lambda% (pe_ix (ix_listK K) (no_implicit_lambda% (pv 2)) pe_int (fun _ _ => rfl))))))))))))), ?_⟩
    walk_at "rd"
    refine ⟨small_line (by simp), rd_new fun w0 G1 f1 hw0 _ => ?_⟩
    walk_at "rd"
    refine ⟨c, w0, [8, 13, 201, 1001], p, rfl, hw0, by decide, by decide, hp, fun dq ds H1 e1 hd hdn hl hb => ?_⟩
    have eH : Ext H H1 := f1.trans e1
    obtain ⟨d0, g0, _⟩ := draws_at hl hb 0 rfl
    obtain ⟨d1, g1, b10, b11⟩ := draws_at hl hb 1 rfl
    obtain ⟨d2, g2, b20, b21⟩ := draws_at hl hb 2 rfl
    obtain ⟨d3, g3, b30, b31⟩ := draws_at hl hb 3 rfl
    walk_at "rd"
    refine rd_ixL (SqL.of hd) g0 ?_
    walk_at "rd"
    refine ite2 (fun h => ?_) (fun h => ?_)
    · walk_at "rd"
      refine rd_ixL (SqL.of hd) g3 ?_
      exact q _ _ eH (by omega) (by omega)
    · walk_at "rd"
      refine rd_ixL (SqL.of hd) g0 ?_
      walk_at "rd"
      refine ite2 (fun h => ?_) (fun h => ?_)
      · walk_at "rd"
        refine rd_ixL (SqL.of hd) g2 ?_
        exact q _ _ eH (by omega) (by omega)
      · walk_at "rd"
        refine rd_ixL (SqL.of hd) g1 ?_
        exact q _ _ eH (by omega) (by omega)
noncomputable def Way.turn (w : Way) : Way := ⟨w.other, turnD w.deed, w.room, w.sign⟩
theorem turnD_ok {z : Str} (h : okDeed z) : okDeed (turnD z) := by
  rcases h with rfl | rfl | rfl | rfl
  · exact .inr (.inl (by decide +kernel))
  · exact .inl (by decide +kernel)
  · exact .inr (.inr (.inl (by decide +kernel)))
  · exact .inr (.inr (.inr (by decide +kernel)))
theorem turnD_turn {z : Str} (h : okDeed z) : turnD (turnD z) = z := by
  rcases h with rfl | rfl | rfl | rfl <;> decide +kernel
theorem Way.turn_turn {m : Int} {w : Way} (h : w.Ok m) : w.turn.turn = w := by
  obtain ⟨a, b, c, d⟩ := w
  show (⟨a, turnD (turnD b), c, d⟩ : Way) = _
  rw [turnD_turn h.dd]
theorem Way.Ok.turn {m : Int} {w : Way} (h : w.Ok m) : w.turn.Ok m := ⟨h.o0, h.o1, h.r0, h.r1, turnD_ok h.dd, h.sg⟩
theorem turns_turn {m : Int} {ws : List Way} (h : ∀ w ∈ ws, w.Ok m) : (ws.map Way.turn).map Way.turn = ws := by
  rw [List.map_map]
  conv => rhs; rw [← List.map_id ws]
  exact List.map_congr_left fun w hw => Way.turn_turn (h w hw)
theorem HOuse.turn {m : Int} {ws : List Way} (h : HOuse m ws) : HOuse m (ws.map Way.turn) where
  m1 := h.m1
  m12 := h.m12
  few := by rw [List.length_map]; exact h.few
  ok := fun w hw => by
    obtain ⟨u, hu, rfl⟩ := List.mem_map.mp hw
    exact (h.ok u hu).turn
  nd := by
    have nd := h.nd
    unfold List.Nodup at nd ⊢
    rw [List.pairwise_map]
    refine nd.imp_of_mem fun {a b} ha hb ne e => ne ?_
    rw [← Way.turn_turn (h.ok a ha), ← Way.turn_turn (h.ok b hb), e]
end My
set_option Elab.async false
set_option linter.all false
set_option maxRecDepth 100000
namespace My
open PySem L2 St
set_option maxHeartbeats 4000000
local macro_rules | `(tactic| walk_at "cond") => `(tactic| first | decide | omega | (dsimp only; omega) | (unfold CMul; omega) | (unfold CPow; exact ⟨by decide, by decide, by decide⟩) | (dsimp only; exact ⟨by omega, by omega⟩) | exact .inr ⟨by decide, by decide⟩ | exact .inl ⟨by decide, by decide⟩ | (unfold SmallR; omega))
local macro_rules | `(tactic| walk_at "sq") => `(tactic| first | assumption | exact SqL.of (by assumption) | exact SqT.of (by assumption) | exact SqL.of (by solve_by_elim) | exact SqT.of (by solve_by_elim) | solve_by_elim)
local macro_rules | `(tactic| walk_at "rd") => `(tactic| repeat (first | with_reducible refine rd_seq ?_ | with_reducible refine rd_ret ?_ | with_reducible refine rd_retN ?_ | with_reducible refine rd_asg ?_ | with_reducible refine rd_drop ?_ | with_reducible refine rd_ifS ?_ | with_reducible refine rd_next ?_ | with_reducible refine rd_name ?_ | ((with_reducible apply rd_var); (exact rfl)) | with_reducible refine rd_c ?_ | with_reducible refine rd_op ?_ | with_reducible refine rd_un ?_ | with_reducible refine rd_CB ?_ | with_reducible refine rd_cons ?_ | with_reducible refine rd_nil ?_ | with_reducible refine rd_ints ?_ | with_reducible refine rd_test ?_ | with_reducible refine rd_B ?_ | with_reducible refine rd_exb ?_ | with_reducible refine rd_not ?_ | with_reducible refine rd_and ?_ | with_reducible refine rd_or ?_ | with_reducible refine rd_andV ?_ | with_reducible refine rd_orV ?_ | with_reducible refine rd_notV ?_ | with_reducible refine rd_ifE ?_ | with_reducible refine rd_yes ?_ | with_reducible refine rd_I0 ?_ | ((with_reducible apply rd_I); (walk_at "cond")) | with_reducible refine rd_U ?_ | with_reducible refine rd_EqI ?_ | with_reducible refine rd_NeI ?_ | with_reducible refine rd_EqB ?_ | with_reducible refine rd_NeB ?_ | with_reducible refine rd_call ?_ | with_reducible refine rd_BM ?_ | with_reducible refine rd_tup ?_ | with_reducible refine rd_lst ?_ | with_reducible refine rd_sl ?_ | with_reducible refine rd_noPart ?_ | with_reducible refine rd_part ?_ | with_reducible refine rd_exi ?_ | with_reducible refine rd_chain ?_ | with_reducible refine rd_comp ?_ | with_reducible refine rd_iL ?_ | with_reducible refine rd_iT ?_ | with_reducible refine rd_i1 ?_ | with_reducible refine rd_i2 ?_ | with_reducible refine rd_i3 ?_ | with_reducible refine rd_for ?_ | with_reducible refine rd_tTru ?_ | with_reducible refine rd_intB ?_ | with_reducible refine rd_max2 ?_ | with_reducible refine rd_min2 ?_ | with_reducible refine rd_sub ?_ | with_reducible refine rd_gcons ?_ | with_reducible refine rd_gnil ?_ | ((with_reducible apply rd_aug); (exact rfl)) | with_reducible refine rd_ipI ?_ | with_reducible refine rd_zip ?_ | with_reducible refine rd_rev ?_ | with_reducible refine rd_par ?_ | with_reducible refine rd_par2 ?_ | with_reducible refine rd_lam ?_ | with_reducible refine rd_calV ?_ | with_reducible refine rd_raise ?_ | with_reducible refine rd_fs ?_ | with_reducible refine rd_try ?_ | with_reducible refine rd_bseq ?_ | with_reducible refine rd_bnext ?_ | with_reducible refine rd_bplain ?_ | with_reducible refine rd_bif ?_ | with_reducible refine rd_bcall ?_ | with_reducible refine rd_enum ?_ | with_reducible refine rd_gget ?_ | with_reducible refine rd_gin ?_ | with_reducible refine rd_revL ?_ | with_reducible refine rd_leS ?_ | with_reducible refine rd_disp ?_ | with_reducible refine rd_dget ?_ | with_reducible refine rd_lrev ?_ | with_reducible refine rd_disp1 ?_ | with_reducible refine rd_din ?_ | with_reducible refine rd_dnin ?_ | with_reducible refine rd_dput ?_ | with_reducible refine rd_min3 ?_ | dsimp only))
theorem dec_str {a b : Str} : decide (V.str a = V.str b) = decide (a = b) := by
  by_cases h : a = b
  · subst h; simp
  · rw [decide_eq_false h, decide_eq_false (fun z => h (V.str.inj z))]
theorem rd_EqS {a b : Str} {H : Hp} {Q : VK} (h : Q (.bl (decide (a = b))) H) : rEq (.str a) (.str b) H Q := ⟨rfl, by rw [dec_str]; exact h⟩
theorem rd_NeS {a b : Str} {H : Hp} {Q : VK} (h : Q (.bl (!decide (a = b))) H) : rNe (.str a) (.str b) H Q := ⟨rfl, by rw [dec_str]; exact h⟩
theorem paired_at {α β : Type} {F : α → β → Prop} {cs : List α} {ts : List β} (h : Paired F cs ts) : ∀ {i : Nat} {c : α}, cs[i]? = some c → ∃ t, ts[i]? = some t ∧ F c t := by
  induction h with
  | nil => intro i c e; simp at e
  | cons h t ih =>
    intro i c e
    cases i with
    | zero => cases e; exact ⟨_, rfl, h⟩
    | succ i => exact ih e
theorem paired_ta {α β : Type} {F : α → β → Prop} {cs : List α} {ts : List β} (h : Paired F cs ts) : ∀ {i : Nat} {t : β}, ts[i]? = some t → ∃ c, cs[i]? = some c ∧ F c t := by
  induction h with
  | nil => intro i c e; simp at e
  | cons h t ih =>
    intro i c e
    cases i with
    | zero => cases e; exact ⟨_, rfl, h⟩
    | succ i => exact ih e
noncomputable abbrev PlAt (H : Hp) (a : Addr) (x : Bfs.Pl) : Prop := H a = some (.tup [.int x.1, .int x.2])
noncomputable abbrev plK (x : Bfs.Pl) : List Key := [.inl x.1, .inl x.2]
theorem plK_inj {x y : Bfs.Pl} (h : plK x = plK y) : x = y := by
  simp only [plK, List.cons.injEq, Sum.inl.injEq, and_true] at h
  exact Prod.ext h.1 h.2
theorem PlAt.put {H : Hp} {f a : Addr} {x : Bfs.Pl} {o o' : HO} (hf : H f = some o) (hn : ∀ xs, o ≠ .tup xs) (h : PlAt H a x) : PlAt (upd H f o') a x := by
  show upd H f o' a = _
  rw [upd_ne (ne_of h hf (fun z => hn _ z.symm))]
  exact h
noncomputable def inH (m : Int) (x : Bfs.Pl) : Prop := 0 ≤ x.1 ∧ x.1 < m ∧ 0 ≤ x.2 ∧ x.2 ≤ 1000
noncomputable def sp_refuse_bad_places (K : PySem.W.Frag) : Sp := fun vs H Q _ => ∃ hp hq m l as xs, vs = [.ref hp, .ref l] ∧ H hp = some (.tup [.int m, hq]) ∧ H l = some (.lst (List.map V.ref as)) ∧ Paired (PlAt H) as xs ∧ (∀ x ∈ xs, inH m x) ∧ Q .non H
noncomputable abbrev s_refuse_bad_places : Stmt := top 21
theorem sc_refuse_bad_places : FnScope ["house", "places", "place"] ["house", "places"] (defScope s_refuse_bad_places) := ⟨rfl, rfl, rfl, by decide +kernel, rfl, by decide +kernel, by decide +kernel⟩
theorem ok_refuse_bad_places {P : Program} {w : World} {K : PySem.W.Frag} {mg : Str → Option Value} {base : Heap} (D : Dfn K mg "refuse_bad_places" s_refuse_bad_places ["house", "places"]) (T : Blt mg) (g_GREATEST_NUMBER : ∃ t, mg "GREATEST_NUMBER" = some (.int 1000 t)) (C_is_room : Cal P w K mg base "is_room" 2 ["thing", "many"] (sp_is_room K)) : Cal P w K mg base "refuse_bad_places" 3 ["house", "places"] (sp_refuse_bad_places K) := by
  have nd := (sc_refuse_bad_places).nd
  refine D.ok sc_refuse_bad_places (fun vs H Q E h => ?_) (fun X hX H vs Q E h => ?_)
  · obtain ⟨hp, hq, m, l, as, xs, rfl, _⟩ := h; rfl
  · obtain ⟨f, cdv, A, outer, s, H0, E0, rfl, hr⟩ := hX
    obtain ⟨t_GREATEST_NUMBER, c_GREATEST_NUMBER⟩ := g_GREATEST_NUMBER
    obtain ⟨hp, hq, m, l, as, xs, rfl, h1, h2, h3, hin, q⟩ := h
    refine ⟨_, (no_implicit_lambda% (pss_cons (no_implicit_lambda% (ps_for PassesOwn.never rfl (no_implicit_lambda% (pi_listK K (no_implicit_lambda% (pv 1)))) (no_implicit_lambda% (pg_name (i := 2) nd rfl (Or.inl rfl))) (no_implicit_lambda% (pss_one (no_implicit_lambda% (ps_if (no_implicit_lambda% (PW.pt (pw_or (no_implicit_lambda% (pt_not (no_implicit_lambda% (pt_val (no_implicit_lambda% (pe_cal C_is_room hr (no_implicit_lambda% (pa_cons (no_implicit_lambda% (pe_ix (ix_tupK K) (no_implicit_lambda% (pv 2)) pe_int (fun _ _ => rfl))) (no_implicit_lambda% (pa_cons (no_implicit_lambda% (pe_ix (ix_tupK K) (no_implicit_lambda% (pv 0)) pe_int (fun _ _ => rfl))) pa_nil)))))))))) (pw_or1 (no_implicit_lambda% (pt_cmpR op_lt (no_implicit_lambda% (pe_ix (ix_tupK K) (no_implicit_lambda% (pv 2)) pe_int (fun _ _ => rfl))) pe_int (nomark _))))))) (no_implicit_lambda% (pss_one ps_never)) pss_nil))))))
        (no_implicit_lambda% (pss_one (no_implicit_lambda% (ps_for PassesOwn.never rfl (no_implicit_lambda% (pi_listK K (no_implicit_lambda% (pv 1)))) (no_implicit_lambda% (pg_name (i := 2) nd rfl (Or.inl rfl))) (no_implicit_lambda% (pss_one (no_implicit_lambda% (ps_if (no_implicit_lambda% (pt_cmpR op_gt (no_implicit_lambda% (pe_ix (ix_tupK K) (no_implicit_lambda% (pv 2)) pe_int (fun _ _ => rfl))) (no_implicit_lambda% (pe_glob (v := .int 1000) rfl c_GREATEST_NUMBER ⟨_, rfl⟩)) (nomark _))) (no_implicit_lambda% (pss_one ps_never)) pss_nil)))))))))), ?_⟩
    walk_at "rd"
    refine rd_iLx (SqL.of h2) ?_
    refine forL (xs := List.map V.ref as) (fun i σ H' => H' = H ∧ ∃ k, σ = [some (.ref hp), some (.ref l), k]) ⟨rfl, none, rfl⟩ (fun i σ H' _ h => by rw [h.1]; exact SqL.of h2) ?_ ?_
    · rintro i x σ H' hx ⟨rfl, k, rfl⟩
      rw [List.getElem?_map] at hx
      obtain ⟨b, hb, rfl⟩ := Option.map_eq_some_iff.mp hx
      obtain ⟨t, ht, hp3⟩ := paired_at h3 hb
      obtain ⟨r0, r1, n0, n1⟩ := hin t (List.mem_of_getElem? ht)
      walk_at "rd"
      refine rd_ixT (SqT.of hp3) (v := .int t.1) rfl ?_
      walk_at "rd"
      refine rd_ixT (SqT.of h1) (v := .int m) rfl ?_
      walk_at "rd"
      refine ⟨_, _, rfl, r0, r1, ?_⟩
      walk_at "rd"
      refine iteF ?_
      walk_at "rd"
      refine rd_ixT (SqT.of hp3) (v := .int t.2) rfl ?_
      walk_at "rd"
      rw [decide_eq_false (show ¬ t.2 < 0 by omega)]
      refine iteF ?_
      walk_at "rd"
      exact ⟨rfl, _, rfl⟩
    · rintro σ H' ⟨rfl, k, rfl⟩
      walk_at "rd"
      refine rd_iLx (SqL.of h2) ?_
      refine forL (xs := List.map V.ref as) (fun i σ H2 => H2 = H' ∧ ∃ k, σ = [some (.ref hp), some (.ref l), k]) ⟨rfl, _, rfl⟩ (fun i σ H2 _ h => by rw [h.1]; exact SqL.of h2) ?_ ?_
      · rintro i x σ H2 hx ⟨rfl, k, rfl⟩
        rw [List.getElem?_map] at hx
        obtain ⟨b, hb, rfl⟩ := Option.map_eq_some_iff.mp hx
        obtain ⟨t, ht, hp3⟩ := paired_at h3 hb
        obtain ⟨r0, r1, n0, n1⟩ := hin t (List.mem_of_getElem? ht)
        walk_at "rd"
        refine rd_ixT (SqT.of hp3) (v := .int t.2) rfl ?_
        walk_at "rd"
        rw [decide_eq_false (show ¬ (1000 : Int) < t.2 by omega)]
        refine iteF ?_
        walk_at "rd"
        exact ⟨rfl, _, rfl⟩
      · rintro σ H2 ⟨rfl, k, rfl⟩
        walk_at "rd"
        exact q
noncomputable def opn (w : Way) (r n : Int) : Bool := decide (w.room = r) && (if decide (w.deed = "down") = true then decide (0 < n) else (!decide (w.deed = "zero") || decide (n = 0)))
noncomputable def sp_is_open (K : PySem.W.Frag) : Sp := fun vs H Q _ => ∃ b w p x, vs = [.ref b, .ref p] ∧ H b = some (.tup (Way.vs w)) ∧ PlAt H p x ∧ Q (.bl (opn w x.1 x.2)) H
noncomputable abbrev s_is_open : Stmt := top 22
theorem sc_is_open : FnScope ["way", "place"] ["way", "place"] (defScope s_is_open) := ⟨rfl, rfl, rfl, by decide +kernel, rfl, by decide +kernel, by decide +kernel⟩
theorem ok_is_open {P : Program} {w : World} {K : PySem.W.Frag} {mg : Str → Option Value} {base : Heap} (D : Dfn K mg "is_open" s_is_open ["way", "place"]) (T : Blt mg) : Cal P w K mg base "is_open" 1 ["way", "place"] (sp_is_open K) := by
  have nd := (sc_is_open).nd
  refine D.ok sc_is_open (fun vs H Q E h => ?_) (fun X hX H vs Q E h => ?_)
  · obtain ⟨b, w, p, x, rfl, _⟩ := h; rfl
  · obtain ⟨f, cdv, A, outer, s, H0, E0, rfl, hr⟩ := hX
    obtain ⟨b, w, p, ⟨r, n⟩, rfl, h1, h2, q⟩ := h
    refine ⟨_, (no_implicit_lambda% (pss_cons (no_implicit_lambda% (ps_if (no_implicit_lambda% (pt_cmpR op_ne (no_implicit_lambda% (pe_ix (ix_tupK K) (no_implicit_lambda% (pv 0)) pe_int (fun _ _ => rfl))) (no_implicit_lambda% (pe_ix (ix_tupK K) (no_implicit_lambda% (pv 1)) pe_int (fun _ _ => rfl))) (nomark _))) (no_implicit_lambda% (pss_one (no_implicit_lambda% (ps_ret pe_bl)))) pss_nil))
        (no_implicit_lambda% (pss_cons (no_implicit_lambda% (ps_if (no_implicit_lambda% (pt_cmpR op_eq (no_implicit_lambda% (pe_ix (ix_tupK K) (no_implicit_lambda% (pv 0)) pe_int (fun _ _ => rfl))) pe_str (nomark _))) (no_implicit_lambda% (pss_one (no_implicit_lambda% (ps_ret (no_implicit_lambda% (pe_cmpR op_gt (no_implicit_lambda% (pe_ix (ix_tupK K) (no_implicit_lambda% (pv 1)) pe_int (fun _ _ => rfl))) pe_int (nomark _))))))) pss_nil))
        (no_implicit_lambda% (pss_one (no_implicit_lambda% (ps_ret (no_implicit_lambda% (pe_or (no_implicit_lambda% (pe_cmpR op_ne (no_implicit_lambda% (pe_ix (ix_tupK K) (no_implicit_lambda% (pv 0)) pe_int (fun _ _ => rfl))) pe_str (nomark _))) (pe_one (no_implicit_lambda% (pe_cmpR op_eq (no_implicit_lambda% (pe_ix (ix_tupK K) (no_implicit_lambda% (pv 1)) pe_int (fun _ _ => rfl))) pe_int (nomark _)))))))))))))), ?_⟩
    walk_at "rd"
    refine rd_ixT (SqT.of h1) (v := .int w.room) rfl ?_
    walk_at "rd"
    refine rd_ixT (SqT.of h2) (v := .int r) rfl ?_
    walk_at "rd"
    unfold opn at q
    dsimp only at q
    by_cases e : w.room = r
    · rw [decide_eq_true e]
      refine iteF ?_
      walk_at "rd"
      rw [decide_eq_true e, Bool.true_and] at q
      refine rd_ixT (SqT.of h1) (v := .str w.deed) rfl ?_
      walk_at "rd"
      refine rd_EqS ?_
      refine rd_exb ?_
      cases ed : decide (w.deed = "down") with
      | true =>
        rw [ed] at q
        refine iteT ?_
        walk_at "rd"
        refine rd_ixT (SqT.of h2) (v := .int n) rfl ?_
        walk_at "rd"
        exact q
      | false =>
        rw [ed] at q
        refine iteF ?_
        walk_at "rd"
        refine rd_ixT (SqT.of h1) (v := .str w.deed) rfl ?_
        walk_at "rd"
        refine rd_NeS ?_
        refine rd_exb ?_
        cases ez : decide (w.deed = "zero") with
        | true =>
          rw [ez] at q
          refine iteF ?_
          walk_at "rd"
          refine rd_ixT (SqT.of h2) (v := .int n) rfl ?_
          walk_at "rd"
          exact q
        | false =>
          rw [ez] at q
          exact iteT q
    · rw [decide_eq_false e]
      refine iteT ?_
      walk_at "rd"
      rw [decide_eq_false e, Bool.false_and] at q
      exact q
noncomputable def gd_RAISED : List (Key × V) := [(.inr "up", .int 1), (.inr "down", .int (-1)), (.inr "stay", .int 0), (.inr "zero", .int 0)]
theorem gdk_RAISED {w : World} {K : PySem.W.Frag} {a : Addr} {t1 t2 t3 t4 t5 t6 t7 t8 : Tok} {ep : Nat} (h : K.lookup a = some (gdO w [("up", t1, .int 1 t2), ("down", t3, .int (-1) t4), ("stay", t5, .int 0 t6), ("zero", t7, .int 0 t8)] ep)) (hs : (a == sysModules) = false) : GDict w K a gd_RAISED :=
  ⟨⟨_, _, h, .cons ⟨rfl, ⟨_, rfl⟩⟩ (.cons ⟨rfl, ⟨_, rfl⟩⟩ (.cons ⟨rfl, ⟨_, rfl⟩⟩ (.cons ⟨rfl, ⟨_, rfl⟩⟩ .nil)))⟩, by decide +kernel, hs⟩
noncomputable def rz (z : Str) : Int := if z = "up" then 1 else if z = "down" then -1 else 0
theorem gr_has {z : Str} (h : okDeed z) : valV gd_RAISED (.inr z) = some (.int (rz z)) := by
  rcases h with rfl | rfl | rfl | rfl <;> decide +kernel
noncomputable def sp_raised_by (K : PySem.W.Frag) : Sp := fun vs H Q _ => ∃ b w, vs = [.ref b] ∧ H b = some (.tup (Way.vs w)) ∧ okDeed w.deed ∧ Q (.int (rz w.deed)) H
noncomputable abbrev s_raised_by : Stmt := top 23
theorem sc_raised_by : FnScope ["way"] ["way"] (defScope s_raised_by) := ⟨rfl, rfl, rfl, by decide +kernel, rfl, by decide +kernel, by decide +kernel⟩
theorem ok_raised_by {P : Program} {w : World} {K : PySem.W.Frag} {mg : Str → Option Value} {base : Heap} (D : Dfn K mg "raised_by" s_raised_by ["way"]) (T : Blt mg) (g_RAISED : ∃ a, mg "RAISED" = some (.ref a) ∧ GDict w K a gd_RAISED) : Cal P w K mg base "raised_by" 1 ["way"] (sp_raised_by K) := by
  have nd := (sc_raised_by).nd
  refine D.ok sc_raised_by (fun vs H Q E h => ?_) (fun X hX H vs Q E h => ?_)
  · obtain ⟨b, w, rfl, _⟩ := h; rfl
  · obtain ⟨f, cdv, A, outer, s, H0, E0, rfl, hr⟩ := hX
    obtain ⟨a_RAISED, m_RAISED, d_RAISED⟩ := g_RAISED
    obtain ⟨b, w, rfl, h1, hd, q⟩ := h
    refine ⟨_, (no_implicit_lambda% (pss_one (no_implicit_lambda% (ps_ret (no_implicit_lambda% (pe_gget rfl m_RAISED d_RAISED (no_implicit_lambda% (pe_ix (ix_tupK K) (no_implicit_lambda% (pv 0)) pe_int (fun _ _ => rfl))) (fun _ _ => rfl))))))), ?_⟩
    walk_at "rd"
    refine rd_ixT (SqT.of h1) (v := .str w.deed) rfl ?_
    exact rd_keyS (gr_has hd) q
noncomputable def sp_led_to (K : PySem.W.Frag) : Sp := fun vs H Q _ => ∃ b w p x, vs = [.ref b, .ref p] ∧ H b = some (.tup (Way.vs w)) ∧ okDeed w.deed ∧ PlAt H p x ∧ ∀ t H', Ext H H' → PlAt H' t (w.other, x.2 + rz w.deed) → H t = none → Q (.ref t) H'
noncomputable abbrev s_led_to : Stmt := top 24
theorem sc_led_to : FnScope ["way", "place"] ["way", "place"] (defScope s_led_to) := ⟨rfl, rfl, rfl, by decide +kernel, rfl, by decide +kernel, by decide +kernel⟩
theorem ok_led_to {P : Program} {w : World} {K : PySem.W.Frag} {mg : Str → Option Value} {base : Heap} (D : Dfn K mg "led_to" s_led_to ["way", "place"]) (T : Blt mg) (C_raised_by : Cal P w K mg base "raised_by" 1 ["way"] (sp_raised_by K)) : Cal P w K mg base "led_to" 2 ["way", "place"] (sp_led_to K) := by
  have nd := (sc_led_to).nd
  refine D.ok sc_led_to (fun vs H Q E h => ?_) (fun X hX H vs Q E h => ?_)
  · obtain ⟨b, w, p, x, rfl, _⟩ := h; rfl
  · obtain ⟨f, cdv, A, outer, s, H0, E0, rfl, hr⟩ := hX
    obtain ⟨b, w, p, ⟨r, n⟩, rfl, h1, hd, h2, q⟩ := h
    refine ⟨_, (no_implicit_lambda% (pss_one (no_implicit_lambda% (ps_ret (no_implicit_lambda% (pe_tup (no_implicit_lambda% (pa_cons (no_implicit_lambda% (pe_ix (ix_tupK K) (no_implicit_lambda% (pv 0)) pe_int (fun _ _ => rfl))) (no_implicit_lambda% (pa_cons (no_implicit_lambda% (pe_op op_add (no_implicit_lambda% (pe_ix (ix_tupK K) (no_implicit_lambda% (pv 1)) pe_int (fun _ _ => rfl))) (no_implicit_lambda% (pe_cal C_raised_by hr (no_implicit_lambda% (pa_cons (no_implicit_lambda% (pv 0)) pa_nil)))))) pa_nil)))))))))), ?_⟩
    walk_at "rd"
    refine rd_ixT (SqT.of h1) (v := .int w.other) rfl ?_
    walk_at "rd"
    refine rd_ixT (SqT.of h2) (v := .int n) rfl ?_
    walk_at "rd"
    refine ⟨b, w, rfl, h1, hd, ?_⟩
    walk_at "rd"
    refine ⟨small_line (by simp), rd_new fun t H1 e1 ht htn => ?_⟩
    exact q t H1 e1 ht htn
end My
set_option Elab.async false
set_option linter.all false
set_option maxRecDepth 100000
namespace My
open PySem L2 St
set_option maxHeartbeats 4000000
local macro_rules | `(tactic| walk_at "cond") => `(tactic| first | decide | omega | (dsimp only; omega) | (unfold CMul; omega) | (unfold CPow; exact ⟨by decide, by decide, by decide⟩) | (dsimp only; exact ⟨by omega, by omega⟩) | exact .inr ⟨by decide, by decide⟩ | exact .inl ⟨by decide, by decide⟩ | (unfold SmallR; omega))
local macro_rules | `(tactic| walk_at "sq") => `(tactic| first | assumption | exact SqL.of (by assumption) | exact SqT.of (by assumption) | exact SqL.of (by solve_by_elim) | exact SqT.of (by solve_by_elim) | solve_by_elim)
local macro_rules | `(tactic| walk_at "rd") => `(tactic| repeat (first | with_reducible refine rd_seq ?_ | with_reducible refine rd_ret ?_ | with_reducible refine rd_retN ?_ | with_reducible refine rd_asg ?_ | with_reducible refine rd_drop ?_ | with_reducible refine rd_ifS ?_ | with_reducible refine rd_next ?_ | with_reducible refine rd_name ?_ | ((with_reducible apply rd_var); (exact rfl)) | with_reducible refine rd_c ?_ | with_reducible refine rd_op ?_ | with_reducible refine rd_un ?_ | with_reducible refine rd_CB ?_ | with_reducible refine rd_cons ?_ | with_reducible refine rd_nil ?_ | with_reducible refine rd_ints ?_ | with_reducible refine rd_test ?_ | with_reducible refine rd_B ?_ | with_reducible refine rd_exb ?_ | with_reducible refine rd_not ?_ | with_reducible refine rd_and ?_ | with_reducible refine rd_or ?_ | with_reducible refine rd_andV ?_ | with_reducible refine rd_orV ?_ | with_reducible refine rd_notV ?_ | with_reducible refine rd_ifE ?_ | with_reducible refine rd_yes ?_ | with_reducible refine rd_I0 ?_ | ((with_reducible apply rd_I); (walk_at "cond")) | with_reducible refine rd_U ?_ | with_reducible refine rd_EqI ?_ | with_reducible refine rd_NeI ?_ | with_reducible refine rd_EqB ?_ | with_reducible refine rd_NeB ?_ | with_reducible refine rd_call ?_ | with_reducible refine rd_BM ?_ | with_reducible refine rd_tup ?_ | with_reducible refine rd_lst ?_ | with_reducible refine rd_sl ?_ | with_reducible refine rd_noPart ?_ | with_reducible refine rd_part ?_ | with_reducible refine rd_exi ?_ | with_reducible refine rd_chain ?_ | with_reducible refine rd_comp ?_ | with_reducible refine rd_iL ?_ | with_reducible refine rd_iT ?_ | with_reducible refine rd_i1 ?_ | with_reducible refine rd_i2 ?_ | with_reducible refine rd_i3 ?_ | with_reducible refine rd_for ?_ | with_reducible refine rd_tTru ?_ | with_reducible refine rd_intB ?_ | with_reducible refine rd_max2 ?_ | with_reducible refine rd_min2 ?_ | with_reducible refine rd_sub ?_ | with_reducible refine rd_gcons ?_ | with_reducible refine rd_gnil ?_ | ((with_reducible apply rd_aug); (exact rfl)) | with_reducible refine rd_ipI ?_ | with_reducible refine rd_zip ?_ | with_reducible refine rd_rev ?_ | with_reducible refine rd_par ?_ | with_reducible refine rd_par2 ?_ | with_reducible refine rd_lam ?_ | with_reducible refine rd_calV ?_ | with_reducible refine rd_raise ?_ | with_reducible refine rd_fs ?_ | with_reducible refine rd_try ?_ | with_reducible refine rd_bseq ?_ | with_reducible refine rd_bnext ?_ | with_reducible refine rd_bplain ?_ | with_reducible refine rd_bif ?_ | with_reducible refine rd_bcall ?_ | with_reducible refine rd_enum ?_ | with_reducible refine rd_gget ?_ | with_reducible refine rd_gin ?_ | with_reducible refine rd_revL ?_ | with_reducible refine rd_leS ?_ | with_reducible refine rd_disp ?_ | with_reducible refine rd_dget ?_ | with_reducible refine rd_lrev ?_ | with_reducible refine rd_disp1 ?_ | with_reducible refine rd_din ?_ | with_reducible refine rd_dnin ?_ | with_reducible refine rd_dput ?_ | with_reducible refine rd_min3 ?_ | dsimp only))
theorem forE {K : PySem.W.Frag} {a : Addr} {xs : List V} {g : TG} {tb : TS} {D : Ends} {σ : St} {H : Hp} (Pv : Nat → St → Hp → Prop) (h0 : Pv 0 σ H) (hl : ∀ i σ H, i ≤ xs.length → Pv i σ H → SqT K H a xs)
    (hs : ∀ i u σ H p H', xs[i]? = some u → Pv i σ H → Ext H H' → H' p = some (.tup [.int i, u]) → H p = none → g (.ref p) σ H' fun σ2 H2 => tb { D with nx := Pv (i + 1), ct := Pv (i + 1), bk := D.nx } σ2 H2) (hd : ∀ σ H, Pv xs.length σ H → D.nx σ H) :
    ForBody (Ite K a) g tb D σ H := for_enum Pv h0 hl hs hd
noncomputable def stp (z : Str) (n : Int) : Option Int :=
  if decide (z = "up") = true then some (n + 1) else if decide (z = "down") = true then (if decide (0 < n) = true then some (n - 1) else none) else if decide (z = "stay") = true then some n else if decide (z = "zero") = true then (if decide (n = 0) = true then some n else none) else none
noncomputable def bstep (w : Way) (r n : Int) (j : Nat) : List (Int × Int × Int) := if decide (w.room = r) = true then ((stp w.deed n).map fun n' => ((j : Int), w.other, n')).toList else []
noncomputable def behL (ws : List Way) (r n : Int) : Nat → List (Int × Int × Int)
  | 0 => []
  | k + 1 => behL ws r n k ++ ((ws[k]?).map fun w => bstep w r n k).getD []
theorem behL_succ {ws : List Way} {r n : Int} {i : Nat} {w : Way} (h : ws[i]? = some w) : behL ws r n (i + 1) = behL ws r n i ++ bstep w r n i := by
  show _ ++ ((ws[i]?).map fun w => bstep w r n i).getD [] = _
  rw [h]
  rfl
theorem bstep_len (w : Way) (r n : Int) (j : Nat) : (bstep w r n j).length ≤ 1 := by
  unfold bstep
  split
  · cases stp w.deed n <;> simp
  · simp
theorem behL_len (ws : List Way) (r n : Int) : ∀ k, (behL ws r n k).length ≤ k
  | 0 => Nat.le_refl _
  | k + 1 => by
    have := behL_len ws r n k
    show (behL ws r n k ++ ((ws[k]?).map fun w => bstep w r n k).getD []).length ≤ k + 1
    rw [List.length_append]
    cases h : ws[k]? with
    | none => simp; omega
    | some w =>
      have := bstep_len w r n k
      simp; omega
theorem bstep_no {w : Way} {r n : Int} {j : Nat} (h : w.room ≠ r) : bstep w r n j = [] := by
  unfold bstep
  rw [decide_eq_false h]
  rfl
theorem bstep_yes {w : Way} {r n : Int} {j : Nat} {o : Option Int} (h : w.room = r) (hs : stp w.deed n = o) : bstep w r n j = (o.map fun n' => ((j : Int), w.other, n')).toList := by
  unfold bstep
  rw [decide_eq_true h, hs]
  rfl
noncomputable def BehP (H : Hp) (c : Addr) (t : Int × Int × Int) : Prop := ∃ d, H c = some (.tup [.int t.1, .ref d]) ∧ H d = some (.tup [.int t.2.1, .int t.2.2])
theorem beh_mono {H H' : Hp} (f : ∀ c t, BehP H c t → BehP H' c t) {cs : List Addr} {ts : List (Int × Int × Int)} (h : Paired (BehP H) cs ts) : Paired (BehP H') cs ts := by
  induction h with
  | nil => exact .nil
  | cons h t ih => exact .cons (f _ _ h) ih
theorem beh_snoc {H : Hp} {cs : List Addr} {ts : List (Int × Int × Int)} {c : Addr} {t : Int × Int × Int} (h : Paired (BehP H) cs ts) (ht : BehP H c t) : Paired (BehP H) (cs ++ [c]) (ts ++ [t]) := by
  induction h with
  | nil => exact .cons ht .nil
  | cons h _ ih => exact .cons h ih
theorem BehP.ext {H H' : Hp} (e : Ext H H') {c : Addr} {t : Int × Int × Int} (h : BehP H c t) : BehP H' c t := by
  obtain ⟨d, h1, h2⟩ := h
  exact ⟨d, e _ _ h1, e _ _ h2⟩
theorem BehP.put {H : Hp} {f : Addr} {xs ys : List V} (hf : H f = some (.lst xs)) {c : Addr} {t : Int × Int × Int} (h : BehP H c t) : BehP (upd H f (.lst ys)) c t := by
  obtain ⟨d, h1, h2⟩ := h
  exact ⟨d, by rw [upd_ne (ne_of h1 hf (by intro z; cases z))]; exact h1, by rw [upd_ne (ne_of h2 hf (by intro z; cases z))]; exact h2⟩
structure BL (H0 H : Hp) (f : Addr) (ts : List (Int × Int × Int)) : Prop where
  ext : Ext H0 H
  at_ : ∃ cs : List Addr, H f = some (.lst (cs.map V.ref)) ∧ Paired (BehP H) cs ts
theorem BL.push {H0 H H1 : Hp} {f c d : Addr} {ts : List (Int × Int × Int)} {j o n : Int} (h : BL H0 H f ts) (hfn : H0 f = none) (e : Ext H H1) (hd : H1 d = some (.tup [.int o, .int n])) (hc : H1 c = some (.tup [.int j, .ref d])) :
    ∃ xs, H1 f = some (.lst xs) ∧ xs.length = ts.length ∧ BL H0 (upd H1 f (.lst (xs ++ [.ref c]))) f (ts ++ [(j, o, n)]) := by
  obtain ⟨e0, cs, hf, al⟩ := h
  have hf1 := e _ _ hf
  have hp : BehP H1 c (j, o, n) := ⟨d, hc, hd⟩
  refine ⟨cs.map V.ref, hf1, by rw [List.length_map]; exact Paired.length al, ext_write (e0.trans e) hfn, cs ++ [c], by rw [upd_same, List.map_append]; rfl, beh_snoc (beh_mono (fun _ _ z => (z.ext e).put hf1) al) (hp.put hf1)⟩
theorem BL.ty {K : PySem.W.Frag} {H0 H H1 : Hp} {f : Addr} {ts : List (Int × Int × Int)} (h : BL H0 H f ts) (e : Ext H H1) : tyV K "list" (.ref f) H1 := by
  obtain ⟨_, cs, hf, al⟩ := h
  exact rd_tyL (SqL.of (e _ _ hf))
theorem BL.step {H0 H H1 : Hp} {f : Addr} {ts : List (Int × Int × Int)} (h : BL H0 H f ts) (e : Ext H H1) : BL H0 H1 f ts := by
  obtain ⟨e0, cs, hf, al⟩ := h
  exact ⟨e0.trans e, cs, e _ _ hf, beh_mono (fun _ _ z => z.ext e) al⟩
theorem sUD : decide ((Str.ofString "up") = Str.ofString "down") = false := by decide +kernel
theorem sUS : decide ((Str.ofString "up") = Str.ofString "stay") = false := by decide +kernel
theorem sUZ : decide ((Str.ofString "up") = Str.ofString "zero") = false := by decide +kernel
theorem sDU : decide ((Str.ofString "down") = Str.ofString "up") = false := by decide +kernel
theorem sDS : decide ((Str.ofString "down") = Str.ofString "stay") = false := by decide +kernel
theorem sDZ : decide ((Str.ofString "down") = Str.ofString "zero") = false := by decide +kernel
theorem sSU : decide ((Str.ofString "stay") = Str.ofString "up") = false := by decide +kernel
theorem sSD : decide ((Str.ofString "stay") = Str.ofString "down") = false := by decide +kernel
theorem sZU : decide ((Str.ofString "zero") = Str.ofString "up") = false := by decide +kernel
theorem sZD : decide ((Str.ofString "zero") = Str.ofString "down") = false := by decide +kernel
theorem sZS : decide ((Str.ofString "zero") = Str.ofString "stay") = false := by decide +kernel
theorem sEE (z : Str) : decide (z = z) = true := decide_eq_true rfl
theorem stp_up (n : Int) : stp "up" n = some (n + 1) := by unfold stp; rw [sEE]; rfl
theorem stp_down (n : Int) : stp "down" n = if decide (0 < n) = true then some (n - 1) else none := by unfold stp; rw [sDU, sEE]; rfl
theorem stp_stay (n : Int) : stp "stay" n = some n := by unfold stp; rw [sSU, sSD, sEE]; rfl
theorem stp_zero (n : Int) : stp "zero" n = if decide (n = 0) = true then some n else none := by unfold stp; rw [sZU, sZD, sZS, sEE]; rfl
noncomputable def sp__law_behind (K : PySem.W.Frag) : Sp := fun vs H Q _ => ∃ v m ws p r n, vs = [v, .ref p] ∧ HouseAt H v m ws ∧ HOuse m ws ∧ H p = some (.tup [.int r, .int n]) ∧
  ∀ l H' cs, Ext H H' → H l = none → H' l = some (.lst (List.map V.ref cs)) → Paired (BehP H') cs (behL ws r n ws.length) → Q (.ref l) H'
noncomputable abbrev s__law_behind : Stmt := top 40
theorem sc__law_behind : FnScope ["_law_house", "_law_place", "_law_found", "_law_k", "_law_room", "_law_deed", "_law_other", "_law_sign"] ["_law_house", "_law_place"] (defScope s__law_behind) := ⟨rfl, rfl, rfl, by decide +kernel, rfl, by decide +kernel, by decide +kernel⟩
theorem ok__law_behind {P : Program} {w : World} {K : PySem.W.Frag} {mg : Str → Option Value} {base : Heap} (D : Dfn K mg "_law_behind" s__law_behind ["_law_house", "_law_place"]) (T : Blt mg) : Cal P w K mg base "_law_behind" 1 ["_law_house", "_law_place"] (sp__law_behind K) := by
  have nd := (sc__law_behind).nd
  refine D.ok sc__law_behind (fun vs H Q E h => ?_) (fun X hX H vs Q E h => ?_)
  · obtain ⟨v, m, ws, p, r, n, rfl, _⟩ := h; rfl
  · obtain ⟨f, cdv, A, outer, s, H0, E0, rfl, hr⟩ := hX
    obtain ⟨v, m, ws, p, r, n, rfl, ⟨hh, t, rfl, g1, g2⟩, ok, hp, q⟩ := h
    obtain ⟨bs, g3, al⟩ := WaysAt.al g2
    have hfew := ok.few
    refine ⟨_, (no_implicit_lambda% (pss_cons (no_implicit_lambda% (ps_set (i := 2) nd rfl (Or.inl rfl) (no_implicit_lambda% (pe_lst pa_nil))))
        (no_implicit_lambda% (pss_cons (no_implicit_lambda% (ps_for PassesOwn.never rfl (no_implicit_lambda% (pi_enum K rfl T.enumerate_ (no_implicit_lambda% (pa_cons (no_implicit_lambda% (pe_ix (ix_tupK K) (no_implicit_lambda% (pv 0)) pe_int (fun _ _ => rfl))) pa_nil)))) (no_implicit_lambda% (pg_tupK (n := 2) K rfl (pgs_cons (no_implicit_lambda% (pg_name (i := 3) nd rfl (Or.inl rfl))) (pgs_cons (no_implicit_lambda% (pg_tupK (n := 4) K rfl (pgs_cons (no_implicit_lambda% (pg_name (i := 4) nd rfl (Or.inl rfl))) (pgs_cons (no_implicit_lambda% (pg_name (i := 5) nd rfl (Or.inl rfl))) (pgs_cons (no_implicit_lambda% (pg_name (i := 6) nd rfl (Or.inl rfl))) (pgs_cons (no_implicit_lambda% (pg_name (i := 7) nd rfl (Or.inl rfl))) pgs_nil)))))) pgs_nil)))) (no_implicit_lambda% (pss_one (no_implicit_lambda% (ps_ifJ (no_implicit_lambda% (pt_cmpR op_eq (no_implicit_lambda% (pv 4)) (no_implicit_lambda% (pe_ix (ix_tupK K) (no_implicit_lambda% (pv 1)) pe_int (fun _ _ => rfl))) (nomark _))) (no_implicit_lambda% (pss_cons (no_implicit_lambda% (ps_ifJ (no_implicit_lambda% (pt_cmpR op_eq (no_implicit_lambda% (pv 5)) pe_str (nomark _))) (no_implicit_lambda% (pss_one (no_implicit_lambda% (ps_expr (no_implicit_lambda% (pe_bmK K PySem.F.plainAttrs_list PySem.F.slot_list_append PySem.F.type_list_append mt_append (no_implicit_lambda% (pv 2)) (no_implicit_lambda% (pa_cons (no_implicit_lambda% (pe_tup (no_implicit_lambda% (pa_cons (no_implicit_lambda% (pv 3)) (no_implicit_lambda% (pa_cons (no_implicit_lambda% (pe_tup (no_implicit_lambda% (pa_cons (no_implicit_lambda% (pv 6)) (no_implicit_lambda% (pa_cons (no_implicit_lambda% (pe_op op_add (no_implicit_lambda% (pe_ix (ix_tupK K) (no_implicit_lambda% (pv 1)) pe_int (fun _ _ => rfl))) pe_int)) pa_nil)))))) pa_nil)))))) pa_nil)))))))) pss_nil))
        (no_implicit_lambda% (pss_cons (no_implicit_lambda% (ps_ifJ (no_implicit_lambda% (PW.pt (pw_and (no_implicit_lambda% (pt_cmpR op_eq (no_implicit_lambda% (pv 5)) pe_str (nomark _))) (pw_and1 (no_implicit_lambda% (pt_cmpR op_gt (no_implicit_lambda% (pe_ix (ix_tupK K) (no_implicit_lambda% (pv 1)) pe_int (fun _ _ => rfl))) pe_int (nomark _))))))) (no_implicit_lambda% (pss_one (no_implicit_lambda% (ps_expr (no_implicit_lambda% (pe_bmK K PySem.F.plainAttrs_list PySem.F.slot_list_append PySem.F.type_list_append mt_append (no_implicit_lambda% (pv 2)) (no_implicit_lambda% (pa_cons (no_implicit_lambda% (pe_tup (no_implicit_lambda% (pa_cons (no_implicit_lambda% (pv 3)) (no_implicit_lambda% (pa_cons (no_implicit_lambda% (pe_tup (no_implicit_lambda% (pa_cons (no_implicit_lambda% (pv 6)) (no_implicit_lambda% (pa_cons (no_implicit_lambda% (pe_op op_sub (no_implicit_lambda% (pe_ix (ix_tupK K) (no_implicit_lambda% (pv 1)) pe_int (fun _ _ => rfl))) pe_int)) pa_nil)))))) pa_nil)))))) pa_nil)))))))) pss_nil))
        (no_implicit_lambda% (pss_one (no_implicit_lambda% (ps_ifJ (no_implicit_lambda% (PW.pt (pw_or (no_implicit_lambda% (pt_cmpR op_eq (no_implicit_lambda% (pv 5)) pe_str (nomark _))) (pw_or1 (no_implicit_lambda% (PW.pt (pw_and (no_implicit_lambda% (pt_cmpR op_eq (no_implicit_lambda% (pv 5)) pe_str (nomark _))) (pw_and1 (no_implicit_lambda% (pt_cmpR op_eq (no_implicit_lambda% (pe_ix (ix_tupK K) (no_implicit_lambda% (pv 1)) pe_int (fun _ _ => rfl))) pe_int (nomark _))))))))))) (no_implicit_lambda% (pss_one (no_implicit_lambda% (ps_expr (no_implicit_lambda% (pe_bmK K PySem.F.plainAttrs_list PySem.F.slot_list_append PySem.F.type_list_append mt_append (no_implicit_lambda% (pv 2)) (no_implicit_lambda% (pa_cons (no_implicit_lambda% (pe_tup (no_implicit_lambda% (pa_cons (no_implicit_lambda% (pv 3)) (no_implicit_lambda% (pa_cons (no_implicit_lambda% (pe_tup (no_implicit_lambda% (pa_cons (no_implicit_lambda% (pv 6)) (no_implicit_lambda% (pa_cons (no_implicit_lambda% (pe_ix (ix_tupK K) (no_implicit_lambda% (pv 1)) pe_int (fun _ _ => rfl))) pa_nil)))))) pa_nil)))))) pa_nil)))))))) pss_nil)))))))) pss_nil))))))
        (no_implicit_lambda% (pss_one (no_implicit_lambda% (ps_ret (no_implicit_lambda% (pv 2)))))))))), ?_⟩
    walk_at "rd"
    refine ⟨small_line (by simp), rd_new fun f H1 e1 hf hfn => ?_⟩
    walk_at "rd"
    refine rd_ixT (SqT.of (e1 _ _ g1)) (v := .ref t) rfl ?_
    walk_at "rd"
    refine rd_enumT (SqT.of (e1 _ _ g3)) ?_
    refine forE (xs := bs.map V.ref) (fun i σ H' => ∃ k1 k2 k3 k4 k5, σ = [some (.ref hh), some (.ref p), some (.ref f), k1, k2, k3, k4, k5] ∧ BL H H' f (behL ws r n i)) ⟨none, none, none, none, none, rfl, e1, [], hf, .nil⟩ (fun i σ H' _ h => by obtain ⟨_, _, _, _, _, _, bl⟩ := h; exact SqT.of (bl.ext _ _ g3)) ?_ ?_
    · rintro i u σ H2 pp H3 hu ⟨k1, k2, k3, k4, k5, rfl, bl0⟩ e3 hpp _
      rw [List.getElem?_map] at hu
      obtain ⟨b, hb, rfl⟩ := Option.map_eq_some_iff.mp hu
      have hi : i < ws.length := by
        rw [← al.1]
        exact (List.getElem?_eq_some_iff.mp hb).1
      have hwi : ws[i]? = some ws[i] := List.getElem?_eq_getElem hi
      have bl := bl0.step e3
      have hw := bl.ext _ _ (al.2 i b _ hb hwi)
      have hp3 := bl.ext _ _ hp
      have okw := (ok.ok _ (List.getElem_mem hi)).dd
      rw [behL_succ hwi]
      have hlen := behL_len ws r n i
      generalize behL ws r n i = ts at bl hlen
      clear bl0 hwi
      generalize ws[i] = w at hw okw ⊢
      obtain ⟨room, deed, other, sign⟩ := w
      refine rd_gtup (SqT.of hpp) rfl ?_
      walk_at "rd"
      refine rd_gtup (SqT.of hw) rfl ?_
      walk_at "rd"
      refine rd_ifN ?_
      walk_at "rd"
      refine rd_ixT (SqT.of hp3) (v := .int r) rfl ?_
      walk_at "rd"
      by_cases er : room = r
      rotate_left
      · rw [decide_eq_false er]
        refine iteF ?_
        walk_at "rd"
        refine ⟨_, _, _, _, _, rfl, ?_⟩
        rw [bstep_no er, List.append_nil]
        exact bl
      · rw [decide_eq_true er]
        refine iteT ?_
        rcases okw with e | e | e | e <;> (simp only at e; subst e)
        · rw [bstep_yes er (stp_up n)]
          walk_at "rd"
          refine rd_ifN ?_
          walk_at "rd"
          refine rd_EqS ?_
          rw [sEE]
          refine rd_exb (iteT ?_)
          walk_at "rd"
          refine ⟨bl.ty (Ext.rfl' _), ?_⟩
          walk_at "rd"
          refine rd_ixT (SqT.of hp3) (v := .int n) rfl ?_
          walk_at "rd"
          refine ⟨small_line (by simp), rd_new fun d H4 e4 hd _ => ?_⟩
          walk_at "rd"
          refine ⟨small_line (by simp), rd_new fun c H5 e5 hc _ => ?_⟩
          walk_at "rd"
          obtain ⟨xs, hx, hlx, bl'⟩ := bl.push hfn (e4.trans e5) (e5 _ _ hd) hc
          refine rd_append hx (line16 (by omega)) ?_
          generalize upd H5 f _ = H6 at bl' ⊢
          walk_at "rd"
          refine rd_ifN ?_
          walk_at "rd"
          refine rd_EqS ?_
          rw [sUD]
          refine rd_exb (iteF ?_)
          refine iteF ?_
          walk_at "rd"
          refine rd_ifN ?_
          walk_at "rd"
          refine rd_EqS ?_
          rw [sUS]
          refine rd_exb (iteF ?_)
          walk_at "rd"
          refine rd_EqS ?_
          rw [sUZ]
          refine rd_exb (iteF ?_)
          refine iteF ?_
          walk_at "rd"
          exact ⟨_, _, _, _, _, rfl, bl'⟩
        · -- down
          walk_at "rd"
          refine rd_ifN ?_
          walk_at "rd"
          refine rd_EqS ?_
          rw [sDU]
          refine rd_exb (iteF ?_)
          walk_at "rd"
          refine rd_ifN ?_
          walk_at "rd"
          refine rd_EqS ?_
          rw [sEE]
          refine rd_exb (iteT ?_)
          walk_at "rd"
          refine rd_ixT (SqT.of hp3) (v := .int n) rfl ?_
          walk_at "rd"
          by_cases hn : 0 < n
          · rw [decide_eq_true hn]
            refine iteT ?_
            walk_at "rd"
            refine ⟨bl.ty (Ext.rfl' _), ?_⟩
            walk_at "rd"
            refine rd_ixT (SqT.of hp3) (v := .int n) rfl ?_
            walk_at "rd"
            refine ⟨small_line (by simp), rd_new fun d H4 e4 hd _ => ?_⟩
            walk_at "rd"
            refine ⟨small_line (by simp), rd_new fun c H5 e5 hc _ => ?_⟩
            walk_at "rd"
            obtain ⟨xs, hx, hlx, bl'⟩ := bl.push hfn (e4.trans e5) (e5 _ _ hd) hc
            refine rd_append hx (line16 (by omega)) ?_
            generalize upd H5 f _ = H6 at bl' ⊢
            walk_at "rd"
            refine rd_ifN ?_
            walk_at "rd"
            refine rd_EqS ?_
            rw [sDS]
            refine rd_exb (iteF ?_)
            walk_at "rd"
            refine rd_EqS ?_
            rw [sDZ]
            refine rd_exb (iteF ?_)
            refine iteF ?_
            walk_at "rd"
            refine ⟨_, _, _, _, _, rfl, ?_⟩
            rw [bstep_yes er (stp_down n), decide_eq_true hn]
            exact bl'
          · rw [decide_eq_false hn]
            refine iteF ?_
            walk_at "rd"
            refine rd_ifN ?_
            walk_at "rd"
            refine rd_EqS ?_
            rw [sDS]
            refine rd_exb (iteF ?_)
            walk_at "rd"
            refine rd_EqS ?_
            rw [sDZ]
            refine rd_exb (iteF ?_)
            refine iteF ?_
            walk_at "rd"
            refine ⟨_, _, _, _, _, rfl, ?_⟩
            rw [bstep_yes er (stp_down n), decide_eq_false hn]
            simpa using bl
        · -- stay
          walk_at "rd"
          refine rd_ifN ?_
          walk_at "rd"
          refine rd_EqS ?_
          rw [sSU]
          refine rd_exb (iteF ?_)
          walk_at "rd"
          refine rd_ifN ?_
          walk_at "rd"
          refine rd_EqS ?_
          rw [sSD]
          refine rd_exb (iteF ?_)
          refine iteF ?_
          walk_at "rd"
          refine rd_ifN ?_
          walk_at "rd"
          refine rd_EqS ?_
          rw [sEE]
          refine rd_exb (iteT ?_)
          refine iteT ?_
          walk_at "rd"
          refine ⟨bl.ty (Ext.rfl' _), ?_⟩
          walk_at "rd"
          refine rd_ixT (SqT.of hp3) (v := .int n) rfl ?_
          walk_at "rd"
          refine ⟨small_line (by simp), rd_new fun d H4 e4 hd _ => ?_⟩
          walk_at "rd"
          refine ⟨small_line (by simp), rd_new fun c H5 e5 hc _ => ?_⟩
          walk_at "rd"
          obtain ⟨xs, hx, hlx, bl'⟩ := bl.push hfn (e4.trans e5) (e5 _ _ hd) hc
          refine rd_append hx (line16 (by omega)) ?_
          generalize upd H5 f _ = H6 at bl' ⊢
          walk_at "rd"
          refine ⟨_, _, _, _, _, rfl, ?_⟩
          rw [bstep_yes er (stp_stay n)]
          exact bl'
        · -- zero
          walk_at "rd"
          refine rd_ifN ?_
          walk_at "rd"
          refine rd_EqS ?_
          rw [sZU]
          refine rd_exb (iteF ?_)
          walk_at "rd"
          refine rd_ifN ?_
          walk_at "rd"
          refine rd_EqS ?_
          rw [sZD]
          refine rd_exb (iteF ?_)
          refine iteF ?_
          walk_at "rd"
          refine rd_ifN ?_
          walk_at "rd"
          refine rd_EqS ?_
          rw [sZS]
          refine rd_exb (iteF ?_)
          walk_at "rd"
          refine rd_EqS ?_
          rw [sEE]
          refine rd_exb (iteT ?_)
          walk_at "rd"
          refine rd_ixT (SqT.of hp3) (v := .int n) rfl ?_
          walk_at "rd"
          by_cases hn : n = 0
          · rw [decide_eq_true hn]
            refine iteT ?_
            walk_at "rd"
            refine ⟨bl.ty (Ext.rfl' _), ?_⟩
            walk_at "rd"
            refine rd_ixT (SqT.of hp3) (v := .int n) rfl ?_
            walk_at "rd"
            refine ⟨small_line (by simp), rd_new fun d H4 e4 hd _ => ?_⟩
            walk_at "rd"
            refine ⟨small_line (by simp), rd_new fun c H5 e5 hc _ => ?_⟩
            walk_at "rd"
            obtain ⟨xs, hx, hlx, bl'⟩ := bl.push hfn (e4.trans e5) (e5 _ _ hd) hc
            refine rd_append hx (line16 (by omega)) ?_
            generalize upd H5 f _ = H6 at bl' ⊢
            walk_at "rd"
            refine ⟨_, _, _, _, _, rfl, ?_⟩
            rw [bstep_yes er (stp_zero n), decide_eq_true hn]
            exact bl'
          · rw [decide_eq_false hn]
            refine iteF ?_
            walk_at "rd"
            refine ⟨_, _, _, _, _, rfl, ?_⟩
            rw [bstep_yes er (stp_zero n), decide_eq_false hn]
            simpa using bl
    · rintro σ H' ⟨k1, k2, k3, k4, k5, rfl, bl⟩
      rw [List.length_map, al.1] at bl
      obtain ⟨ew, cs, hcs, hpd⟩ := bl
      walk_at "rd"
      exact q f H' cs ew hfn hcs hpd
end My
set_option Elab.async false
set_option linter.all false
set_option maxRecDepth 100000
namespace My
open PySem L2 St
set_option maxHeartbeats 4000000
local macro_rules | `(tactic| walk_at "cond") => `(tactic| first | decide | omega | (dsimp only; omega) | (unfold CMul; omega) | (unfold CPow; exact ⟨by decide, by decide, by decide⟩) | (dsimp only; exact ⟨by omega, by omega⟩) | exact .inr ⟨by decide, by decide⟩ | exact .inl ⟨by decide, by decide⟩ | (unfold SmallR; omega))
local macro_rules | `(tactic| walk_at "sq") => `(tactic| first | assumption | exact SqL.of (by assumption) | exact SqT.of (by assumption) | exact SqL.of (by solve_by_elim) | exact SqT.of (by solve_by_elim) | solve_by_elim)
local macro_rules | `(tactic| walk_at "rd") => `(tactic| repeat (first | with_reducible refine rd_seq ?_ | with_reducible refine rd_ret ?_ | with_reducible refine rd_retN ?_ | with_reducible refine rd_asg ?_ | with_reducible refine rd_drop ?_ | with_reducible refine rd_ifS ?_ | with_reducible refine rd_next ?_ | with_reducible refine rd_name ?_ | ((with_reducible apply rd_var); (exact rfl)) | with_reducible refine rd_c ?_ | with_reducible refine rd_op ?_ | with_reducible refine rd_un ?_ | with_reducible refine rd_CB ?_ | with_reducible refine rd_cons ?_ | with_reducible refine rd_nil ?_ | with_reducible refine rd_ints ?_ | with_reducible refine rd_test ?_ | with_reducible refine rd_B ?_ | with_reducible refine rd_exb ?_ | with_reducible refine rd_not ?_ | with_reducible refine rd_and ?_ | with_reducible refine rd_or ?_ | with_reducible refine rd_andV ?_ | with_reducible refine rd_orV ?_ | with_reducible refine rd_notV ?_ | with_reducible refine rd_ifE ?_ | with_reducible refine rd_yes ?_ | with_reducible refine rd_I0 ?_ | ((with_reducible apply rd_I); (walk_at "cond")) | with_reducible refine rd_U ?_ | with_reducible refine rd_EqI ?_ | with_reducible refine rd_NeI ?_ | with_reducible refine rd_EqB ?_ | with_reducible refine rd_NeB ?_ | with_reducible refine rd_call ?_ | with_reducible refine rd_BM ?_ | with_reducible refine rd_tup ?_ | with_reducible refine rd_lst ?_ | with_reducible refine rd_sl ?_ | with_reducible refine rd_noPart ?_ | with_reducible refine rd_part ?_ | with_reducible refine rd_exi ?_ | with_reducible refine rd_chain ?_ | with_reducible refine rd_comp ?_ | with_reducible refine rd_iL ?_ | with_reducible refine rd_iT ?_ | with_reducible refine rd_i1 ?_ | with_reducible refine rd_i2 ?_ | with_reducible refine rd_i3 ?_ | with_reducible refine rd_for ?_ | with_reducible refine rd_tTru ?_ | with_reducible refine rd_intB ?_ | with_reducible refine rd_max2 ?_ | with_reducible refine rd_min2 ?_ | with_reducible refine rd_sub ?_ | with_reducible refine rd_gcons ?_ | with_reducible refine rd_gnil ?_ | ((with_reducible apply rd_aug); (exact rfl)) | with_reducible refine rd_ipI ?_ | with_reducible refine rd_zip ?_ | with_reducible refine rd_rev ?_ | with_reducible refine rd_par ?_ | with_reducible refine rd_par2 ?_ | with_reducible refine rd_lam ?_ | with_reducible refine rd_calV ?_ | with_reducible refine rd_raise ?_ | with_reducible refine rd_fs ?_ | with_reducible refine rd_try ?_ | with_reducible refine rd_bseq ?_ | with_reducible refine rd_bnext ?_ | with_reducible refine rd_bplain ?_ | with_reducible refine rd_bif ?_ | with_reducible refine rd_bcall ?_ | with_reducible refine rd_enum ?_ | with_reducible refine rd_gget ?_ | with_reducible refine rd_gin ?_ | with_reducible refine rd_revL ?_ | with_reducible refine rd_leS ?_ | with_reducible refine rd_disp ?_ | with_reducible refine rd_dget ?_ | with_reducible refine rd_lrev ?_ | with_reducible refine rd_disp1 ?_ | with_reducible refine rd_din ?_ | with_reducible refine rd_dnin ?_ | with_reducible refine rd_dput ?_ | with_reducible refine rd_min3 ?_ | dsimp only))
theorem nd_ix {α : Type} {l : List α} (hn : l.Nodup) {i j : Nat} {a : α} (hi : l[i]? = some a) (hj : l[j]? = some a) : i = j := by
  obtain ⟨h1, e1⟩ := List.getElem?_eq_some_iff.mp hi
  obtain ⟨h2, e2⟩ := List.getElem?_eq_some_iff.mp hj
  rcases Nat.lt_trichotomy i j with z | z | z
  · exact absurd (e1.trans e2.symm) (List.pairwise_iff_getElem.mp hn i j h1 h2 z)
  · exact z
  · exact absurd (e2.trans e1.symm) (List.pairwise_iff_getElem.mp hn j i h2 h1 z)
noncomputable def cntN (ws : List Way) (r : Int) (k : Nat) : List Nat := (List.range k).filter fun j => (ws[j]?).any fun w => decide (w.room = r)
theorem cntN_succ {ws : List Way} {r : Int} {i : Nat} {w : Way} (h : ws[i]? = some w) : cntN ws r (i + 1) = cntN ws r i ++ if w.room = r then [i] else [] := by
  unfold cntN
  rw [List.range_succ, List.filter_append]
  congr 1
  simp only [List.filter_cons, List.filter_nil, h, Option.any_some]
  by_cases e : w.room = r
  · rw [decide_eq_true e, if_pos rfl, if_pos e]
  · rw [decide_eq_false e, if_neg (by decide), if_neg e]
theorem cntN_len (ws : List Way) (r : Int) (k : Nat) : (cntN ws r k).length ≤ k := by
  unfold cntN
  exact Nat.le_trans (List.length_filter_le _ _) (Nat.le_of_eq List.length_range)
theorem cntN_mem {ws : List Way} {r : Int} {j : Nat} {w : Way} (h : ws[j]? = some w) (e : w.room = r) : j ∈ cntN ws r ws.length := by
  unfold cntN
  rw [List.mem_filter, List.mem_range, h]
  exact ⟨(List.getElem?_eq_some_iff.mp h).1, by simp [e]⟩
theorem cntN_lt {ws : List Way} {r : Int} {j : Nat} (h : j ∈ cntN ws r ws.length) : ∃ w, ws[j]? = some w ∧ w.room = r := by
  unfold cntN at h
  rw [List.mem_filter, List.mem_range] at h
  have e := List.getElem?_eq_getElem h.1
  rw [e] at h
  exact ⟨_, e, by simpa using h.2⟩
theorem line17 {n : Nat} (h : n ≤ 24100) : n < sizeLine := Nat.lt_of_le_of_lt h (by decide)
noncomputable abbrev intsN (l : List Nat) : List V := l.map fun j : Nat => V.int (j : Int)
theorem intsN_snoc (l : List Nat) (k : Nat) : intsN (l ++ [k]) = intsN l ++ [.int (k : Int)] := List.map_append
structure CT (H : Hp) (c : Addr) (m : Int) (ls : List Addr) (ws : List Way) (k : Nat) : Prop where
  at_ : H c = some (.lst (List.map V.ref ls))
  len : ls.length = m.toNat
  nd : ls.Nodup
  it : ∀ (r : Nat) (l : Addr), ls[r]? = some l → H l = some (.lst (intsN (cntN ws r k)))
theorem CT.ext {H H' : Hp} {c : Addr} {m : Int} {ls : List Addr} {ws : List Way} {k : Nat} (e : Ext H H') (h : CT H c m ls ws k) : CT H' c m ls ws k :=
  ⟨e _ _ h.at_, h.len, h.nd, fun r l hl => e _ _ (h.it r l hl)⟩
noncomputable def sp_counts_by_room (K : PySem.W.Frag) : Sp := fun vs H Q _ => ∃ v m ws, vs = [v] ∧ HouseAt H v m ws ∧ HOuse m ws ∧ ∀ c ls H', Ext H H' → CT H' c m ls ws ws.length → Q (.ref c) H'
noncomputable abbrev s_counts_by_room : Stmt := top 31
theorem sc_counts_by_room : FnScope ["house", "counts", "count", "way"] ["house"] (defScope s_counts_by_room) := ⟨rfl, rfl, rfl, by decide +kernel, rfl, by decide +kernel, by decide +kernel⟩
theorem ok_counts_by_room {P : Program} {w : World} {K : PySem.W.Frag} {mg : Str → Option Value} {base : Heap} (D : Dfn K mg "counts_by_room" s_counts_by_room ["house"]) (T : Blt mg) : Cal P w K mg base "counts_by_room" 1 ["house"] (sp_counts_by_room K) := by
  have nd := (sc_counts_by_room).nd
  refine D.ok sc_counts_by_room (fun vs H Q E h => ?_) (fun X hX H vs Q E h => ?_)
  · obtain ⟨v, m, ws, rfl, _⟩ := h; rfl
  · obtain ⟨f, cdv, A, outer, s, H0, E0, rfl, hr⟩ := hX
    obtain ⟨v, m, ws, rfl, ⟨hh, t, rfl, g1, g2⟩, ok, q⟩ := h
    obtain ⟨bs, g3, al⟩ := WaysAt.al g2
    have hfew := ok.few
    have m1 := ok.m1
    have m2 := ok.m12
    refine ⟨_, (no_implicit_lambda% (pss_cons (no_implicit_lambda% (ps_setComp (i := 1) ["room"] [] nd rfl (Or.inl rfl) (no_implicit_lambda% (pi_range1 rfl T.range_ (no_implicit_lambda% (pa_cons (no_implicit_lambda% (pe_ix (ix_tupK K) (no_implicit_lambda% (pv 0)) pe_int (fun _ _ => rfl))) pa_nil)))) (fun _ => (no_implicit_lambda% (pg_name (i := 0) (show (["room"] : List Str).Nodup from by decide +kernel) rfl (Or.inl rfl) (Or.inr rfl)))) (fun _ => pcs_nil) (fun _ => (no_implicit_lambda% (pe_lst pa_nil)))))
        (no_implicit_lambda% (pss_cons (no_implicit_lambda% (ps_for PassesOwn.never rfl (no_implicit_lambda% (pi_enum K rfl T.enumerate_ (no_implicit_lambda% (pa_cons (no_implicit_lambda% (pe_ix (ix_tupK K) (no_implicit_lambda% (pv 0)) pe_int (fun _ _ => rfl))) pa_nil)))) (no_implicit_lambda% (pg_tupK (n := 2) K rfl (pgs_cons (no_implicit_lambda% (pg_name (i := 2) nd rfl (Or.inl rfl))) (pgs_cons (no_implicit_lambda% (pg_name (i := 3) nd rfl (Or.inl rfl))) pgs_nil)))) (no_implicit_lambda% (pss_one (no_implicit_lambda% (ps_expr (no_implicit_lambda% (pe_bmK K PySem.F.plainAttrs_list PySem.F.slot_list_append PySem.F.type_list_append mt_append (no_implicit_lambda% (pe_ix (ix_listK K) (no_implicit_lambda% (pv 1)) (no_implicit_lambda% (pe_ix (ix_tupK K) (no_implicit_lambda% (pv 3)) pe_int (fun _ _ => rfl))) (fun _ _ => rfl))) (no_implicit_lambda% (pa_cons (no_implicit_lambda% (pv 2)) pa_nil))))))))))
        (no_implicit_lambda% (pss_one (no_implicit_lambda% (ps_ret (no_implicit_lambda% (pv 1)))))))))), ?_⟩
    walk_at "rd"
    refine rd_ixT (SqT.of g1) (v := .int m) rfl ?_
    walk_at "rd"
    refine rd_i1x ⟨by omega, by omega⟩ ?_
    refine comp_range (fun i ys H' => Ext H H' ∧ ∃ ls : List Addr, ys = List.map V.ref ls ∧ ls.length = i ∧ ls.Nodup ∧ ∀ l ∈ ls, H' l = some (.lst []) ∧ H l = none) (small9 (by omega)) ⟨Ext.rfl' _, [], rfl, rfl, List.nodup_nil, fun l h => by cases h⟩ (fun i ys H' _ h => by obtain ⟨_, ls, rfl, hl, _⟩ := h; rw [List.length_map, hl]; exact Nat.le_refl _) ?_ ?_
    · rintro i ys H' hi ⟨e, ls, rfl, hl, hnd, hls⟩
      walk_at "rd"
      refine iteT ?_
      walk_at "rd"
      refine ⟨small_line (by simp), rd_new fun l H1 e1 hl1 hln => ?_⟩
      refine ⟨e.trans e1, ls ++ [l], by rw [List.map_append]; rfl, by rw [List.length_append, hl]; rfl, ?_, ?_⟩
      · rw [List.nodup_append]
        refine ⟨hnd, by simp, fun a ha b hb z => ?_⟩
        have : b = l := by simpa using hb
        subst this
        subst z
        rw [(hls a ha).1] at hln
        cases hln
      · intro a ha
        rcases List.mem_append.mp ha with z | z
        · exact ⟨e1 _ _ (hls a z).1, (hls a z).2⟩
        · have : a = l := by simpa using z
          subst this
          exact ⟨hl1, e.none hln⟩
    · rintro ys H1 c ⟨e, ls, rfl, hl, hnd, hls⟩ hc
      walk_at "rd"
      have eN : Ext H (upd H1 c (.lst (List.map V.ref ls))) := e.trans (ext_upd hc)
      have hcH : H c = none := e.none hc
      have ct0 : CT (upd H1 c (.lst (List.map V.ref ls))) c m ls ws 0 := ⟨upd_same, hl, hnd, fun r l hl => by
        have := (hls l (List.mem_of_getElem? hl)).1
        rw [upd_ne (ne_of_none this hc)]
        exact this⟩
      have hcl : ∀ l ∈ ls, H l = none := fun l h => (hls l h).2
      generalize upd H1 c (.lst (List.map V.ref ls)) = H2 at eN ct0 ⊢
      clear hls hc e H1
      refine rd_ixT (SqT.of (eN _ _ g1)) (v := .ref t) rfl ?_
      walk_at "rd"
      refine rd_enumT (SqT.of (eN _ _ g3)) ?_
      refine forE (xs := bs.map V.ref) (fun i σ H' => ∃ k1 k2, σ = [some (.ref hh), some (.ref c), k1, k2] ∧ Ext H H' ∧ CT H' c m ls ws i) ⟨none, none, rfl, eN, ct0⟩ (fun i σ H' _ h => by obtain ⟨_, _, _, e, _⟩ := h; exact SqT.of (e _ _ g3)) ?_ ?_
      · rintro i u σ H3 pp H4 hu ⟨k1, k2, rfl, e3, ct3⟩ e4 hpp _
        rw [List.getElem?_map] at hu
        obtain ⟨b, hb, rfl⟩ := Option.map_eq_some_iff.mp hu
        have hi : i < ws.length := by
          rw [← al.1]
          exact (List.getElem?_eq_some_iff.mp hb).1
        have hwi : ws[i]? = some ws[i] := List.getElem?_eq_getElem hi
        have e34 := e3.trans e4
        have ct := ct3.ext e4
        have okw := ok.ok _ (List.getElem_mem hi)
        have hw := e34 _ _ (al.2 i b _ hb hwi)
        have csu := fun r : Nat => cntN_succ (r := (r : Int)) hwi
        clear ct3
        generalize ws[i] = w at hw okw csu hwi
        have r0 := okw.r0
        have r1 := okw.r1
        have hlr : w.room.toNat < ls.length := by rw [ct.len]; omega
        have hlg : ls[w.room.toNat]? = some ls[w.room.toNat] := List.getElem?_eq_getElem hlr
        generalize ls[w.room.toNat] = l at hlg
        have hl := ct.it _ _ hlg
        have hlen := cntN_len ws (w.room.toNat : Nat) i
        refine rd_gtup (SqT.of hpp) rfl ?_
        walk_at "rd"
        refine rd_ixT (SqT.of hw) (v := .int w.room) rfl ?_
        refine rd_ixL (SqL.of ct.at_) (v := .ref l) ?_ ?_
        · refine atI_of r0 ?_
          rw [List.getElem?_map, hlg]
          rfl
        refine ⟨rd_tyL (SqL.of hl), ?_⟩
        walk_at "rd"
        refine rd_append hl (line16 (by rw [List.length_map]; omega)) ?_
        have lc : l ≠ c := ne_of hl ct.at_ (fun z => by
          have z' := HO.lst.inj z
          have hlc := congrArg List.length z'
          cases hcn : cntN ws (w.room.toNat : Nat) i with
          | nil =>
            rw [hcn] at hlc
            rw [List.length_map, List.length_map] at hlc
            have : ls.length = 0 := hlc.symm
            omega
          | cons a r =>
            rw [hcn] at z'
            cases ls with
            | nil => cases z'
            | cons x y => cases (List.cons.inj z').1)
        walk_at "rd"
        refine ⟨_, _, rfl, ext_write e34 (hcl l (List.mem_of_getElem? hlg)), ?_⟩
        refine ⟨by rw [upd_ne lc.symm]; exact ct.at_, ct.len, ct.nd, fun r l' hl' => ?_⟩
        rw [csu r]
        by_cases er : r = w.room.toNat
        · subst er
          rw [hlg] at hl'
          cases hl'
          rw [upd_same, if_pos (by omega), intsN_snoc]
        · have nl : l' ≠ l := fun z => er (by
            subst z
            exact nd_ix ct.nd hl' hlg)
          rw [upd_ne nl, if_neg (by omega), List.append_nil]
          exact ct.it r l' hl'
      · rintro σ H' ⟨k1, k2, rfl, e3, ct⟩
        rw [List.length_map, al.1] at ct
        walk_at "rd"
        exact q c ls H' e3 ct
noncomputable def topOf (m : Int) (x g : Bfs.Pl) : Int := (if g.2 > x.2 then g.2 else x.2) + m * m
noncomputable def sp_greatest_met (K : PySem.W.Frag) : Sp := fun vs H Q _ => ∃ v m ws a b x g, vs = [v, .ref a, .ref b] ∧ HouseAt H v m ws ∧ HOuse m ws ∧ PlAt H a x ∧ PlAt H b g ∧ Q (.int (topOf m x g)) H
noncomputable abbrev s_greatest_met : Stmt := top 32
theorem sc_greatest_met : FnScope ["house", "place", "goal"] ["house", "place", "goal"] (defScope s_greatest_met) := ⟨rfl, rfl, rfl, by decide +kernel, rfl, by decide +kernel, by decide +kernel⟩
theorem ok_greatest_met {P : Program} {w : World} {K : PySem.W.Frag} {mg : Str → Option Value} {base : Heap} (D : Dfn K mg "greatest_met" s_greatest_met ["house", "place", "goal"]) (T : Blt mg) : Cal P w K mg base "greatest_met" 1 ["house", "place", "goal"] (sp_greatest_met K) := by
  have nd := (sc_greatest_met).nd
  refine D.ok sc_greatest_met (fun vs H Q E h => ?_) (fun X hX H vs Q E h => ?_)
  · obtain ⟨v, m, ws, a, b, x, g, rfl, _⟩ := h; rfl
  · obtain ⟨f, cdv, A, outer, s, H0, E0, rfl, hr⟩ := hX
    obtain ⟨v, m, ws, a, b, x, g, rfl, ⟨hh, t, rfl, g1, g2⟩, ok, hx, hg, q⟩ := h
    have m1 := ok.m1
    have m2 := ok.m12
    refine ⟨_, (no_implicit_lambda% (pss_one (no_implicit_lambda% (ps_ret (no_implicit_lambda% (pe_op op_add (no_implicit_lambda% (pe_callB (call_max2N rfl) rfl T.max_ PyProof.Rows.boot_max (no_implicit_lambda% (pa_cons (no_implicit_lambda% (pe_ix (ix_tupK K) (no_implicit_lambda% (pv 1)) pe_int (fun _ _ => rfl))) (no_implicit_lambda% (pa_cons (no_implicit_lambda% (pe_ix (ix_tupK K) (no_implicit_lambda% (pv 2)) pe_int (fun _ _ => rfl))) pa_nil)))))) (no_implicit_lambda% (pe_op op_mul (no_implicit_lambda% (pe_ix (ix_tupK K) (no_implicit_lambda% (pv 0)) pe_int (fun _ _ => rfl))) (no_implicit_lambda% (pe_ix (ix_tupK K) (no_implicit_lambda% (pv 0)) pe_int (fun _ _ => rfl))))))))))), ?_⟩
    walk_at "rd"
    refine rd_ixT (SqT.of hx) (v := .int x.2) rfl ?_
    walk_at "rd"
    refine rd_ixT (SqT.of hg) (v := .int g.2) rfl ?_
    walk_at "rd"
    refine rd_ixT (SqT.of g1) (v := .int m) rfl ?_
    walk_at "rd"
    refine rd_ixT (SqT.of g1) (v := .int m) rfl ?_
    walk_at "rd"
    try refine rd_I (.inl ⟨by omega, by omega⟩) ?_
    walk_at "rd"
    exact q
end My
set_option Elab.async false
set_option linter.all false
set_option maxRecDepth 100000
namespace My
open PySem L2 St
set_option maxHeartbeats 4000000
local macro_rules | `(tactic| walk_at "cond") => `(tactic| first | decide | omega | (dsimp only; omega) | (unfold CMul; omega) | (unfold CPow; exact ⟨by decide, by decide, by decide⟩) | (dsimp only; exact ⟨by omega, by omega⟩) | exact .inr ⟨by decide, by decide⟩ | exact .inl ⟨by decide, by decide⟩ | (unfold SmallR; omega))
local macro_rules | `(tactic| walk_at "sq") => `(tactic| first | assumption | exact SqL.of (by assumption) | exact SqT.of (by assumption) | exact SqL.of (by solve_by_elim) | exact SqT.of (by solve_by_elim) | solve_by_elim)
local macro_rules | `(tactic| walk_at "rd") => `(tactic| repeat (first | with_reducible refine rd_seq ?_ | with_reducible refine rd_ret ?_ | with_reducible refine rd_retN ?_ | with_reducible refine rd_asg ?_ | with_reducible refine rd_drop ?_ | with_reducible refine rd_ifS ?_ | with_reducible refine rd_next ?_ | with_reducible refine rd_name ?_ | ((with_reducible apply rd_var); (exact rfl)) | with_reducible refine rd_c ?_ | with_reducible refine rd_op ?_ | with_reducible refine rd_un ?_ | with_reducible refine rd_CB ?_ | with_reducible refine rd_cons ?_ | with_reducible refine rd_nil ?_ | with_reducible refine rd_ints ?_ | with_reducible refine rd_test ?_ | with_reducible refine rd_B ?_ | with_reducible refine rd_exb ?_ | with_reducible refine rd_not ?_ | with_reducible refine rd_and ?_ | with_reducible refine rd_or ?_ | with_reducible refine rd_andV ?_ | with_reducible refine rd_orV ?_ | with_reducible refine rd_notV ?_ | with_reducible refine rd_ifE ?_ | with_reducible refine rd_yes ?_ | with_reducible refine rd_I0 ?_ | ((with_reducible apply rd_I); (walk_at "cond")) | with_reducible refine rd_U ?_ | with_reducible refine rd_EqI ?_ | with_reducible refine rd_NeI ?_ | with_reducible refine rd_EqB ?_ | with_reducible refine rd_NeB ?_ | with_reducible refine rd_call ?_ | with_reducible refine rd_BM ?_ | with_reducible refine rd_tup ?_ | with_reducible refine rd_lst ?_ | with_reducible refine rd_sl ?_ | with_reducible refine rd_noPart ?_ | with_reducible refine rd_part ?_ | with_reducible refine rd_exi ?_ | with_reducible refine rd_chain ?_ | with_reducible refine rd_comp ?_ | with_reducible refine rd_iL ?_ | with_reducible refine rd_iT ?_ | with_reducible refine rd_i1 ?_ | with_reducible refine rd_i2 ?_ | with_reducible refine rd_i3 ?_ | with_reducible refine rd_for ?_ | with_reducible refine rd_tTru ?_ | with_reducible refine rd_intB ?_ | with_reducible refine rd_max2 ?_ | with_reducible refine rd_min2 ?_ | with_reducible refine rd_sub ?_ | with_reducible refine rd_gcons ?_ | with_reducible refine rd_gnil ?_ | ((with_reducible apply rd_aug); (exact rfl)) | with_reducible refine rd_ipI ?_ | with_reducible refine rd_zip ?_ | with_reducible refine rd_rev ?_ | with_reducible refine rd_par ?_ | with_reducible refine rd_par2 ?_ | with_reducible refine rd_lam ?_ | with_reducible refine rd_calV ?_ | with_reducible refine rd_raise ?_ | with_reducible refine rd_fs ?_ | with_reducible refine rd_try ?_ | with_reducible refine rd_bseq ?_ | with_reducible refine rd_bnext ?_ | with_reducible refine rd_bplain ?_ | with_reducible refine rd_bif ?_ | with_reducible refine rd_bcall ?_ | with_reducible refine rd_enum ?_ | with_reducible refine rd_gget ?_ | with_reducible refine rd_gin ?_ | with_reducible refine rd_revL ?_ | with_reducible refine rd_leS ?_ | with_reducible refine rd_disp ?_ | with_reducible refine rd_dget ?_ | with_reducible refine rd_lrev ?_ | with_reducible refine rd_disp1 ?_ | with_reducible refine rd_din ?_ | with_reducible refine rd_dnin ?_ | with_reducible refine rd_dput ?_ | with_reducible refine rd_min3 ?_ | dsimp only))
noncomputable def nxt (ws : List Way) (T : Int) (x : Bfs.Pl) (k : Nat) : Option Bfs.Pl :=
  (ws[k]?).bind fun w => if w.room = x.1 then (stp w.deed x.2).bind fun n => if n ≤ T then some (w.other, n) else none else none
theorem rz_up : rz "up" = 1 := by decide +kernel
theorem rz_down : rz "down" = -1 := by decide +kernel
theorem rz_stay : rz "stay" = 0 := by decide +kernel
theorem rz_zero : rz "zero" = 0 := by decide +kernel
theorem stp_only {z : Str} {n n' : Int} (hz : okDeed z) (h : stp z n = some n') : n' = n + rz z := by
  rcases hz with e | e | e | e <;> rw [e] at h ⊢
  · rw [stp_up] at h; rw [rz_up]; cases h; rfl
  · rw [stp_down] at h
    rw [rz_down]
    split at h
    · cases h; omega
    · cases h
  · rw [stp_stay] at h; rw [rz_stay]; cases h; omega
  · rw [stp_zero] at h
    rw [rz_zero]
    split at h
    · cases h; omega
    · cases h
theorem opn_iff {w : Way} (hz : okDeed w.deed) (x : Bfs.Pl) : opn w x.1 x.2 = true ↔ w.room = x.1 ∧ stp w.deed x.2 = some (x.2 + rz w.deed) := by
  unfold opn
  rcases hz with e | e | e | e <;> rw [e]
  · rw [sUD, sUZ, stp_up, rz_up]; simp
  · rw [sEE, stp_down, rz_down]
    by_cases h : 0 < x.2
    · rw [decide_eq_true h]; simp [Int.sub_eq_add_neg]
    · rw [decide_eq_false h]; simp
  · rw [sSD, decide_eq_false (show ¬ (Str.ofString "stay") = Str.ofString "zero" by decide +kernel), stp_stay, rz_stay]; simp
  · rw [sZD, sEE, stp_zero, rz_zero]
    by_cases h : x.2 = 0
    · rw [decide_eq_true h]; simp
    · rw [decide_eq_false h]; simp
theorem nxt_yes {ws : List Way} {T : Int} {x : Bfs.Pl} {k : Nat} {w : Way} (h : ws[k]? = some w) (hz : okDeed w.deed) (ho : opn w x.1 x.2 = true) (ht : x.2 + rz w.deed ≤ T) : nxt ws T x k = some (w.other, x.2 + rz w.deed) := by
  obtain ⟨h1, h2⟩ := (opn_iff hz x).mp ho
  unfold nxt
  rw [h, Option.bind_some, if_pos h1, h2, Option.bind_some, if_pos ht]
theorem nxt_of {ws : List Way} {T : Int} {x y : Bfs.Pl} {k : Nat} (h : nxt ws T x k = some y) : ∃ w, ws[k]? = some w ∧ w.room = x.1 ∧ stp w.deed x.2 = some y.2 ∧ y.1 = w.other ∧ y.2 ≤ T := by
  unfold nxt at h
  obtain ⟨w, hw, h⟩ := Option.bind_eq_some_iff.mp h
  split at h
  · rename_i hr
    obtain ⟨n, hn, h⟩ := Option.bind_eq_some_iff.mp h
    split at h
    · rename_i ht
      cases h
      exact ⟨w, hw, hr, hn, rfl, ht⟩
    · cases h
  · cases h
theorem nxt_opn {ws : List Way} {T : Int} {x y : Bfs.Pl} {k : Nat} {w : Way} (hw : ws[k]? = some w) (hz : okDeed w.deed) (h : nxt ws T x k = some y) : opn w x.1 x.2 = true ∧ y = (w.other, x.2 + rz w.deed) ∧ x.2 + rz w.deed ≤ T := by
  obtain ⟨w', hw', hr, hs, ho, ht⟩ := nxt_of h
  rw [hw] at hw'
  cases hw'
  have e := stp_only hz hs
  rw [e] at ht hs
  exact ⟨(opn_iff hz x).mpr ⟨hr, hs⟩, Prod.ext ho e, ht⟩
theorem stp_low {z : Str} {n n' : Int} (hz : okDeed z) (h0 : 0 ≤ n) (h : stp z n = some n') : 0 ≤ n' := by
  rcases hz with e | e | e | e <;> rw [e] at h
  · rw [stp_up] at h; cases h; omega
  · rw [stp_down] at h
    split at h
    · rename_i g
      have := of_decide_eq_true g
      cases h; omega
    · cases h
  · rw [stp_stay] at h; cases h; exact h0
  · rw [stp_zero] at h
    split at h
    · cases h; exact h0
    · cases h
noncomputable def ValP (H : Hp) (v : V) : Option (Bfs.Pl × Nat) → Prop
  | none => v = .non
  | some (p, k) => ∃ a b, v = .ref a ∧ H a = some (.tup [.ref b, .int (k : Int)]) ∧ PlAt H b p
theorem ValP.ext {H H' : Hp} (e : Ext H H') {v : V} {o : Option (Bfs.Pl × Nat)} (h : ValP H v o) : ValP H' v o := by
  cases o with
  | none => exact h
  | some pk =>
    obtain ⟨a, b, h1, h2, h3⟩ := h
    exact ⟨a, b, h1, e _ _ h2, e _ _ h3⟩
theorem ValP.put {H : Hp} {f : Addr} {u u' : HO} (hf : H f = some u) (hn : ∀ xs, u ≠ .tup xs) {v : V} {o : Option (Bfs.Pl × Nat)} (h : ValP H v o) : ValP (upd H f u') v o := by
  cases o with
  | none => exact h
  | some pk =>
    obtain ⟨a, b, h1, h2, h3⟩ := h
    exact ⟨a, b, h1, by rw [upd_ne (ne_of h2 hf (fun z => hn _ z.symm))]; exact h2, PlAt.put hf hn h3⟩
noncomputable abbrev KvP (H : Hp) (kv : List Key × V) (e : Bfs.Ent) : Prop := kv.1 = plK e.1 ∧ ValP H kv.2 e.2.2
noncomputable abbrev RwP (H : Hp) (a : Addr) (e : Bfs.Ent) : Prop := PlAt H a e.1
section
variable {β : Type} {F : List Key × V → β → Prop} {key : β → Bfs.Pl} {kvs : List (List Key × V)} {q : List β}
theorem kv_no (hF : ∀ kv e, F kv e → kv.1 = plK (key e)) (h : Paired F kvs q) {x : Bfs.Pl} (hx : x ∉ q.map key) : valV kvs (plK x) = none := by
  induction h with
  | nil => rfl
  | @cons a b as bs h t ih =>
    rw [List.map_cons, List.mem_cons, not_or] at hx
    rw [valV_neg (fun z => hx.1 (plK_inj (z.symm.trans (hF _ _ h))))]
    exact ih hx.2
theorem kv_yes (hF : ∀ kv e, F kv e → kv.1 = plK (key e)) (h : Paired F kvs q) (nd : (q.map key).Nodup) {e : β} (he : e ∈ q) : ∃ v, valV kvs (plK (key e)) = some v ∧ F (plK (key e), v) e := by
  induction h with
  | nil => cases he
  | @cons a b as bs h t ih =>
    rw [List.map_cons, List.nodup_cons] at nd
    rcases List.mem_cons.mp he with z | z
    · subst z
      have e1 := hF _ _ h
      refine ⟨a.2, valV_pos e1, ?_⟩
      rw [← e1]
      exact h
    · obtain ⟨v, h1, h2⟩ := ih nd.2 z
      refine ⟨v, ?_, h2⟩
      rw [valV_neg (fun w => nd.1 ?_)]
      · exact h1
      · rw [plK_inj ((hF _ _ h).symm.trans w)]
        exact List.mem_map.mpr ⟨e, z, rfl⟩
end
structure FF (H0 H : Hp) (f rw : Addr) (q : List Bfs.Ent) : Prop where
  ext : Ext H0 H
  fn : H0 f = none
  rn : H0 rw = none
  d : ∃ kvs, H f = some (.dT kvs) ∧ Paired (KvP H) kvs q
  r : ∃ as, H rw = some (.lst (List.map V.ref as)) ∧ Paired (RwP H) as q
theorem FF.step {H0 H H1 : Hp} {f rw : Addr} {q : List Bfs.Ent} (h : FF H0 H f rw q) (e : Ext H H1) : FF H0 H1 f rw q := by
  obtain ⟨h1, h2, h3, ⟨kvs, h4, h5⟩, as, h6, h7⟩ := h
  exact ⟨h1.trans e, h2, h3, ⟨kvs, e _ _ h4, Paired.mapP h5 fun _ _ z => ⟨z.1, z.2.ext e⟩⟩, as, e _ _ h6, Paired.mapP h7 fun _ _ z => e _ _ z⟩
theorem FF.push {H0 H : Hp} {f rw th t b : Addr} {q : List Bfs.Ent} {y p : Bfs.Pl} {k d : Nat} (h : FF H0 H f rw q) (hy : y ∉ q.map (·.1)) (hth : PlAt H th y) (hb : PlAt H b p) (ht : H t = some (.tup [.ref b, .int (k : Int)])) :
    ∃ kvs, H f = some (.dT kvs) ∧ kvs.length = q.length ∧ ∃ as, upd H f (.dT (putK kvs (plK y) (.ref t))) rw = some (.lst (List.map V.ref as)) ∧ as.length = q.length ∧
      FF H0 (upd (upd H f (.dT (putK kvs (plK y) (.ref t)))) rw (.lst (List.map V.ref as ++ [.ref th]))) f rw (q ++ [(y, d, some (p, k))]) := by
  obtain ⟨h1, h2, h3, ⟨kvs, h4, h5⟩, as, h6, h7⟩ := h
  have nf : ∀ xs, (HO.dT kvs) ≠ .tup xs := fun xs z => by cases z
  have nr : ∀ xs, (HO.lst (List.map V.ref as)) ≠ .tup xs := fun xs z => by cases z
  have ne : rw ≠ f := ne_of h6 h4 (by intro z; cases z)
  have h6' : upd H f (.dT (putK kvs (plK y) (.ref t))) rw = some (.lst (List.map V.ref as)) := by rw [upd_ne ne]; exact h6
  have vp : ValP H (.ref t) (some (p, k)) := ⟨t, b, rfl, ht, hb⟩
  refine ⟨kvs, h4, Paired.length h5, as, h6', Paired.length h7, ext_write (ext_write h1 h2) h3, h2, h3, ⟨kvs ++ [(plK y, .ref t)], ?_, ?_⟩, as ++ [th], ?_, ?_⟩
  · rw [upd_ne ne.symm, upd_same, putK_new _ (kv_no (fun _ _ z => z.1) h5 hy)]
  · exact Paired.snoc (Paired.mapP h5 fun _ _ z => ⟨z.1, (z.2.put h4 nf).put h6' nr⟩) ⟨rfl, (vp.put h4 nf).put h6' nr⟩
  · rw [upd_same, List.map_append]; rfl
  · exact Paired.snoc (Paired.mapP h7 fun _ _ z => PlAt.put h6' nr (PlAt.put h4 nf z)) (PlAt.put h6' nr (PlAt.put h4 nf hth))
noncomputable def inT (m T : Int) (x : Bfs.Pl) : Prop := 0 ≤ x.1 ∧ x.1 < m ∧ 0 ≤ x.2 ∧ x.2 ≤ T
theorem inT.few {m T : Int} {l : List Bfs.Pl} (hm : m ≤ 12) (hT : T ≤ 2000) (hn : l.Nodup) (h : ∀ x ∈ l, inT m T x) : l.length ≤ 24012 :=
  Bfs.nodup_pl hT hn fun x hx => by
    obtain ⟨a, b, c, d⟩ := h x hx
    exact ⟨a, by omega, c, d⟩
theorem nxt_in {m T : Int} {ws : List Way} (ok : HOuse m ws) {x y : Bfs.Pl} {k : Nat} (hx : 0 ≤ x.2) (h : nxt ws T x k = some y) : inT m T y := by
  obtain ⟨w, hw, hr, hs, ho, ht⟩ := nxt_of h
  have okw := ok.ok w (List.mem_of_getElem? hw)
  exact ⟨by rw [ho]; exact okw.o0, by rw [ho]; exact okw.o1, stp_low okw.dd hx hs, ht⟩
noncomputable def ffW (H1 : Hp) (ws : List Way) (m T : Int) (x : Bfs.Pl) (v : V) (pa ga c f rw : Addr) (M : Nat) (σ : St) (H' : Hp) : Prop :=
  ∃ q i B k1 k2 k3 k4, σ = [some v, some (.ref pa), some (.ref ga), some (.int T), some (.ref c), some (.ref f), some (.ref rw), some (.int ((i : Nat) : Int)), k1, k2, k3, k4] ∧ FF H1 H' f rw q ∧ Bfs.QI (nxt ws T) x q i B ∧ (∀ e ∈ q, inT m T e.1) ∧ i ≤ q.length ∧ M + i = 24013
noncomputable def ffR (H1 : Hp) (ws : List Way) (T : Int) (x g : Bfs.Pl) (v : V) (pa ga c f rw : Addr) (σ : St) (H' : Hp) : Prop :=
  ∃ q i B k0 k1 k2 k3 k4, σ = [some v, some (.ref pa), some (.ref ga), some (.int T), some (.ref c), some (.ref f), some (.ref rw), k0, k1, k2, k3, k4] ∧ FF H1 H' f rw q ∧ Bfs.QI (nxt ws T) x q i B ∧ q.length ≤ 24012 ∧ (i = q.length ∨ g ∈ q.map (·.1))
noncomputable def ffP (H1 : Hp) (ws : List Way) (m T : Int) (x : Bfs.Pl) (v : V) (pa ga c f rw b : Addr) (i : Nat) (h : Bfs.Ent) (ks : List Nat) (j : Nat) (σ : St) (H' : Hp) : Prop :=
  ∃ q k1 k2 k3, σ = [some v, some (.ref pa), some (.ref ga), some (.int T), some (.ref c), some (.ref f), some (.ref rw), some (.int ((i : Nat) : Int)), some (.ref b), k1, k2, k3] ∧ FF H1 H' f rw q ∧ Bfs.QF (nx := nxt ws T) (s := x) q (i - 1) h ks j ∧ (∀ e ∈ q, inT m T e.1) ∧ PlAt H' b h.1
theorem topOf_hi {m : Int} {x g : Bfs.Pl} (h0 : 0 ≤ m) (hm : m ≤ 12) (hx : x.2 ≤ 1000) (hg : g.2 ≤ 1000) : topOf m x g ≤ 2000 := by
  unfold topOf
  have : m * m ≤ 12 * 12 := Int.mul_le_mul hm hm h0 (by decide)
  split <;> omega
theorem topOf_lo {m : Int} {x g : Bfs.Pl} (h0 : 0 ≤ m) : x.2 ≤ topOf m x g ∧ g.2 ≤ topOf m x g := by
  unfold topOf
  have : 0 ≤ m * m := Int.mul_nonneg h0 h0
  split <;> constructor <;> omega
noncomputable def sp_found_from (K : PySem.W.Frag) : Sp := fun vs H Q _ => ∃ v m ws pa ga x g, vs = [v, .ref pa, .ref ga] ∧ HouseAt H v m ws ∧ HOuse m ws ∧ PlAt H pa x ∧ PlAt H ga g ∧ inH m x ∧ inH m g ∧
  ∀ f H' kvs q i B, Ext H H' → H' f = some (.dT kvs) → Paired (KvP H') kvs q → Bfs.QI (nxt ws (topOf m x g)) x q i B → q.length ≤ 24012 → (i = q.length ∨ g ∈ q.map (·.1)) → Q (.ref f) H'
noncomputable abbrev s_found_from : Stmt := top 33
theorem sc_found_from : FnScope ["house", "place", "goal", "greatest", "counts", "found", "row", "looked", "here", "count", "way", "there"] ["house", "place", "goal"] (defScope s_found_from) := ⟨rfl, rfl, rfl, by decide +kernel, rfl, by decide +kernel, by decide +kernel⟩
theorem ok_found_from {P : Program} {w : World} {K : PySem.W.Frag} {mg : Str → Option Value} {base : Heap} (D : Dfn K mg "found_from" s_found_from ["house", "place", "goal"]) (T : Blt mg) (C_is_open : Cal P w K mg base "is_open" 1 ["way", "place"] (sp_is_open K)) (C_led_to : Cal P w K mg base "led_to" 2 ["way", "place"] (sp_led_to K)) (C_counts_by_room : Cal P w K mg base "counts_by_room" 1 ["house"] (sp_counts_by_room K)) (C_greatest_met : Cal P w K mg base "greatest_met" 1 ["house", "place", "goal"] (sp_greatest_met K)) : Cal P w K mg base "found_from" 3 ["house", "place", "goal"] (sp_found_from K) := by
  have nd := (sc_found_from).nd
  refine D.ok sc_found_from (fun vs H Q E h => ?_) (fun X hX H vs Q E h => ?_)
  · obtain ⟨v, m, ws, pa, ga, x, g, rfl, _⟩ := h; rfl
  · obtain ⟨f, cdv, A, outer, s, H0, E0, rfl, hr⟩ := hX
    obtain ⟨v, m, ws, pa, ga, x, g, rfl, hv, ok, hx, hg, ix, ig, q⟩ := h
    have m1 := ok.m1
    have m2 := ok.m12
    have hfew := ok.few
    have hT := topOf_hi (m := m) (x := x) (g := g) (by omega) m2 ix.2.2.2 ig.2.2.2
    have hxT := (topOf_lo (m := m) (x := x) (g := g) (by omega)).1
    refine ⟨_, (no_implicit_lambda% (pss_cons (no_implicit_lambda% (ps_set (i := 3) nd rfl (Or.inl rfl) (no_implicit_lambda% (pe_cal C_greatest_met hr (no_implicit_lambda% (pa_cons (no_implicit_lambda% (pv 0)) (no_implicit_lambda% (pa_cons (no_implicit_lambda% (pv 1)) (no_implicit_lambda% (pa_cons (no_implicit_lambda% (pv 2)) pa_nil))))))))))
        (no_implicit_lambda% (pss_cons (no_implicit_lambda% (ps_set (i := 4) nd rfl (Or.inl rfl) (no_implicit_lambda% (pe_cal C_counts_by_room hr (no_implicit_lambda% (pa_cons (no_implicit_lambda% (pv 0)) pa_nil))))))
        (no_implicit_lambda% (pss_cons (no_implicit_lambda% (ps_set (i := 5) nd rfl (Or.inl rfl) (no_implicit_lambda% (pe_disp1T (hu_of hr) (no_implicit_lambda% (pv 1)) pe_non))))
        (no_implicit_lambda% (pss_cons (no_implicit_lambda% (ps_set (i := 6) nd rfl (Or.inl rfl) (no_implicit_lambda% (pe_lst (no_implicit_lambda% (pa_cons (no_implicit_lambda% (pv 1)) pa_nil))))))
        (no_implicit_lambda% (pss_cons (no_implicit_lambda% (ps_set (i := 7) nd rfl (Or.inl rfl) pe_int))
        (no_implicit_lambda% (pss_cons (no_implicit_lambda% (ps_whileJ PassesOwn.never (no_implicit_lambda% (PW.pt (pw_and (no_implicit_lambda% (pt_cmpR op_lt (no_implicit_lambda% (pv 7)) (no_implicit_lambda% (pe_callB (call_lenK K) rfl T.len_ PySem.boot_len (no_implicit_lambda% (pa_cons (no_implicit_lambda% (pv 6)) pa_nil)))) (nomark _))) (pw_and1 (no_implicit_lambda% (pt_cmp (pc_dnotin (hu_of hr) (no_implicit_lambda% (pv 2)) (no_implicit_lambda% (pv 5))) (by with_unfolding_all rfl))))))) (no_implicit_lambda% (pss_cons (no_implicit_lambda% (ps_set (i := 8) nd rfl (Or.inl rfl) (no_implicit_lambda% (pe_ix (ix_listK K) (no_implicit_lambda% (pv 6)) (no_implicit_lambda% (pv 7)) (fun _ _ => rfl)))))
        (no_implicit_lambda% (pss_cons (no_implicit_lambda% (ps_aug (i := 7) nd rfl (Or.inl rfl) pe_int ip_add))
        (no_implicit_lambda% (pss_one (no_implicit_lambda% (ps_for PassesOwn.never rfl (no_implicit_lambda% (pi_listK K (no_implicit_lambda% (pe_ix (ix_listK K) (no_implicit_lambda% (pv 4)) (no_implicit_lambda% (pe_ix (ix_tupK K) (no_implicit_lambda% (pv 8)) pe_int (fun _ _ => rfl))) (fun _ _ => rfl))))) (no_implicit_lambda% (pg_name (i := 9) nd rfl (Or.inl rfl))) (no_implicit_lambda% (pss_cons (no_implicit_lambda% (ps_set (i := 10) nd rfl (Or.inl rfl) (no_implicit_lambda% (pe_ix (ix_tupK K) (no_implicit_lambda% (pe_ix (ix_tupK K) (no_implicit_lambda% (pv 0)) pe_int (fun _ _ => rfl))) (no_implicit_lambda% (pv 9)) (fun _ _ => rfl)))))
        (no_implicit_lambda% (pss_cons (no_implicit_lambda% (ps_set (i := 11) nd rfl (Or.inl rfl) (no_implicit_lambda% (pe_cal C_led_to hr (no_implicit_lambda% (pa_cons (no_implicit_lambda% (pv 10)) (no_implicit_lambda% (pa_cons (no_implicit_lambda% (pv 8)) pa_nil))))))))
        (no_implicit_lambda% (pss_one (no_implicit_lambda% (ps_ifJ (no_implicit_lambda% (PW.pt (pw_and (no_implicit_lambda% (pt_val (no_implicit_lambda% (pe_cal C_is_open hr (no_implicit_lambda% (pa_cons (no_implicit_lambda% (pv 10)) (no_implicit_lambda% (pa_cons (no_implicit_lambda% (pv 8)) pa_nil)))))))) (pw_and (no_implicit_lambda% (pt_cmpR op_le (no_implicit_lambda% (pe_ix (ix_tupK K) (no_implicit_lambda% (pv 11)) pe_int (fun _ _ => rfl))) (no_implicit_lambda% (pv 3)) (nomark _))) (pw_and1 (no_implicit_lambda% (pt_cmp (pc_dnotin (hu_of hr) (no_implicit_lambda% (pv 11)) (no_implicit_lambda% (pv 5))) (by with_unfolding_all rfl)))))))) (no_implicit_lambda% (pss_cons (no_implicit_lambda% (ps_dput (hu_of hr) (no_implicit_lambda% (pv 5)) (no_implicit_lambda% (pv 11)) (no_implicit_lambda% (pe_tup (no_implicit_lambda% (pa_cons (no_implicit_lambda% (pv 8)) (no_implicit_lambda% (pa_cons (no_implicit_lambda% (pv 9)) pa_nil)))))) rfl))
        (no_implicit_lambda% (pss_one (no_implicit_lambda% (ps_expr (no_implicit_lambda% (pe_bmK K PySem.F.plainAttrs_list PySem.F.slot_list_append PySem.F.type_list_append mt_append (no_implicit_lambda% (pv 6)) (no_implicit_lambda% (pa_cons (no_implicit_lambda% (pv 11)) pa_nil)))))))))) pss_nil))))))))))))))))))
        (no_implicit_lambda% (pss_one (no_implicit_lambda% (ps_ret (no_implicit_lambda% (pv 5)))))))))))))))))), ?_⟩
    walk_at "rd"
    refine ⟨v, m, ws, pa, ga, x, g, rfl, hv, ok, hx, hg, ?_⟩
    generalize topOf m x g = T at q hT hxT ⊢
    walk_at "rd"
    refine ⟨v, m, ws, rfl, hv, ok, fun c ls H1 e1 ct => ?_⟩
    walk_at "rd"
    refine fun f hfn => ?_
    walk_at "rd"
    refine ⟨pa, plK x, rfl, (ext_upd hfn) _ _ (e1 _ _ hx), upd_same, ?_⟩
    walk_at "rd"
    refine ⟨small_line (by simp), rd_new fun rw H3 e3 hrw hrn => ?_⟩
    walk_at "rd"
    have e13 : Ext H1 (upd (upd H1 f (.dT [])) f (.dT [(plK x, .non)])) := fun b o hb => by
      rw [upd_ne (ne_of_none hb hfn), upd_ne (ne_of_none hb hfn)]; exact hb
    have hrn1 : H1 rw = none := e13.none hrn
    have hf3 : H3 f = some (.dT [(plK x, .non)]) := e3 _ _ upd_same
    have ff0 : FF H1 H3 f rw [(x, 0, none)] := ⟨e13.trans e3, hfn, hrn1, ⟨_, hf3, .cons ⟨rfl, rfl⟩ .nil⟩, [pa], hrw, .cons (e3 _ _ (e13 _ _ (e1 _ _ hx))) .nil⟩
    refine rd_while (ffW H1 ws m T x v pa ga c f rw) (ffR H1 ws T x g v pa ga c f rw) 24013 ⟨[(x, 0, none)], 0, 0, _, _, _, _, rfl, ff0, Bfs.QI.begin _ _, ?_, by simp, rfl⟩ ?_ ?_
    · intro e he
      rw [List.mem_singleton] at he
      subst he
      exact ⟨ix.1, ix.2.1, ix.2.2.1, hxT⟩
    · clear ff0 hf3 hrn1 e13 hrw hrn e3
      rintro M σ H4 ⟨qq, i, B, k1, k2, k3, k4, rfl, ff, qi, hin, hi, hM⟩
      have hqn : qq.length ≤ 24012 := by
        have := inT.few m2 hT qi.nd (fun y hy => by
          obtain ⟨e, he, rfl⟩ := List.mem_map.mp hy
          exact hin e he)
        rwa [List.length_map] at this
      obtain ⟨kvs, hd, pk⟩ := ff.d
      obtain ⟨as, hr, pr⟩ := ff.r
      have hal := Paired.length pr
      have hg4 : PlAt H4 ga g := ff.ext _ _ (e1 _ _ hg)
      walk_at "rd"
      refine rd_lenL (SqL.of hr) ?_
      walk_at "rd"
      by_cases hlt : i < qq.length
      rotate_left
      · rw [decide_eq_false (show ¬ ((i : Nat) : Int) < ((List.map V.ref as).length : Nat) by rw [List.length_map, hal]; omega)]
        refine iteF ?_
        refine iteF ?_
        exact ⟨qq, i, B, _, _, _, _, _, rfl, ff, qi, hqn, .inl (by omega)⟩
      · rw [decide_eq_true (show ((i : Nat) : Int) < ((List.map V.ref as).length : Nat) by rw [List.length_map, hal]; omega)]
        refine iteT ?_
        walk_at "rd"
        refine ⟨f, _, rfl, DGet.t hd (k := plK g) hg4, ?_⟩
        by_cases hgk : g ∈ qq.map (·.1)
        · obtain ⟨e, he, rfl⟩ := List.mem_map.mp hgk
          obtain ⟨v1, hv1, _⟩ := kv_yes (fun _ _ z => z.1) pk qi.nd he
          rw [hv1]
          refine rd_exb (iteF ?_)
          exact ⟨qq, i, B, _, _, _, _, _, rfl, ff, qi, hqn, .inr hgk⟩
        · rw [kv_no (fun _ _ z => z.1) pk hgk]
          refine rd_exb (iteT ?_)
          refine ⟨fun σ' H' => ∃ m', m' < M ∧ ffW H1 ws m T x v pa ga c f rw m' σ' H', fun _ _ h => h, ?_⟩
          have hqi := List.getElem?_eq_getElem hlt
          generalize qq[i] = hh at hqi
          obtain ⟨b, hb, hbp⟩ := paired_ta pr hqi
          have qf := qi.look hqi (cntN ws hh.1.1 ws.length)
          have hih := hin hh (List.mem_of_getElem? hqi)
          obtain ⟨hr0, hr1, hn0, hn1⟩ := hih
          clear qi hgk hg4 pr hal pk hd
          walk_at "rd"
          refine rd_ixL (SqL.of hr) (atI_nat (v := .ref b) (by rw [List.getElem?_map, hb]; rfl)) ?_
          walk_at "rd"
          refine rd_ixT (SqT.of hbp) (v := .int hh.1.1) rfl ?_
          walk_at "rd"
          have ct4 := ct.ext ff.ext
          have hlr : hh.1.1.toNat < ls.length := by rw [ct.len]; omega
          have hlg : ls[hh.1.1.toNat]? = some ls[hh.1.1.toNat] := List.getElem?_eq_getElem hlr
          generalize ls[hh.1.1.toNat] = l at hlg
          have hll := ct.it _ _ hlg
          rw [show ((hh.1.1.toNat : Nat) : Int) = hh.1.1 by omega] at hll
          refine rd_ixL (SqL.of ct4.at_) (v := .ref l) (atI_of hr0 (by rw [List.getElem?_map, hlg]; rfl)) ?_
          refine rd_iLx (SqL.of (ff.ext _ _ hll)) ?_
          obtain ⟨hp, ht, rfl, g1, g2⟩ := hv.ext e1
          obtain ⟨bs, g3, al⟩ := WaysAt.al g2
          refine forL (xs := intsN (cntN ws hh.1.1 ws.length)) (ffP H1 ws m T x (.ref hp) pa ga c f rw b (i + 1) hh (cntN ws hh.1.1 ws.length)) ?_ (fun j σ H' _ h => ?_) ?_ ?_
          · exact ⟨qq, k2, k3, k4, rfl, ff, qf, hin, hbp⟩
          · obtain ⟨_, _, _, _, _, ff', _⟩ := h
            exact SqL.of (ff'.ext _ _ hll)
          · clear qf ff hbp hr hqi hlt hqn hin
            rintro j u σ H5 hu ⟨q5, c1, c2, c3, rfl, ff, qf, hin, hbp⟩
            rw [List.getElem?_map] at hu
            obtain ⟨k, hk, rfl⟩ := Option.map_eq_some_iff.mp hu
            obtain ⟨w, hw, hroom⟩ := cntN_lt (List.mem_of_getElem? hk)
            have okw := ok.ok w (List.mem_of_getElem? hw)
            have hkb : k < bs.length := by rw [al.1]; exact (List.getElem?_eq_some_iff.mp hw).1
            have hbk := List.getElem?_eq_getElem hkb
            generalize bs[k] = bk at hbk
            have hwt := al.2 k bk w hbk hw
            have hqn : q5.length ≤ 24012 := by
              have := inT.few m2 hT qf.nd (fun y hy => by
                obtain ⟨e, he, rfl⟩ := List.mem_map.mp hy
                exact hin e he)
              rwa [List.length_map] at this
            walk_at "rd"
            refine rd_ixT (SqT.of (ff.ext _ _ g1)) (v := .ref ht) rfl ?_
            walk_at "rd"
            refine rd_ixT (SqT.of (ff.ext _ _ g3)) (v := .ref bk) (atI_nat (by rw [List.getElem?_map, hbk]; rfl)) ?_
            walk_at "rd"
            refine ⟨bk, w, b, hh.1, rfl, ff.ext _ _ hwt, okw.dd, hbp, fun th H6 e6 hth hthn => ?_⟩
            have ff6 := ff.step e6
            have hb6 : PlAt H6 b hh.1 := e6 _ _ hbp
            clear ff hbp
            walk_at "rd"
            refine rd_ifN ?_
            walk_at "rd"
            refine ⟨bk, w, b, hh.1, rfl, ff6.ext _ _ hwt, hb6, ?_⟩
            refine rd_exb ?_
            cases ho : opn w hh.1.1 hh.1.2 with
            | false =>
              refine iteF ?_
              refine iteF ?_
              walk_at "rd"
              exact ⟨q5, _, _, _, rfl, ff6, qf.skip hk (fun y hy => by rw [(nxt_opn hw okw.dd hy).1] at ho; cases ho), hin, hb6⟩
            | true =>
              refine iteT ?_
              walk_at "rd"
              refine rd_ixT (SqT.of hth) (v := .int (hh.1.2 + rz w.deed)) rfl ?_
              walk_at "rd"
              by_cases hle : hh.1.2 + rz w.deed ≤ T
              rotate_left
              · rw [decide_eq_false hle]
                refine iteF ?_
                refine iteF ?_
                walk_at "rd"
                exact ⟨q5, _, _, _, rfl, ff6, qf.skip hk (fun y hy => absurd (nxt_opn hw okw.dd hy).2.2 hle), hin, hb6⟩
              · rw [decide_eq_true hle]
                refine iteT ?_
                walk_at "rd"
                have hy := nxt_yes (T := T) hw okw.dd ho hle
                obtain ⟨kvs, hd, pk⟩ := ff6.d
                refine ⟨f, _, rfl, DGet.t hd (k := plK (w.other, hh.1.2 + rz w.deed)) hth, ?_⟩
                by_cases hnew : (w.other, hh.1.2 + rz w.deed) ∈ q5.map (·.1)
                · obtain ⟨e, he, hee⟩ := List.mem_map.mp hnew
                  obtain ⟨v1, hv1, _⟩ := kv_yes (fun _ _ z => z.1) pk qf.nd he
                  rw [hee] at hv1
                  rw [hv1]
                  refine rd_exb (iteF ?_)
                  walk_at "rd"
                  exact ⟨q5, _, _, _, rfl, ff6, qf.skip hk (fun y hy' => by rw [hy] at hy'; cases hy'; exact hnew), hin, hb6⟩
                · rw [kv_no (fun _ _ z => z.1) pk hnew]
                  refine rd_exb (iteT ?_)
                  clear pk hd
                  walk_at "rd"
                  refine ⟨small_line (by simp), rd_new fun t H7 e7 ht7 _ => ?_⟩
                  walk_at "rd"
                  obtain ⟨kvs, hd, hkl, as, hr7, hal, ff8⟩ := (ff6.step e7).push (d := hh.2.1 + 1) hnew (e7 _ _ hth) (e7 _ _ hb6) ht7
                  have hb8 := PlAt.put (o' := .lst (List.map V.ref as ++ [.ref th])) hr7 (fun xs z => by cases z) (PlAt.put (o' := .dT (putK kvs (plK (w.other, hh.1.2 + rz w.deed)) (.ref t))) hd (fun xs z => by cases z) (e7 _ _ hb6))
                  refine ⟨f, _, rfl, DPut.t hd (k := plK (w.other, hh.1.2 + rz w.deed)) (e7 _ _ hth) (line17 (by omega)), ?_⟩
                  walk_at "rd"
                  refine ⟨rd_tyL (SqL.of hr7), ?_⟩
                  walk_at "rd"
                  refine rd_append hr7 (line17 (by rw [List.length_map]; omega)) ?_
                  refine ⟨_, _, _, _, rfl, ff8, qf.add hk hy hnew, ?_, hb8⟩
                  intro e he
                  rcases List.mem_append.mp he with z | z
                  · exact hin e z
                  · rw [List.mem_singleton] at z
                    subst z
                    exact nxt_in ok hn0 hy
          · rintro σ H5 ⟨q5, c1, c2, c3, rfl, ff5, qf5, hin5, hbp5⟩
            rw [List.length_map] at qf5
            refine ⟨M - 1, by omega, q5, i + 1, hh.2.1, _, _, _, _, rfl, ff5, qf5.next (fun k y hy => ?_), hin5, ?_, by omega⟩
            · obtain ⟨w, hw, hr, _⟩ := nxt_of hy
              exact cntN_mem hw hr
            · have := (List.getElem?_eq_some_iff.mp qf5.at_).1
              omega
    · rintro σ H4 ⟨qq, i, B, k0, k1, k2, k3, k4, rfl, ff, qi, hqn, hend⟩
      obtain ⟨kvs, hd, pk⟩ := ff.d
      walk_at "rd"
      exact q f H4 kvs qq i B (e1.trans ff.ext) hd pk qi hqn hend
end My
set_option Elab.async false
set_option linter.all false
set_option maxRecDepth 100000
namespace My
open PySem L2 St
set_option maxHeartbeats 4000000
local macro_rules | `(tactic| walk_at "cond") => `(tactic| first | decide | omega | (dsimp only; omega) | (unfold CMul; omega) | (unfold CPow; exact ⟨by decide, by decide, by decide⟩) | (dsimp only; exact ⟨by omega, by omega⟩) | exact .inr ⟨by decide, by decide⟩ | exact .inl ⟨by decide, by decide⟩ | (unfold SmallR; omega))
local macro_rules | `(tactic| walk_at "sq") => `(tactic| first | assumption | exact SqL.of (by assumption) | exact SqT.of (by assumption) | exact SqL.of (by solve_by_elim) | exact SqT.of (by solve_by_elim) | solve_by_elim)
local macro_rules | `(tactic| walk_at "rd") => `(tactic| repeat (first | with_reducible refine rd_seq ?_ | with_reducible refine rd_ret ?_ | with_reducible refine rd_retN ?_ | with_reducible refine rd_asg ?_ | with_reducible refine rd_drop ?_ | with_reducible refine rd_ifS ?_ | with_reducible refine rd_next ?_ | with_reducible refine rd_name ?_ | ((with_reducible apply rd_var); (exact rfl)) | with_reducible refine rd_c ?_ | with_reducible refine rd_op ?_ | with_reducible refine rd_un ?_ | with_reducible refine rd_CB ?_ | with_reducible refine rd_cons ?_ | with_reducible refine rd_nil ?_ | with_reducible refine rd_ints ?_ | with_reducible refine rd_test ?_ | with_reducible refine rd_B ?_ | with_reducible refine rd_exb ?_ | with_reducible refine rd_not ?_ | with_reducible refine rd_and ?_ | with_reducible refine rd_or ?_ | with_reducible refine rd_andV ?_ | with_reducible refine rd_orV ?_ | with_reducible refine rd_notV ?_ | with_reducible refine rd_ifE ?_ | with_reducible refine rd_yes ?_ | with_reducible refine rd_I0 ?_ | ((with_reducible apply rd_I); (walk_at "cond")) | with_reducible refine rd_U ?_ | with_reducible refine rd_EqI ?_ | with_reducible refine rd_NeI ?_ | with_reducible refine rd_EqB ?_ | with_reducible refine rd_NeB ?_ | with_reducible refine rd_call ?_ | with_reducible refine rd_BM ?_ | with_reducible refine rd_tup ?_ | with_reducible refine rd_lst ?_ | with_reducible refine rd_sl ?_ | with_reducible refine rd_noPart ?_ | with_reducible refine rd_part ?_ | with_reducible refine rd_exi ?_ | with_reducible refine rd_chain ?_ | with_reducible refine rd_comp ?_ | with_reducible refine rd_iL ?_ | with_reducible refine rd_iT ?_ | with_reducible refine rd_i1 ?_ | with_reducible refine rd_i2 ?_ | with_reducible refine rd_i3 ?_ | with_reducible refine rd_for ?_ | with_reducible refine rd_tTru ?_ | with_reducible refine rd_intB ?_ | with_reducible refine rd_max2 ?_ | with_reducible refine rd_min2 ?_ | with_reducible refine rd_sub ?_ | with_reducible refine rd_gcons ?_ | with_reducible refine rd_gnil ?_ | ((with_reducible apply rd_aug); (exact rfl)) | with_reducible refine rd_ipI ?_ | with_reducible refine rd_zip ?_ | with_reducible refine rd_rev ?_ | with_reducible refine rd_par ?_ | with_reducible refine rd_par2 ?_ | with_reducible refine rd_lam ?_ | with_reducible refine rd_calV ?_ | with_reducible refine rd_raise ?_ | with_reducible refine rd_fs ?_ | with_reducible refine rd_try ?_ | with_reducible refine rd_bseq ?_ | with_reducible refine rd_bnext ?_ | with_reducible refine rd_bplain ?_ | with_reducible refine rd_bif ?_ | with_reducible refine rd_bcall ?_ | with_reducible refine rd_enum ?_ | with_reducible refine rd_gget ?_ | with_reducible refine rd_gin ?_ | with_reducible refine rd_revL ?_ | with_reducible refine rd_leS ?_ | with_reducible refine rd_disp ?_ | with_reducible refine rd_dget ?_ | with_reducible refine rd_lrev ?_ | with_reducible refine rd_disp1 ?_ | with_reducible refine rd_din ?_ | with_reducible refine rd_dnin ?_ | with_reducible refine rd_dput ?_ | with_reducible refine rd_min3 ?_ | dsimp only))
noncomputable def sp_walk_back (K : PySem.W.Frag) : Sp := fun vs H Q _ => ∃ (f ga : Addr) (kvs : List (List Key × V)) (q : List Bfs.Ent) (nx : Bfs.Pl → Nat → Option Bfs.Pl) (s : Bfs.Pl) (i B : Nat) (e : Bfs.Ent), vs = [.ref f, .ref ga] ∧ H f = some (.dT kvs) ∧ Paired (KvP H) kvs q ∧ Bfs.QI nx s q i B ∧ PlAt H ga e.1 ∧ e ∈ q ∧ e.2.1 ≤ 24012 ∧
  ∀ l H' ks, Ext H H' → H' l = some (.lst (intsN ks)) → H l = none → ks.length = e.2.1 → Bfs.gone (nx := nx) s ks = some e.1 → Q (.ref l) H'
noncomputable def wbW (H : Hp) (f ga l : Addr) (q : List Bfs.Ent) (nx : Bfs.Pl → Nat → Option Bfs.Pl) (e : Bfs.Ent) (M : Nat) (σ : St) (H' : Hp) : Prop :=
  ∃ v u ks, σ = [some (.ref f), some (.ref ga), some (.ref l), some v] ∧ Ext H H' ∧ H' l = some (.lst (intsN ks)) ∧ u ∈ q ∧ ValP H' v u.2.2 ∧ u.2.1 = M ∧ ks.length + M = e.2.1 ∧ Bfs.gone (nx := nx) u.1 ks.reverse = some e.1
noncomputable abbrev s_walk_back : Stmt := top 34
theorem sc_walk_back : FnScope ["found", "goal", "walk", "step"] ["found", "goal"] (defScope s_walk_back) := ⟨rfl, rfl, rfl, by decide +kernel, rfl, by decide +kernel, by decide +kernel⟩
theorem ok_walk_back {P : Program} {w : World} {K : PySem.W.Frag} {mg : Str → Option Value} {base : Heap} (D : Dfn K mg "walk_back" s_walk_back ["found", "goal"]) (T : Blt mg) : Cal P w K mg base "walk_back" 1 ["found", "goal"] (sp_walk_back K) := by
  have nd := (sc_walk_back).nd
  refine D.ok sc_walk_back (fun vs H Q E h => ?_) (fun X hX H vs Q E h => ?_)
  · obtain ⟨f, ga, kvs, q, nx, s, i, B, e, rfl, _⟩ := h; rfl
  · obtain ⟨f, cdv, A, outer, s, H0, E0, rfl, hr⟩ := hX
    obtain ⟨f, ga, kvs, q, nx, s, i, B, e, rfl, hf, pk, qi, hg, he, hle, qq⟩ := h
    refine ⟨_, (no_implicit_lambda% (pss_cons (no_implicit_lambda% (ps_set (i := 2) nd rfl (Or.inl rfl) (no_implicit_lambda% (pe_lst pa_nil))))
        (no_implicit_lambda% (pss_cons (no_implicit_lambda% (ps_set (i := 3) nd rfl (Or.inl rfl) (no_implicit_lambda% (pe_dget (hu_of hr) (no_implicit_lambda% (pv 0)) (no_implicit_lambda% (pv 1)) (fun _ _ => rfl)))))
        (no_implicit_lambda% (pss_cons (no_implicit_lambda% (ps_whileJ PassesOwn.never (no_implicit_lambda% (pt_cmpR op_notN (no_implicit_lambda% (pv 3)) pe_non (nomark _))) (no_implicit_lambda% (pss_cons (no_implicit_lambda% (ps_expr (no_implicit_lambda% (pe_bmK K PySem.F.plainAttrs_list PySem.F.slot_list_append PySem.F.type_list_append mt_append (no_implicit_lambda% (pv 2)) (no_implicit_lambda% (pa_cons (no_implicit_lambda% (pe_ix (ix_tupK K) (no_implicit_lambda% (pv 3)) pe_int (fun _ _ => rfl))) pa_nil))))))
        (no_implicit_lambda% (pss_one (no_implicit_lambda% (ps_set (i := 3) nd rfl (Or.inl rfl) (no_implicit_lambda% (pe_dget (hu_of hr) (no_implicit_lambda% (pv 0)) (no_implicit_lambda% (pe_ix (ix_tupK K) (no_implicit_lambda% (pv 3)) pe_int (fun _ _ => rfl))) (fun _ _ => rfl)))))))))))
        (no_implicit_lambda% (pss_one (no_implicit_lambda% (ps_ret (no_implicit_lambda% (pe_lrev K rfl rfl T.list_ rfl T.reversed_ (no_implicit_lambda% (pv 2)))))))))))))), ?_⟩
    walk_at "rd"
    refine ⟨small_line (by simp), rd_new fun l H1 e1 hl hln => ?_⟩
    walk_at "rd"
    obtain ⟨v0, hv0, _, hp0⟩ := kv_yes (fun _ _ z => z.1) pk qi.nd he
    refine ⟨f, v0, rfl, by rw [← hv0]; exact DGet.t (e1 _ _ hf) (k := plK e.1) (e1 _ _ hg), ?_⟩
    walk_at "rd"
    refine rd_while (wbW H f ga l q nx e) (fun σ H' => ∃ v ks, σ = [some (.ref f), some (.ref ga), some (.ref l), some v] ∧ Ext H H' ∧ H' l = some (.lst (intsN ks)) ∧ ks.length = e.2.1 ∧ Bfs.gone (nx := nx) s ks.reverse = some e.1) e.2.1 ⟨v0, e, [], rfl, e1, hl, he, hp0.ext e1, rfl, by simp, rfl⟩ ?_ ?_
    · rintro M σ H4 ⟨v, u, ks, rfl, e4, hl4, hu, hvp, hM, hks, hgo⟩
      walk_at "rd"
      rcases qi.par u hu with ⟨p1, p2, p3⟩ | ⟨p, k, d, o, p1, p2, p3, p4⟩
      · rw [p1] at hvp
        obtain rfl : v = .non := hvp
        refine ⟨rfl, ?_⟩
        refine rd_exb (iteF ?_)
        exact ⟨_, ks, rfl, e4, hl4, by omega, by rw [← p2]; exact hgo⟩
      · rw [p1] at hvp
        obtain ⟨a, b, rfl, ha, hb⟩ := hvp
        refine ⟨rfl, ?_⟩
        rw [decide_eq_false (show ¬ (V.ref a = V.non) by intro z; cases z)]
        refine rd_exb (iteT ?_)
        refine ⟨fun σ' H' => ∃ m', m' < M ∧ wbW H f ga l q nx e m' σ' H', fun _ _ h => h, ?_⟩
        walk_at "rd"
        refine ⟨rd_tyL (SqL.of hl4), ?_⟩
        walk_at "rd"
        refine rd_ixT (SqT.of ha) (v := .int (k : Int)) rfl ?_
        walk_at "rd"
        refine rd_append hl4 (line17 (by rw [List.length_map]; omega)) ?_
        walk_at "rd"
        have nl : ∀ xs, (HO.lst (intsN ks)) ≠ .tup xs := fun xs z => by cases z
        have ha5 : upd H4 l (.lst (intsN ks ++ [.int (k : Int)])) a = some (.tup [.ref b, .int (k : Int)]) := by
          rw [upd_ne (ne_of ha hl4 (by intro z; cases z))]; exact ha
        have hb5 := PlAt.put (o' := .lst (intsN ks ++ [.int (k : Int)])) hl4 nl hb
        refine rd_ixT (SqT.of ha5) (v := .ref b) rfl ?_
        obtain ⟨v1, hv1, _, hp1⟩ := kv_yes (fun _ _ z => z.1) pk qi.nd p4
        have hf5 : upd H4 l (.lst (intsN ks ++ [.int (k : Int)])) f = some (.dT kvs) := by
          rw [upd_ne (ne_of (e4 _ _ hf) hl4 (by intro z; cases z))]; exact e4 _ _ hf
        have eH : Ext H (upd H4 l (.lst (intsN ks ++ [.int (k : Int)]))) := ext_write e4 hln
        refine ⟨f, v1, rfl, by rw [← hv1]; exact DGet.t hf5 (k := plK p) hb5, ?_⟩
        walk_at "rd"
        refine ⟨d, by omega, v1, (p, d, o), ks ++ [k], rfl, eH, by rw [upd_same, intsN_snoc], p4, hp1.ext eH, rfl, by rw [List.length_append]; simp; omega, ?_⟩
        rw [List.reverse_append]
        show (nx p k).bind _ = _
        rw [p2]
        exact hgo
    · rintro σ H4 ⟨v, ks, rfl, e4, hl4, hks, hgo⟩
      walk_at "rd"
      refine rd_revLL (SqL.of hl4) (rd_new fun r H5 e5 hr hrn => ?_)
      refine qq r H5 ks.reverse (e4.trans e5) ?_ (e4.none hrn) (by rw [List.length_reverse]; exact hks) hgo
      rw [hr, ← List.map_reverse]
noncomputable def sp_sought_walk (K : PySem.W.Frag) : Sp := fun vs H Q _ => ∃ v m ws pa ga x g, vs = [v, .ref pa, .ref ga] ∧ HouseAt H v m ws ∧ HOuse m ws ∧ PlAt H pa x ∧ PlAt H ga g ∧ inH m x ∧ inH m g ∧
  ((∀ n, ¬ Bfs.Dist (nxt ws (topOf m x g)) x n g) → ∀ H', Ext H H' → Q .non H') ∧ ∀ n l H' ks, Bfs.Dist (nxt ws (topOf m x g)) x n g → n ≤ 24012 → Ext H H' → H l = none → H' l = some (.lst (intsN ks)) → ks.length = n → Bfs.gone (nx := nxt ws (topOf m x g)) x ks = some g → Q (.ref l) H'
noncomputable abbrev s_sought_walk : Stmt := top 35
theorem sc_sought_walk : FnScope ["house", "place", "goal", "found"] ["house", "place", "goal"] (defScope s_sought_walk) := ⟨rfl, rfl, rfl, by decide +kernel, rfl, by decide +kernel, by decide +kernel⟩
theorem ok_sought_walk {P : Program} {w : World} {K : PySem.W.Frag} {mg : Str → Option Value} {base : Heap} (D : Dfn K mg "sought_walk" s_sought_walk ["house", "place", "goal"]) (T : Blt mg) (C_walk_back : Cal P w K mg base "walk_back" 1 ["found", "goal"] (sp_walk_back K)) (C_found_from : Cal P w K mg base "found_from" 3 ["house", "place", "goal"] (sp_found_from K)) : Cal P w K mg base "sought_walk" 4 ["house", "place", "goal"] (sp_sought_walk K) := by
  have nd := (sc_sought_walk).nd
  refine D.ok sc_sought_walk (fun vs H Q E h => ?_) (fun X hX H vs Q E h => ?_)
  · obtain ⟨v, m, ws, pa, ga, x, g, rfl, _⟩ := h; rfl
  · obtain ⟨f, cdv, A, outer, s, H0, E0, rfl, hr⟩ := hX
    obtain ⟨v, m, ws, pa, ga, x, g, rfl, hv, ok, hx, hg, ix, ig, qn, qy⟩ := h
    refine ⟨_, (no_implicit_lambda% (pss_cons (no_implicit_lambda% (ps_set (i := 3) nd rfl (Or.inl rfl) (no_implicit_lambda% (pe_cal C_found_from hr (no_implicit_lambda% (pa_cons (no_implicit_lambda% (pv 0)) (no_implicit_lambda% (pa_cons (no_implicit_lambda% (pv 1)) (no_implicit_lambda% (pa_cons (no_implicit_lambda% (pv 2)) pa_nil))))))))))
        (no_implicit_lambda% (pss_cons (no_implicit_lambda% (ps_if (no_implicit_lambda% (pt_cmp (pc_dnotin (hu_of hr) (no_implicit_lambda% (pv 2)) (no_implicit_lambda% (pv 3))) (by with_unfolding_all rfl))) (no_implicit_lambda% (pss_one (no_implicit_lambda% (ps_ret pe_non)))) pss_nil))
        (no_implicit_lambda% (pss_one (no_implicit_lambda% (ps_ret (no_implicit_lambda% (pe_cal C_walk_back hr (no_implicit_lambda% (pa_cons (no_implicit_lambda% (pv 3)) (no_implicit_lambda% (pa_cons (no_implicit_lambda% (pv 2)) pa_nil)))))))))))))), ?_⟩
    walk_at "rd"
    refine ⟨v, m, ws, pa, ga, x, g, rfl, hv, ok, hx, hg, ix, ig, fun f H1 kvs q i B e1 hf pk qi hql hend => ?_⟩
    generalize topOf m x g = T at qn qy qi
    walk_at "rd"
    refine ⟨f, _, rfl, DGet.t hf (k := plK g) (e1 _ _ hg), ?_⟩
    by_cases hgk : g ∈ q.map (·.1)
    · obtain ⟨e, he, rfl⟩ := List.mem_map.mp hgk
      obtain ⟨v1, hv1, _⟩ := kv_yes (fun _ _ z => z.1) pk qi.nd he
      rw [hv1]
      refine rd_exb (iteF ?_)
      walk_at "rd"
      have hd := qi.dist he
      have hlv : e.2.1 ≤ 24012 := Nat.le_trans (qi.deep he) hql
      refine ⟨f, ga, kvs, q, nxt ws T, x, i, B, e, rfl, hf, pk, qi, e1 _ _ hg, he, hlv, fun l H2 ks e2 hl hln hks hgo => ?_⟩
      exact qy _ l H2 ks hd hlv (e1.trans e2) (e1.none hln) hl hks hgo
    · rw [kv_no (fun _ _ z => z.1) pk hgk]
      refine rd_exb (iteT ?_)
      walk_at "rd"
      refine qn (fun n => ?_) H1 e1
      rcases hend with h | h
      · subst h
        exact qi.done hgk n
      · exact absurd h hgk
noncomputable def sp_shortest (K : PySem.W.Frag) : Sp := fun vs H Q _ => ∃ v m ws pa ga x g, vs = [v, .ref pa, .ref ga] ∧ HouseAt H v m ws ∧ HOuse m ws ∧ PlAt H pa x ∧ PlAt H ga g ∧ inH m x ∧ inH m g ∧
  ((∀ n, ¬ Bfs.Dist (nxt ws (topOf m x g)) x n g) → ∀ H', Ext H H' → Q .non H') ∧ ∀ n l H' ks, Bfs.Dist (nxt ws (topOf m x g)) x n g → n ≤ 24012 → Ext H H' → H l = none → H' l = some (.lst (intsN ks)) → ks.length = n → Bfs.gone (nx := nxt ws (topOf m x g)) x ks = some g → Q (.ref l) H'
noncomputable abbrev s_shortest : Stmt := top 36
theorem sc_shortest : FnScope ["house", "place", "goal"] ["house", "place", "goal"] (defScope s_shortest) := ⟨rfl, rfl, rfl, by decide +kernel, rfl, by decide +kernel, by decide +kernel⟩
theorem ok_shortest {P : Program} {w : World} {K : PySem.W.Frag} {mg : Str → Option Value} {base : Heap} (D : Dfn K mg "shortest" s_shortest ["house", "place", "goal"]) (T : Blt mg) (C_sought_walk : Cal P w K mg base "sought_walk" 4 ["house", "place", "goal"] (sp_sought_walk K)) (C_refuse_bad_places : Cal P w K mg base "refuse_bad_places" 3 ["house", "places"] (sp_refuse_bad_places K)) (C_refuse_no_house : Cal P w K mg base "refuse_no_house" 6 ["thing"] (sp_refuse_no_house K)) : Cal P w K mg base "shortest" 7 ["house", "place", "goal"] (sp_shortest K) := by
  have nd := (sc_shortest).nd
  refine D.ok sc_shortest (fun vs H Q E h => ?_) (fun X hX H vs Q E h => ?_)
  · obtain ⟨v, m, ws, pa, ga, x, g, rfl, _⟩ := h; rfl
  · obtain ⟨f, cdv, A, outer, s, H0, E0, rfl, hr⟩ := hX
    obtain ⟨v, m, ws, pa, ga, x, g, rfl, hv, ok, hx, hg, ix, ig, qn, qy⟩ := h
    refine ⟨_, (no_implicit_lambda% (pss_cons (no_implicit_lambda% (ps_expr (no_implicit_lambda% (pe_cal C_refuse_no_house hr (no_implicit_lambda% (pa_cons (no_implicit_lambda% (pv 0)) pa_nil))))))
        (no_implicit_lambda% (pss_cons (no_implicit_lambda% (ps_expr (no_implicit_lambda% (pe_cal C_refuse_bad_places hr (no_implicit_lambda% (pa_cons (no_implicit_lambda% (pv 0)) (no_implicit_lambda% (pa_cons (no_implicit_lambda% (pe_lst (no_implicit_lambda% (pa_cons (no_implicit_lambda% (pv 1)) (no_implicit_lambda% (pa_cons (no_implicit_lambda% (pv 2)) pa_nil)))))) pa_nil))))))))
        (no_implicit_lambda% (pss_one (no_implicit_lambda% (ps_ret (no_implicit_lambda% (pe_cal C_sought_walk hr (no_implicit_lambda% (pa_cons (no_implicit_lambda% (pv 0)) (no_implicit_lambda% (pa_cons (no_implicit_lambda% (pv 1)) (no_implicit_lambda% (pa_cons (no_implicit_lambda% (pv 2)) pa_nil)))))))))))))))), ?_⟩
    walk_at "rd"
    refine ⟨v, m, ws, rfl, hv, ok, fun H1 e1 => ?_⟩
    walk_at "rd"
    refine ⟨small_line (by simp), rd_new fun l H2 e2 hl _ => ?_⟩
    walk_at "rd"
    have e12 := e1.trans e2
    obtain ⟨hh, t, rfl, g1, g2⟩ := hv.ext e12
    refine ⟨hh, _, m, l, [pa, ga], [x, g], rfl, g1, hl, .cons (e12 _ _ hx) (.cons (e12 _ _ hg) .nil), ?_, ?_⟩
    · intro y hy
      rcases List.mem_cons.mp hy with rfl | hy
      · exact ix
      · rw [List.mem_singleton] at hy
        subst hy
        exact ig
    walk_at "rd"
    exact ⟨_, m, ws, pa, ga, x, g, rfl, ⟨hh, t, rfl, g1, g2⟩, ok, e12 _ _ hx, e12 _ _ hg, ix, ig, fun h H' e => qn h H' (e12.trans e), fun n l H' ks hd hn e hln hl hks hgo => qy n l H' ks hd hn (e12.trans e) (e12.none hln) hl hks hgo⟩
end My
set_option Elab.async false
set_option linter.all false
set_option maxRecDepth 100000
namespace My
open PySem L2 St
set_option maxHeartbeats 4000000
local macro_rules | `(tactic| walk_at "cond") => `(tactic| first | decide | omega | (dsimp only; omega) | (unfold CMul; omega) | (unfold CPow; exact ⟨by decide, by decide, by decide⟩) | (dsimp only; exact ⟨by omega, by omega⟩) | exact .inr ⟨by decide, by decide⟩ | exact .inl ⟨by decide, by decide⟩ | (unfold SmallR; omega))
local macro_rules | `(tactic| walk_at "sq") => `(tactic| first | assumption | exact SqL.of (by assumption) | exact SqT.of (by assumption) | exact SqL.of (by solve_by_elim) | exact SqT.of (by solve_by_elim) | solve_by_elim)
local macro_rules | `(tactic| walk_at "rd") => `(tactic| repeat (first | with_reducible refine rd_seq ?_ | with_reducible refine rd_ret ?_ | with_reducible refine rd_retN ?_ | with_reducible refine rd_asg ?_ | with_reducible refine rd_drop ?_ | with_reducible refine rd_ifS ?_ | with_reducible refine rd_next ?_ | with_reducible refine rd_name ?_ | ((with_reducible apply rd_var); (exact rfl)) | with_reducible refine rd_c ?_ | with_reducible refine rd_op ?_ | with_reducible refine rd_un ?_ | with_reducible refine rd_CB ?_ | with_reducible refine rd_cons ?_ | with_reducible refine rd_nil ?_ | with_reducible refine rd_ints ?_ | with_reducible refine rd_test ?_ | with_reducible refine rd_B ?_ | with_reducible refine rd_exb ?_ | with_reducible refine rd_not ?_ | with_reducible refine rd_and ?_ | with_reducible refine rd_or ?_ | with_reducible refine rd_andV ?_ | with_reducible refine rd_orV ?_ | with_reducible refine rd_notV ?_ | with_reducible refine rd_ifE ?_ | with_reducible refine rd_yes ?_ | with_reducible refine rd_I0 ?_ | ((with_reducible apply rd_I); (walk_at "cond")) | with_reducible refine rd_U ?_ | with_reducible refine rd_EqI ?_ | with_reducible refine rd_NeI ?_ | with_reducible refine rd_EqB ?_ | with_reducible refine rd_NeB ?_ | with_reducible refine rd_call ?_ | with_reducible refine rd_BM ?_ | with_reducible refine rd_tup ?_ | with_reducible refine rd_lst ?_ | with_reducible refine rd_sl ?_ | with_reducible refine rd_noPart ?_ | with_reducible refine rd_part ?_ | with_reducible refine rd_exi ?_ | with_reducible refine rd_chain ?_ | with_reducible refine rd_comp ?_ | with_reducible refine rd_iL ?_ | with_reducible refine rd_iT ?_ | with_reducible refine rd_i1 ?_ | with_reducible refine rd_i2 ?_ | with_reducible refine rd_i3 ?_ | with_reducible refine rd_for ?_ | with_reducible refine rd_tTru ?_ | with_reducible refine rd_intB ?_ | with_reducible refine rd_max2 ?_ | with_reducible refine rd_min2 ?_ | with_reducible refine rd_sub ?_ | with_reducible refine rd_gcons ?_ | with_reducible refine rd_gnil ?_ | ((with_reducible apply rd_aug); (exact rfl)) | with_reducible refine rd_ipI ?_ | with_reducible refine rd_zip ?_ | with_reducible refine rd_rev ?_ | with_reducible refine rd_par ?_ | with_reducible refine rd_par2 ?_ | with_reducible refine rd_lam ?_ | with_reducible refine rd_calV ?_ | with_reducible refine rd_raise ?_ | with_reducible refine rd_fs ?_ | with_reducible refine rd_try ?_ | with_reducible refine rd_bseq ?_ | with_reducible refine rd_bnext ?_ | with_reducible refine rd_bplain ?_ | with_reducible refine rd_bif ?_ | with_reducible refine rd_bcall ?_ | with_reducible refine rd_enum ?_ | with_reducible refine rd_gget ?_ | with_reducible refine rd_gin ?_ | with_reducible refine rd_revL ?_ | with_reducible refine rd_leS ?_ | with_reducible refine rd_disp ?_ | with_reducible refine rd_dget ?_ | with_reducible refine rd_lrev ?_ | with_reducible refine rd_disp1 ?_ | with_reducible refine rd_din ?_ | with_reducible refine rd_dnin ?_ | with_reducible refine rd_dput ?_ | with_reducible refine rd_min3 ?_ | dsimp only))
noncomputable def sp__law_whole (K : PySem.W.Frag) : Sp := fun vs H Q _ => ∃ i : Int, vs = [.int i] ∧ Q (.bl true) H
noncomputable abbrev s__law_whole : Stmt := top 38
theorem sc__law_whole : FnScope ["_law_found"] ["_law_found"] (defScope s__law_whole) := ⟨rfl, rfl, rfl, by decide +kernel, rfl, by decide +kernel, by decide +kernel⟩
theorem ok__law_whole {P : Program} {w : World} {K : PySem.W.Frag} {mg : Str → Option Value} {base : Heap} (D : Dfn K mg "_law_whole" s__law_whole ["_law_found"]) (T : Blt mg) : Cal P w K mg base "_law_whole" 1 ["_law_found"] (sp__law_whole K) := by
  have nd := (sc__law_whole).nd
  refine D.ok sc__law_whole (fun vs H Q E h => ?_) (fun X hX H vs Q E h => ?_)
  · obtain ⟨i, rfl, _⟩ := h; rfl
  · obtain ⟨f, cdv, A, outer, s, H0, E0, rfl, hr⟩ := hX
    obtain ⟨i, rfl, q⟩ := h
    refine ⟨_, (no_implicit_lambda% (pss_one (no_implicit_lambda% (ps_ret (no_implicit_lambda% (pe_and (no_implicit_lambda% (pe_callB call_isi rfl T.isinstance_ PyProof.Rows.boot_isinstance (no_implicit_lambda% (pa_cons (no_implicit_lambda% (pv 0)) (no_implicit_lambda% (pa_cons (no_implicit_lambda% (pe_bltn (v := .ty "int") rfl T.int_ PyProof.Rows.boot_int rfl)) pa_nil)))))) (pe_one (no_implicit_lambda% (pe_not (no_implicit_lambda% (pe_callB call_isi rfl T.isinstance_ PyProof.Rows.boot_isinstance (no_implicit_lambda% (pa_cons (no_implicit_lambda% (pv 0)) (no_implicit_lambda% (pa_cons (no_implicit_lambda% (pe_bltn (v := .ty "bool") rfl T.bool_ PyProof.Rows.boot_bool rfl)) pa_nil))))))))))))))), ?_⟩
    walk_at "rd"
    refine rd_isi (n := "int") rfl (b := true) rfl ?_
    walk_at "rd"
    refine iteT ?_
    walk_at "rd"
    refine rd_isi (n := "int") rfl (b := false) rfl ?_
    walk_at "rd"
    exact q
theorem kind_lst {H : Hp} {p : Addr} {xs : List V} (h : H p = some (.lst xs)) : kindV H (.ref p) "list" := .inl ⟨rfl, xs, h⟩
noncomputable def sp__law_walk (K : PySem.W.Frag) : Sp := fun vs H Q _ => ∃ l n ks, vs = [.ref l, .int n] ∧ H l = some (.lst (intsN ks)) ∧ (ks.length : Int) ≤ n ∧ ks.length ≤ 24012 ∧ ∀ H', Ext H H' → Q (.bl true) H'
noncomputable abbrev s__law_walk : Stmt := top 39
theorem sc__law_walk : FnScope ["_law_found", "_law_most"] ["_law_found", "_law_most"] (defScope s__law_walk) := ⟨rfl, rfl, rfl, by decide +kernel, rfl, by decide +kernel, by decide +kernel⟩
theorem ok__law_walk {P : Program} {w : World} {K : PySem.W.Frag} {mg : Str → Option Value} {base : Heap} (D : Dfn K mg "_law_walk" s__law_walk ["_law_found", "_law_most"]) (T : Blt mg) (C__law_whole : Cal P w K mg base "_law_whole" 1 ["_law_found"] (sp__law_whole K)) : Cal P w K mg base "_law_walk" 2 ["_law_found", "_law_most"] (sp__law_walk K) := by
  have nd := (sc__law_walk).nd
  refine D.ok sc__law_walk (fun vs H Q E h => ?_) (fun X hX H vs Q E h => ?_)
  · obtain ⟨l, n, ks, rfl, _⟩ := h; rfl
  · obtain ⟨f, cdv, A, outer, s, H0, E0, rfl, hr⟩ := hX
    obtain ⟨l, n, ks, rfl, hl, hn, hs, q⟩ := h
    refine ⟨_, (no_implicit_lambda% (pss_cons (no_implicit_lambda% (ps_if (no_implicit_lambda% (PW.pt (pw_or (no_implicit_lambda% (pt_not (no_implicit_lambda% (pt_val (no_implicit_lambda% (pe_callB call_isi rfl T.isinstance_ PyProof.Rows.boot_isinstance (no_implicit_lambda% (pa_cons (no_implicit_lambda% (pv 0)) (no_implicit_lambda% (pa_cons (no_implicit_lambda% (pe_bltn (v := .ty "list") rfl T.list_ PyProof.Rows.boot_list rfl)) pa_nil)))))))))) (pw_or1 (no_implicit_lambda% (pt_cmpR op_gt (no_implicit_lambda% (pe_callB (call_lenK K) rfl T.len_ PySem.boot_len (no_implicit_lambda% (pa_cons (no_implicit_lambda% (pv 0)) pa_nil)))) (no_implicit_lambda% (pv 1)) (nomark _))))))) (no_implicit_lambda% (pss_one (no_implicit_lambda% (ps_ret pe_bl)))) pss_nil))
        (no_implicit_lambda% (pss_one (no_implicit_lambda% (ps_ret (no_implicit_lambda% (pe_callB (call_allL K rfl) rfl T.all_ PyProof.Rows.boot_all (no_implicit_lambda% (pa_cons (no_implicit_lambda% (pe_comp ["_law_part"] [] (no_implicit_lambda% (pi_listK K (no_implicit_lambda% (pv 0)))) (fun _ => (no_implicit_lambda% (pg_name (i := 0) (show (["_law_part"] : List Str).Nodup from by decide +kernel) rfl (Or.inl rfl) (Or.inr rfl)))) (fun _ => pcs_nil) (fun _ => (no_implicit_lambda% (pe_cal C__law_whole hr (no_implicit_lambda% (pa_cons (no_implicit_lambda% (pv 0)) pa_nil))))))) pa_nil)))))))))), ?_⟩
    walk_at "rd"
    refine rd_isi (kind_lst hl) (b := true) rfl ?_
    walk_at "rd"
    refine iteF ?_
    walk_at "rd"
    refine rd_lenL (SqL.of hl) ?_
    walk_at "rd"
    rw [decide_eq_false (show ¬ n < ((intsN ks).length : Nat) by rw [List.length_map]; omega)]
    refine iteF ?_
    walk_at "rd"
    refine rd_iLx (SqL.of hl) ?_
    refine comp_list (xs := intsN ks) (fun i ys H' => Ext H H' ∧ ys = (List.replicate i true).map V.bl) (Nat.le_of_lt (line17 (by rw [List.length_map]; omega))) ⟨Ext.rfl' _, rfl⟩ (fun i ys H' hi h => ⟨SqL.of (h.1 _ _ hl), by rw [h.2]; simp⟩) ?_ ?_
    · rintro i x ys H' hx ⟨e, rfl⟩
      rw [List.getElem?_map] at hx
      obtain ⟨k, hk, rfl⟩ := Option.map_eq_some_iff.mp hx
      walk_at "rd"
      refine iteT ?_
      walk_at "rd"
      refine ⟨_, rfl, e, ?_⟩
      rw [List.replicate_succ', List.map_append]
      rfl
    · rintro ys H' p ⟨e, rfl⟩ hp
      walk_at "rd"
      refine ⟨p, List.replicate (intsN ks).length true, rfl, SqL.of upd_same, ?_⟩
      rw [show (List.replicate (intsN ks).length true).all id = true by simp]
      exact q _ (e.trans (ext_upd hp))
theorem behL_mem {ws : List Way} {r n : Int} {t : Int × Int × Int} : ∀ {k : Nat}, t ∈ behL ws r n k → ∃ j w, j < k ∧ ws[j]? = some w ∧ w.room = r ∧ stp w.deed n = some t.2.2 ∧ t.1 = ((j : Nat) : Int) ∧ t.2.1 = w.other
  | 0, h => by cases h
  | k + 1, h => by
    rcases List.mem_append.mp h with z | z
    · obtain ⟨j, w, h1, h2⟩ := behL_mem z
      exact ⟨j, w, by omega, h2⟩
    · cases hw : ws[k]? with
      | none => rw [hw] at z; cases z
      | some w =>
        rw [hw] at z
        have z' : t ∈ bstep w r n k := z
        by_cases hr : w.room = r
        · cases hs : stp w.deed n with
          | none => rw [bstep_yes hr hs] at z'; cases z'
          | some n' =>
            rw [bstep_yes hr hs] at z'
            have : t = ((k : Int), w.other, n') := by simpa using z'
            subst this
            exact ⟨k, w, Nat.lt_succ_self _, hw, hr, hs, rfl, rfl⟩
        · rw [bstep_no hr] at z'; cases z'
theorem mem_behL {ws : List Way} {r n n' : Int} {w : Way} {j : Nat} (hw : ws[j]? = some w) (hr : w.room = r) (hs : stp w.deed n = some n') : ∀ {k : Nat}, j < k → ((j : Int), w.other, n') ∈ behL ws r n k
  | 0, h => absurd h (Nat.not_lt_zero _)
  | k + 1, h => by
    rcases Nat.lt_or_ge j k with l | l
    · exact List.mem_append_left _ (mem_behL hw hr hs l)
    · have : j = k := by omega
      subst this
      refine List.mem_append_right _ ?_
      rw [hw]
      show _ ∈ bstep w r n j
      rw [bstep_yes hr hs]
      simp
theorem nxt_beh {ws : List Way} {T : Int} {x y : Bfs.Pl} {k : Nat} (h : nxt ws T x k = some y) : ((k : Int), y.1, y.2) ∈ behL ws x.1 x.2 ws.length ∧ y.2 ≤ T := by
  obtain ⟨w, hw, hr, hs, ho, ht⟩ := nxt_of h
  rw [ho]
  exact ⟨mem_behL hw hr hs (List.getElem?_eq_some_iff.mp hw).1, ht⟩
theorem beh_one {ws : List Way} {T : Int} {x y : Bfs.Pl} {k : Nat} (h : nxt ws T x k = some y) {t : Int × Int × Int} (ht : t ∈ behL ws x.1 x.2 ws.length) (hk : t.1 = (k : Int)) : t.2.1 = y.1 ∧ t.2.2 = y.2 := by
  obtain ⟨w, hw, hr, hs, ho, _⟩ := nxt_of h
  obtain ⟨j, w', _, hw', hr', hs', h1, h2⟩ := behL_mem ht
  have : j = k := by omega
  subst this
  rw [hw] at hw'
  cases hw'
  exact ⟨h2.trans ho.symm, Option.some.inj (hs'.symm.trans hs)⟩
end My
set_option Elab.async false
set_option linter.all false
set_option maxRecDepth 100000
namespace My
open PySem L2 St
set_option maxHeartbeats 4000000
local macro_rules | `(tactic| walk_at "cond") => `(tactic| first | decide | omega | (dsimp only; omega) | (unfold CMul; omega) | (unfold CPow; exact ⟨by decide, by decide, by decide⟩) | (dsimp only; exact ⟨by omega, by omega⟩) | exact .inr ⟨by decide, by decide⟩ | exact .inl ⟨by decide, by decide⟩ | (unfold SmallR; omega))
local macro_rules | `(tactic| walk_at "sq") => `(tactic| first | assumption | exact SqL.of (by assumption) | exact SqT.of (by assumption) | exact SqL.of (by solve_by_elim) | exact SqT.of (by solve_by_elim) | solve_by_elim)
local macro_rules | `(tactic| walk_at "rd") => `(tactic| repeat (first | with_reducible refine rd_seq ?_ | with_reducible refine rd_ret ?_ | with_reducible refine rd_retN ?_ | with_reducible refine rd_asg ?_ | with_reducible refine rd_drop ?_ | with_reducible refine rd_ifS ?_ | with_reducible refine rd_next ?_ | with_reducible refine rd_name ?_ | ((with_reducible apply rd_var); (exact rfl)) | with_reducible refine rd_c ?_ | with_reducible refine rd_op ?_ | with_reducible refine rd_un ?_ | with_reducible refine rd_CB ?_ | with_reducible refine rd_cons ?_ | with_reducible refine rd_nil ?_ | with_reducible refine rd_ints ?_ | with_reducible refine rd_test ?_ | with_reducible refine rd_B ?_ | with_reducible refine rd_exb ?_ | with_reducible refine rd_not ?_ | with_reducible refine rd_and ?_ | with_reducible refine rd_or ?_ | with_reducible refine rd_andV ?_ | with_reducible refine rd_orV ?_ | with_reducible refine rd_notV ?_ | with_reducible refine rd_ifE ?_ | with_reducible refine rd_yes ?_ | with_reducible refine rd_I0 ?_ | ((with_reducible apply rd_I); (walk_at "cond")) | with_reducible refine rd_U ?_ | with_reducible refine rd_EqI ?_ | with_reducible refine rd_NeI ?_ | with_reducible refine rd_EqB ?_ | with_reducible refine rd_NeB ?_ | with_reducible refine rd_call ?_ | with_reducible refine rd_BM ?_ | with_reducible refine rd_tup ?_ | with_reducible refine rd_lst ?_ | with_reducible refine rd_sl ?_ | with_reducible refine rd_noPart ?_ | with_reducible refine rd_part ?_ | with_reducible refine rd_exi ?_ | with_reducible refine rd_chain ?_ | with_reducible refine rd_comp ?_ | with_reducible refine rd_iL ?_ | with_reducible refine rd_iT ?_ | with_reducible refine rd_i1 ?_ | with_reducible refine rd_i2 ?_ | with_reducible refine rd_i3 ?_ | with_reducible refine rd_for ?_ | with_reducible refine rd_tTru ?_ | with_reducible refine rd_intB ?_ | with_reducible refine rd_max2 ?_ | with_reducible refine rd_min2 ?_ | with_reducible refine rd_sub ?_ | with_reducible refine rd_gcons ?_ | with_reducible refine rd_gnil ?_ | ((with_reducible apply rd_aug); (exact rfl)) | with_reducible refine rd_ipI ?_ | with_reducible refine rd_zip ?_ | with_reducible refine rd_rev ?_ | with_reducible refine rd_par ?_ | with_reducible refine rd_par2 ?_ | with_reducible refine rd_lam ?_ | with_reducible refine rd_calV ?_ | with_reducible refine rd_raise ?_ | with_reducible refine rd_fs ?_ | with_reducible refine rd_try ?_ | with_reducible refine rd_bseq ?_ | with_reducible refine rd_bnext ?_ | with_reducible refine rd_bplain ?_ | with_reducible refine rd_bif ?_ | with_reducible refine rd_bcall ?_ | with_reducible refine rd_enum ?_ | with_reducible refine rd_gget ?_ | with_reducible refine rd_gin ?_ | with_reducible refine rd_revL ?_ | with_reducible refine rd_leS ?_ | with_reducible refine rd_disp ?_ | with_reducible refine rd_dget ?_ | with_reducible refine rd_lrev ?_ | with_reducible refine rd_disp1 ?_ | with_reducible refine rd_din ?_ | with_reducible refine rd_dnin ?_ | with_reducible refine rd_dput ?_ | with_reducible refine rd_min3 ?_ | dsimp only))
noncomputable def trail (nx : Bfs.Pl → Nat → Option Bfs.Pl) : Bfs.Pl → List Nat → List Bfs.Pl
  | x, [] => [x]
  | x, k :: r => x :: ((nx x k).map fun y => trail nx y r).getD []
theorem trail_snoc {nx : Bfs.Pl → Nat → Option Bfs.Pl} {y z : Bfs.Pl} {k : Nat} : ∀ {r : List Nat} {x : Bfs.Pl}, Bfs.gone (nx := nx) x r = some y → nx y k = some z → trail nx x (r ++ [k]) = trail nx x r ++ [z]
  | [], x, h, hk => by
    cases h
    show y :: ((nx y k).map fun y => trail nx y []).getD [] = _
    rw [hk]
    rfl
  | a :: r, x, h, hk => by
    have h' : (nx x a).bind (fun y => Bfs.gone (nx := nx) y r) = some y := h
    show x :: ((nx x a).map fun y => trail nx y (r ++ [k])).getD [] = (x :: ((nx x a).map fun y => trail nx y r).getD []) ++ [z]
    cases e : nx x a with
    | none => rw [e] at h'; cases h'
    | some u =>
      rw [e] at h'
      show x :: trail nx u (r ++ [k]) = (x :: trail nx u r) ++ [z]
      rw [trail_snoc h' hk]
      rfl
theorem trail_len {nx : Bfs.Pl → Nat → Option Bfs.Pl} {y : Bfs.Pl} : ∀ {r : List Nat} {x : Bfs.Pl}, Bfs.gone (nx := nx) x r = some y → (trail nx x r).length = r.length + 1
  | [], x, h => rfl
  | a :: r, x, h => by
    have h' : (nx x a).bind (fun y => Bfs.gone (nx := nx) y r) = some y := h
    show (x :: ((nx x a).map fun y => trail nx y r).getD []).length = _
    cases e : nx x a with
    | none => rw [e] at h'; cases h'
    | some u =>
      rw [e] at h'
      show (x :: trail nx u r).length = _
      rw [List.length_cons, trail_len h', List.length_cons]
structure Part (nx : Bfs.Pl → Nat → Option Bfs.Pl) (x g : Bfs.Pl) (ks : List Nat) (j : Nat) (y : Bfs.Pl) : Prop where
  lo : Bfs.gone (nx := nx) x (ks.take j) = some y
  hi : Bfs.gone (nx := nx) y (ks.drop j) = some g
theorem Part.next {nx : Bfs.Pl → Nat → Option Bfs.Pl} {x g y : Bfs.Pl} {ks : List Nat} {j k : Nat} (h : Part nx x g ks j y) (hk : ks[j]? = some k) : ∃ z, nx y k = some z ∧ Part nx x g ks (j + 1) z ∧ trail nx x (ks.take (j + 1)) = trail nx x (ks.take j) ++ [z] := by
  have hjl := (List.getElem?_eq_some_iff.mp hk).1
  have hdr : ks.drop j = k :: ks.drop (j + 1) := by
    rw [List.drop_eq_getElem_cons hjl]
    rw [List.getElem?_eq_getElem hjl] at hk
    cases hk
    rfl
  have hg := h.hi
  rw [hdr] at hg
  obtain ⟨z, hz, hg⟩ := Option.bind_eq_some_iff.mp (show (nx y k).bind _ = some g from hg)
  have htk : ks.take (j + 1) = ks.take j ++ [k] := by rw [List.take_succ, hk]; rfl
  refine ⟨z, hz, ⟨by rw [htk]; exact Bfs.gone_snoc h.lo hz, hg⟩, ?_⟩
  rw [htk]
  exact trail_snoc h.lo hz
noncomputable def sp_refuse_long_walk (K : PySem.W.Frag) : Sp := fun vs H Q _ => ∃ l xs, vs = [.ref l] ∧ H l = some (.lst xs) ∧ xs.length ≤ 20000 ∧ Q .non H
noncomputable abbrev s_refuse_long_walk : Stmt := top 27
theorem sc_refuse_long_walk : FnScope ["walk"] ["walk"] (defScope s_refuse_long_walk) := ⟨rfl, rfl, rfl, by decide +kernel, rfl, by decide +kernel, by decide +kernel⟩
theorem ok_refuse_long_walk {P : Program} {w : World} {K : PySem.W.Frag} {mg : Str → Option Value} {base : Heap} (D : Dfn K mg "refuse_long_walk" s_refuse_long_walk ["walk"]) (T : Blt mg) (g_LONGEST_WALK : ∃ t, mg "LONGEST_WALK" = some (.int 20000 t)) : Cal P w K mg base "refuse_long_walk" 1 ["walk"] (sp_refuse_long_walk K) := by
  have nd := (sc_refuse_long_walk).nd
  refine D.ok sc_refuse_long_walk (fun vs H Q E h => ?_) (fun X hX H vs Q E h => ?_)
  · obtain ⟨l, xs, rfl, _⟩ := h; rfl
  · obtain ⟨f, cdv, A, outer, s, H0, E0, rfl, hr⟩ := hX
    obtain ⟨t_LONGEST_WALK, c_LONGEST_WALK⟩ := g_LONGEST_WALK
    obtain ⟨l, xs, rfl, hl, hn, q⟩ := h
    refine ⟨_, (no_implicit_lambda% (pss_one (no_implicit_lambda% (ps_if (no_implicit_lambda% (pt_cmpR op_gt (no_implicit_lambda% (pe_callB (call_lenK K) rfl T.len_ PySem.boot_len (no_implicit_lambda% (pa_cons (no_implicit_lambda% (pv 0)) pa_nil)))) (no_implicit_lambda% (pe_glob (v := .int 20000) rfl c_LONGEST_WALK ⟨_, rfl⟩)) (nomark _))) (no_implicit_lambda% (pss_one ps_never)) pss_nil)))), ?_⟩
    walk_at "rd"
    refine rd_lenL (SqL.of hl) ?_
    walk_at "rd"
    rw [decide_eq_false (show ¬ (20000 : Int) < ((xs.length : Nat) : Int) by omega)]
    refine iteF ?_
    walk_at "rd"
    exact q
noncomputable def sp_can_go (K : PySem.W.Frag) : Sp := fun vs H Q _ => ∃ v m ws b x k w, vs = [v, .ref b, .int ((k : Nat) : Int)] ∧ HouseAt H v m ws ∧ PlAt H b x ∧ ws[k]? = some w ∧ Q (.bl (opn w x.1 x.2)) H
noncomputable abbrev s_can_go : Stmt := top 28
theorem sc_can_go : FnScope ["house", "place", "count"] ["house", "place", "count"] (defScope s_can_go) := ⟨rfl, rfl, rfl, by decide +kernel, rfl, by decide +kernel, by decide +kernel⟩
theorem ok_can_go {P : Program} {w : World} {K : PySem.W.Frag} {mg : Str → Option Value} {base : Heap} (D : Dfn K mg "can_go" s_can_go ["house", "place", "count"]) (T : Blt mg) (C_is_open : Cal P w K mg base "is_open" 1 ["way", "place"] (sp_is_open K)) : Cal P w K mg base "can_go" 2 ["house", "place", "count"] (sp_can_go K) := by
  have nd := (sc_can_go).nd
  refine D.ok sc_can_go (fun vs H Q E h => ?_) (fun X hX H vs Q E h => ?_)
  · obtain ⟨v, m, ws, b, x, k, w, rfl, _⟩ := h; rfl
  · obtain ⟨f, cdv, A, outer, s, H0, E0, rfl, hr⟩ := hX
    obtain ⟨v, m, ws, b, x, k, w, rfl, ⟨hh, t, rfl, g1, g2⟩, hb, hw, q⟩ := h
    obtain ⟨bs, g3, al⟩ := WaysAt.al g2
    have hkb : k < bs.length := by rw [al.1]; exact (List.getElem?_eq_some_iff.mp hw).1
    have hbk := List.getElem?_eq_getElem hkb
    generalize bs[k] = bk at hbk
    have hwt := al.2 k bk w hbk hw
    refine ⟨_, (no_implicit_lambda% (pss_one (no_implicit_lambda% (ps_ret (no_implicit_lambda% (pe_and (no_implicit_lambda% (pe_chain op_le op_lt pe_int (no_implicit_lambda% (pv 2)) (no_implicit_lambda% (pe_callB (call_lenK K) rfl T.len_ PySem.boot_len (no_implicit_lambda% (pa_cons (no_implicit_lambda% (pe_ix (ix_tupK K) (no_implicit_lambda% (pv 0)) pe_int (fun _ _ => rfl))) pa_nil)))))) (pe_one (no_implicit_lambda% (pe_cal C_is_open hr (no_implicit_lambda% (pa_cons (no_implicit_lambda% (pe_ix (ix_tupK K) (no_implicit_lambda% (pe_ix (ix_tupK K) (no_implicit_lambda% (pv 0)) pe_int (fun _ _ => rfl))) (no_implicit_lambda% (pv 2)) (fun _ _ => rfl))) (no_implicit_lambda% (pa_cons (no_implicit_lambda% (pv 1)) pa_nil))))))))))))), ?_⟩
    walk_at "rd"
    rw [decide_eq_true (show (0 : Int) ≤ ((k : Nat) : Int) by omega)]
    refine iteT ?_
    walk_at "rd"
    refine rd_ixT (SqT.of g1) (v := .ref t) rfl ?_
    walk_at "rd"
    refine rd_lenT (SqT.of g3) ?_
    walk_at "rd"
    rw [decide_eq_true (show ((k : Nat) : Int) < (((bs.map V.ref).length : Nat) : Int) by rw [List.length_map]; omega)]
    refine iteT ?_
    walk_at "rd"
    refine rd_ixT (SqT.of g1) (v := .ref t) rfl ?_
    walk_at "rd"
    refine rd_ixT (SqT.of g3) (v := .ref bk) (atI_nat (by rw [List.getElem?_map, hbk]; rfl)) ?_
    walk_at "rd"
    exact ⟨bk, w, b, x, rfl, hwt, hb, q⟩
noncomputable def sp_places_gone (K : PySem.W.Frag) : Sp := fun vs H Q _ => ∃ v m ws pa l U x g ks, vs = [v, .ref pa, .ref l] ∧ HouseAt H v m ws ∧ HOuse m ws ∧ PlAt H pa x ∧ H l = some (.lst (intsN ks)) ∧ ks.length ≤ 24012 ∧ Bfs.gone (nx := nxt ws U) x ks = some g ∧
  ∀ r H' as, Ext H H' → H' r = some (.lst (List.map V.ref as)) → Paired (PlAt H') as (trail (nxt ws U) x ks) → Q (.ref r) H'
noncomputable abbrev s_places_gone : Stmt := top 29
theorem sc_places_gone : FnScope ["house", "place", "walk", "places", "count"] ["house", "place", "walk"] (defScope s_places_gone) := ⟨rfl, rfl, rfl, by decide +kernel, rfl, by decide +kernel, by decide +kernel⟩
theorem ok_places_gone {P : Program} {w : World} {K : PySem.W.Frag} {mg : Str → Option Value} {base : Heap} (D : Dfn K mg "places_gone" s_places_gone ["house", "place", "walk"]) (T : Blt mg) (C_led_to : Cal P w K mg base "led_to" 2 ["way", "place"] (sp_led_to K)) (C_can_go : Cal P w K mg base "can_go" 2 ["house", "place", "count"] (sp_can_go K)) : Cal P w K mg base "places_gone" 3 ["house", "place", "walk"] (sp_places_gone K) := by
  have nd := (sc_places_gone).nd
  refine D.ok sc_places_gone (fun vs H Q E h => ?_) (fun X hX H vs Q E h => ?_)
  · obtain ⟨v, m, ws, pa, l, U, x, g, ks, rfl, _⟩ := h; rfl
  · obtain ⟨f, cdv, A, outer, s, H0, E0, rfl, hr⟩ := hX
    obtain ⟨v, m, ws, pa, l, U, x, g, ks, rfl, hv, ok, hx, hl, hks, hgo, q⟩ := h
    refine ⟨_, (no_implicit_lambda% (pss_cons (no_implicit_lambda% (ps_set (i := 3) nd rfl (Or.inl rfl) (no_implicit_lambda% (pe_lst (no_implicit_lambda% (pa_cons (no_implicit_lambda% (pv 1)) pa_nil))))))
        (no_implicit_lambda% (pss_cons (no_implicit_lambda% (ps_for PassesOwn.never rfl (no_implicit_lambda% (pi_listK K (no_implicit_lambda% (pv 2)))) (no_implicit_lambda% (pg_name (i := 4) nd rfl (Or.inl rfl))) (no_implicit_lambda% (pss_cons (no_implicit_lambda% (ps_if (no_implicit_lambda% (pt_not (no_implicit_lambda% (pt_val (no_implicit_lambda% (pe_cal C_can_go hr (no_implicit_lambda% (pa_cons (no_implicit_lambda% (pv 0)) (no_implicit_lambda% (pa_cons (no_implicit_lambda% (pe_ix (ix_listK K) (no_implicit_lambda% (pv 3)) (no_implicit_lambda% (pe_un un_neg pe_int)) (fun _ _ => rfl))) (no_implicit_lambda% (pa_cons (no_implicit_lambda% (pv 4)) pa_nil)))))))))))) (no_implicit_lambda% (pss_one (no_implicit_lambda% (ps_ret (no_implicit_lambda% (pv 3)))))) pss_nil))
        (no_implicit_lambda% (pss_one (no_implicit_lambda% (ps_expr (no_implicit_lambda% (pe_bmK K PySem.F.plainAttrs_list PySem.F.slot_list_append PySem.F.type_list_append mt_append (no_implicit_lambda% (pv 3)) (no_implicit_lambda% (pa_cons (no_implicit_lambda% (pe_cal C_led_to hr (no_implicit_lambda% (pa_cons (no_implicit_lambda% (pe_ix (ix_tupK K) (no_implicit_lambda% (pe_ix (ix_tupK K) (no_implicit_lambda% (pv 0)) pe_int (fun _ _ => rfl))) (no_implicit_lambda% (pv 4)) (fun _ _ => rfl))) (no_implicit_lambda% (pa_cons (no_implicit_lambda% (pe_ix (ix_listK K) (no_implicit_lambda% (pv 3)) (no_implicit_lambda% (pe_un un_neg pe_int)) (fun _ _ => rfl))) pa_nil)))))) pa_nil))))))))))))
        (no_implicit_lambda% (pss_one (no_implicit_lambda% (ps_ret (no_implicit_lambda% (pv 3)))))))))), ?_⟩
    walk_at "rd"
    refine ⟨small_line (by simp), rd_new fun f H1 e1 hf hfn => ?_⟩
    walk_at "rd"
    refine rd_iLx (SqL.of (e1 _ _ hl)) ?_
    refine forL (xs := intsN ks) (fun j σ H' => ∃ k1 y as a, σ = [some v, some (.ref pa), some (.ref l), some (.ref f), k1] ∧ Ext H H' ∧ H' f = some (.lst (List.map V.ref (as ++ [a]))) ∧ Paired (PlAt H') (as ++ [a]) (trail (nxt ws U) x (ks.take j)) ∧ PlAt H' a y ∧ Part (nxt ws U) x g ks j y) ⟨none, x, [], pa, rfl, e1, (show H1 f = some (.lst (List.map V.ref ([] ++ [pa]))) from hf), (show Paired (PlAt H1) [pa] [x] from .cons (show PlAt H1 pa x from e1 _ _ hx) .nil), e1 _ _ hx, rfl, hgo⟩ (fun j σ H' _ h => by obtain ⟨_, _, _, _, _, e, _⟩ := h; exact SqL.of (e _ _ hl)) ?_ ?_
    · rintro j u σ H2 hu ⟨k1, y, as, a, rfl, e2, hf2, hpa, ha, hpt⟩
      rw [List.getElem?_map] at hu
      obtain ⟨k, hk, rfl⟩ := Option.map_eq_some_iff.mp hu
      have hjl := (List.getElem?_eq_some_iff.mp hk).1
      have hal := Paired.length hpa
      rw [trail_len hpt.lo, List.length_take] at hal
      obtain ⟨z, hz, hpt', htr⟩ := hpt.next hk
      obtain ⟨w, hw, _⟩ := nxt_of hz
      have okw := ok.ok w (List.mem_of_getElem? hw)
      obtain ⟨ho, hzz, _⟩ := nxt_opn hw okw.dd hz
      obtain ⟨hh, t, rfl, g1, g2⟩ := hv.ext e2
      obtain ⟨bs, g3, al⟩ := WaysAt.al g2
      have hkb : k < bs.length := by rw [al.1]; exact (List.getElem?_eq_some_iff.mp hw).1
      have hbk := List.getElem?_eq_getElem hkb
      generalize bs[k] = bk at hbk
      have hwt := al.2 k bk w hbk hw
      walk_at "rd"
      refine rd_ixL (SqL.of hf2) (v := .ref a) (by rw [List.map_append]; exact atI_last _ _) ?_
      walk_at "rd"
      refine ⟨_, m, ws, a, y, k, w, rfl, ⟨hh, t, rfl, g1, g2⟩, ha, hw, ?_⟩
      rw [ho]
      refine rd_exb (iteF ?_)
      walk_at "rd"
      refine ⟨rd_tyL (SqL.of hf2), ?_⟩
      walk_at "rd"
      refine rd_ixT (SqT.of g1) (v := .ref t) rfl ?_
      walk_at "rd"
      refine rd_ixT (SqT.of g3) (v := .ref bk) (atI_nat (by rw [List.getElem?_map, hbk]; rfl)) ?_
      walk_at "rd"
      refine rd_ixL (SqL.of hf2) (v := .ref a) (by rw [List.map_append]; exact atI_last _ _) ?_
      walk_at "rd"
      refine ⟨bk, w, a, y, rfl, hwt, okw.dd, ha, fun th H3 e3 hth hthn => ?_⟩
      rw [← hzz] at hth
      have hf3 := e3 _ _ hf2
      walk_at "rd"
      refine rd_append hf3 (line17 (by rw [List.length_map, hal]; omega)) ?_
      walk_at "rd"
      have nl : ∀ xs, (HO.lst (List.map V.ref (as ++ [a]))) ≠ .tup xs := fun xs z => by cases z
      refine ⟨_, z, as ++ [a], th, rfl, ext_write (e2.trans e3) hfn, by rw [upd_same, List.map_append (l₁ := as ++ [a])]; rfl, ?_, PlAt.put hf3 nl hth, hpt'⟩
      rw [htr]
      exact Paired.snoc (Paired.mapP hpa fun _ _ w => PlAt.put hf3 nl (e3 _ _ w)) (PlAt.put hf3 nl hth)
    · rintro σ H2 ⟨k1, y, as, a, rfl, e2, hf2, hpa, ha, hpt⟩
      rw [List.length_map, List.take_length] at hpa
      walk_at "rd"
      exact q f H2 (as ++ [a]) e2 hf2 hpa
noncomputable def sp_walked (K : PySem.W.Frag) : Sp := fun vs H Q _ => ∃ v m ws pa l U x g ks, vs = [v, .ref pa, .ref l] ∧ HouseAt H v m ws ∧ HOuse m ws ∧ PlAt H pa x ∧ inH m x ∧ H l = some (.lst (intsN ks)) ∧ ks.length ≤ 20000 ∧ Bfs.gone (nx := nxt ws U) x ks = some g ∧
  ∀ r H' as, Ext H H' → H' r = some (.lst (List.map V.ref as)) → Paired (PlAt H') as (trail (nxt ws U) x ks) → Q (.ref r) H'
noncomputable abbrev s_walked : Stmt := top 30
theorem sc_walked : FnScope ["house", "place", "walk", "places"] ["house", "place", "walk"] (defScope s_walked) := ⟨rfl, rfl, rfl, by decide +kernel, rfl, by decide +kernel, by decide +kernel⟩
theorem ok_walked {P : Program} {w : World} {K : PySem.W.Frag} {mg : Str → Option Value} {base : Heap} (D : Dfn K mg "walked" s_walked ["house", "place", "walk"]) (T : Blt mg) (C_places_gone : Cal P w K mg base "places_gone" 3 ["house", "place", "walk"] (sp_places_gone K)) (C_refuse_long_walk : Cal P w K mg base "refuse_long_walk" 1 ["walk"] (sp_refuse_long_walk K)) (C_refuse_bad_places : Cal P w K mg base "refuse_bad_places" 3 ["house", "places"] (sp_refuse_bad_places K)) (C_refuse_no_house : Cal P w K mg base "refuse_no_house" 6 ["thing"] (sp_refuse_no_house K)) : Cal P w K mg base "walked" 7 ["house", "place", "walk"] (sp_walked K) := by
  have nd := (sc_walked).nd
  refine D.ok sc_walked (fun vs H Q E h => ?_) (fun X hX H vs Q E h => ?_)
  · obtain ⟨v, m, ws, pa, l, U, x, g, ks, rfl, _⟩ := h; rfl
  · obtain ⟨f, cdv, A, outer, s, H0, E0, rfl, hr⟩ := hX
    obtain ⟨v, m, ws, pa, l, U, x, g, ks, rfl, hv, ok, hx, ix, hl, hks, hgo, q⟩ := h
    refine ⟨_, (no_implicit_lambda% (pss_cons (no_implicit_lambda% (ps_expr (no_implicit_lambda% (pe_cal C_refuse_no_house hr (no_implicit_lambda% (pa_cons (no_implicit_lambda% (pv 0)) pa_nil))))))
        (no_implicit_lambda% (pss_cons (no_implicit_lambda% (ps_expr (no_implicit_lambda% (pe_cal C_refuse_bad_places hr (no_implicit_lambda% (pa_cons (no_implicit_lambda% (pv 0)) (no_implicit_lambda% (pa_cons (no_implicit_lambda% (pe_lst (no_implicit_lambda% (pa_cons (no_implicit_lambda% (pv 1)) pa_nil)))) pa_nil))))))))
        (no_implicit_lambda% (pss_cons (no_implicit_lambda% (ps_expr (no_implicit_lambda% (pe_cal C_refuse_long_walk hr (no_implicit_lambda% (pa_cons (no_implicit_lambda% (pv 2)) pa_nil))))))
        (no_implicit_lambda% (pss_cons (no_implicit_lambda% (ps_set (i := 3) nd rfl (Or.inl rfl) (no_implicit_lambda% (pe_cal C_places_gone hr (no_implicit_lambda% (pa_cons (no_implicit_lambda% (pv 0)) (no_implicit_lambda% (pa_cons (no_implicit_lambda% (pv 1)) (no_implicit_lambda% (pa_cons (no_implicit_lambda% (pv 2)) pa_nil))))))))))
        (no_implicit_lambda% (pss_cons (no_implicit_lambda% (ps_if (no_implicit_lambda% (pt_cmpR op_le (no_implicit_lambda% (pe_callB (call_lenK K) rfl T.len_ PySem.boot_len (no_implicit_lambda% (pa_cons (no_implicit_lambda% (pv 3)) pa_nil)))) (no_implicit_lambda% (pe_callB (call_lenK K) rfl T.len_ PySem.boot_len (no_implicit_lambda% (pa_cons (no_implicit_lambda% (pv 2)) pa_nil)))) (nomark _))) (no_implicit_lambda% (pss_one ps_never)) pss_nil))
        (no_implicit_lambda% (pss_one (no_implicit_lambda% (ps_ret (no_implicit_lambda% (pv 3)))))))))))))))), ?_⟩
    walk_at "rd"
    refine ⟨v, m, ws, rfl, hv, ok, fun H1 e1 => ?_⟩
    walk_at "rd"
    refine ⟨small_line (by simp), rd_new fun c H2 e2 hc _ => ?_⟩
    walk_at "rd"
    have e12 := e1.trans e2
    obtain ⟨hh, t, rfl, g1, g2⟩ := hv.ext e12
    refine ⟨hh, _, m, c, [pa], [x], rfl, g1, hc, .cons (show PlAt H2 pa x from e12 _ _ hx) .nil, ?_, ?_⟩
    · intro y hy
      rw [List.mem_singleton] at hy
      subst hy
      exact ix
    walk_at "rd"
    refine ⟨l, _, rfl, e12 _ _ hl, by rw [List.length_map]; exact hks, ?_⟩
    walk_at "rd"
    refine ⟨_, m, ws, pa, l, U, x, g, ks, rfl, ⟨hh, t, rfl, g1, g2⟩, ok, e12 _ _ hx, e12 _ _ hl, by omega, hgo, fun r H3 as e3 hr hpr => ?_⟩
    have hal := Paired.length hpr
    rw [trail_len hgo] at hal
    walk_at "rd"
    refine rd_lenL (SqL.of hr) ?_
    walk_at "rd"
    refine rd_lenL (SqL.of ((e12.trans e3) _ _ hl)) ?_
    walk_at "rd"
    rw [List.length_map, List.length_map, hal, decide_eq_false (show ¬ (((ks.length + 1 : Nat) : Int) ≤ ((ks.length : Nat) : Int)) by omega)]
    refine iteF ?_
    walk_at "rd"
    exact q r H3 as (e12.trans e3) hr hpr
noncomputable def sp__law_gone (K : PySem.W.Frag) : Sp := fun vs H Q _ => ∃ v m ws pa l U x g ks, vs = [v, .ref pa, .ref l] ∧ HouseAt H v m ws ∧ HOuse m ws ∧ PlAt H pa x ∧ H l = some (.lst (intsN ks)) ∧ ks.length ≤ 24012 ∧ Bfs.gone (nx := nxt ws U) x ks = some g ∧
  ∀ r H' as a, Ext H H' → H' r = some (.lst (List.map V.ref (as ++ [a]))) → Paired (PlAt H') (as ++ [a]) (trail (nxt ws U) x ks) → PlAt H' a g → Q (.ref r) H'
noncomputable abbrev s__law_gone : Stmt := top 41
theorem sc__law_gone : FnScope ["_law_house", "_law_place", "_law_walk_here", "_law_found", "_law_k", "_law_there"] ["_law_house", "_law_place", "_law_walk_here"] (defScope s__law_gone) := ⟨rfl, rfl, rfl, by decide +kernel, rfl, by decide +kernel, by decide +kernel⟩
theorem ok__law_gone {P : Program} {w : World} {K : PySem.W.Frag} {mg : Str → Option Value} {base : Heap} (D : Dfn K mg "_law_gone" s__law_gone ["_law_house", "_law_place", "_law_walk_here"]) (T : Blt mg) (C__law_behind : Cal P w K mg base "_law_behind" 1 ["_law_house", "_law_place"] (sp__law_behind K)) : Cal P w K mg base "_law_gone" 2 ["_law_house", "_law_place", "_law_walk_here"] (sp__law_gone K) := by
  have nd := (sc__law_gone).nd
  refine D.ok sc__law_gone (fun vs H Q E h => ?_) (fun X hX H vs Q E h => ?_)
  · obtain ⟨v, m, ws, pa, l, U, x, g, ks, rfl, _⟩ := h; rfl
  · obtain ⟨f, cdv, A, outer, s, H0, E0, rfl, hr⟩ := hX
    obtain ⟨v, m, ws, pa, l, U, x, g, ks, rfl, hv, ok, hx, hl, hks, hgo, q⟩ := h
    refine ⟨_, (no_implicit_lambda% (pss_cons (no_implicit_lambda% (ps_set (i := 3) nd rfl (Or.inl rfl) (no_implicit_lambda% (pe_lst (no_implicit_lambda% (pa_cons (no_implicit_lambda% (pv 1)) pa_nil))))))
        (no_implicit_lambda% (pss_cons (no_implicit_lambda% (ps_for PassesOwn.never rfl (no_implicit_lambda% (pi_listK K (no_implicit_lambda% (pv 2)))) (no_implicit_lambda% (pg_name (i := 4) nd rfl (Or.inr rfl))) (no_implicit_lambda% (pss_cons (no_implicit_lambda% (ps_setComp (i := 5) ["_law_way", "_law_far"] [4] nd rfl (Or.inl rfl) (no_implicit_lambda% (pi_listK K (no_implicit_lambda% (pe_cal C__law_behind hr (no_implicit_lambda% (pa_cons (no_implicit_lambda% (pv 0)) (no_implicit_lambda% (pa_cons (no_implicit_lambda% (pe_ix (ix_listK K) (no_implicit_lambda% (pv 3)) (no_implicit_lambda% (pe_un un_neg pe_int)) (fun _ _ => rfl))) pa_nil)))))))) (fun _ => (no_implicit_lambda% (pg_tupK (n := 2) K rfl (pgs_cons (no_implicit_lambda% (pg_name (i := 0) (show (["_law_way", "_law_far", "_law_k"] : List Str).Nodup from by decide +kernel) rfl (Or.inl rfl) (Or.inr rfl))) (pgs_cons (no_implicit_lambda% (pg_name (i := 1) (show (["_law_way", "_law_far", "_law_k"] : List Str).Nodup from by decide +kernel) rfl (Or.inl rfl) (Or.inr rfl))) pgs_nil))))) (fun _ => (pcs_one (no_implicit_lambda% (pt_cmpR op_eq (no_implicit_lambda% (pv 0)) (no_implicit_lambda% (pv 2)) (nomark _))))) (fun _ => (no_implicit_lambda% (pv 1)))))
        (no_implicit_lambda% (pss_cons (no_implicit_lambda% (ps_if (no_implicit_lambda% (pt_cmpR op_eq (no_implicit_lambda% (pe_callB (call_lenK K) rfl T.len_ PySem.boot_len (no_implicit_lambda% (pa_cons (no_implicit_lambda% (pv 5)) pa_nil)))) pe_int (nomark _))) (no_implicit_lambda% (pss_one (no_implicit_lambda% (ps_ret pe_non)))) pss_nil))
        (no_implicit_lambda% (pss_one (no_implicit_lambda% (ps_expr (no_implicit_lambda% (pe_bmK K PySem.F.plainAttrs_list PySem.F.slot_list_append PySem.F.type_list_append mt_append (no_implicit_lambda% (pv 3)) (no_implicit_lambda% (pa_cons (no_implicit_lambda% (pe_ix (ix_listK K) (no_implicit_lambda% (pv 5)) pe_int (fun _ _ => rfl))) pa_nil))))))))))))))
        (no_implicit_lambda% (pss_one (no_implicit_lambda% (ps_ret (no_implicit_lambda% (pv 3)))))))))), ?_⟩
    walk_at "rd"
    refine ⟨small_line (by simp), rd_new fun f H1 e1 hf hfn => ?_⟩
    walk_at "rd"
    refine rd_iLx (SqL.of (e1 _ _ hl)) ?_
    refine forL (xs := intsN ks) (fun j σ H' => ∃ k1 k2 y as a, σ = [some v, some (.ref pa), some (.ref l), some (.ref f), k1, k2] ∧ Ext H H' ∧ H' f = some (.lst (List.map V.ref (as ++ [a]))) ∧ Paired (PlAt H') (as ++ [a]) (trail (nxt ws U) x (ks.take j)) ∧ PlAt H' a y ∧ Part (nxt ws U) x g ks j y) ⟨none, none, x, [], pa, rfl, e1, (show H1 f = some (.lst (List.map V.ref ([] ++ [pa]))) from hf), (show Paired (PlAt H1) [pa] [x] from .cons (show PlAt H1 pa x from e1 _ _ hx) .nil), e1 _ _ hx, rfl, hgo⟩ (fun j σ H' _ h => by obtain ⟨_, _, _, _, _, _, e, _⟩ := h; exact SqL.of (e _ _ hl)) ?_ ?_
    · rintro j u σ H2 hu ⟨k1, k2, y, as, a, rfl, e2, hf2, hpa, ha, hpt⟩
      rw [List.getElem?_map] at hu
      obtain ⟨k, hk, rfl⟩ := Option.map_eq_some_iff.mp hu
      have hjl := (List.getElem?_eq_some_iff.mp hk).1
      have hal := Paired.length hpa
      rw [trail_len hpt.lo, List.length_take] at hal
      obtain ⟨z, hz, hpt', htr⟩ := hpt.next hk
      have hzm := nxt_beh hz
      walk_at "rd"
      refine rd_ixL (SqL.of hf2) (v := .ref a) (by rw [List.map_append]; exact atI_last _ _) ?_
      walk_at "rd"
      refine ⟨v, m, ws, a, y.1, y.2, rfl, hv.ext e2, ok, ha, fun bl H3 cs e3 hbn hbl hpd => ?_⟩
      have hcl := Paired.length hpd
      have hb100 := behL_len ws y.1 y.2 ws.length
      have hfew := ok.few
      refine rd_iLx (SqL.of hbl) ?_
      refine comp_list (xs := cs.map V.ref) (fun i ys H' => Ext H3 H' ∧ (∀ u ∈ ys, ∃ d, u = .ref d ∧ PlAt H' d z) ∧ ((∃ t ∈ (behL ws y.1 y.2 ws.length).take i, t.1 = (k : Int)) → ys ≠ []) ∧ ys.length ≤ i) (small9 (by rw [List.length_map, hcl]; omega)) ⟨Ext.rfl' _, fun u h => (by cases h), fun h => (by obtain ⟨t, ht, _⟩ := h; simp at ht), Nat.le_refl _⟩ (fun i ys H' _ h => ⟨SqL.of (h.1 _ _ hbl), h.2.2.2⟩) ?_ ?_
      · rintro i u ys H4 hu ⟨e4, hall, hne, hyl⟩
        rw [List.getElem?_map] at hu
        obtain ⟨cc, hc, rfl⟩ := Option.map_eq_some_iff.mp hu
        obtain ⟨t, ht, hb⟩ := paired_at hpd hc
        have htm := List.mem_of_getElem? ht
        have htk : (behL ws y.1 y.2 ws.length).take (i + 1) = (behL ws y.1 y.2 ws.length).take i ++ [t] := by rw [List.take_succ, ht]; rfl
        obtain ⟨d, hc1, hd1⟩ := hb.ext e4
        refine rd_gtup (SqT.of hc1) rfl ?_
        walk_at "rd"
        rw [htk]
        by_cases hek : t.1 = (k : Int)
        · rw [decide_eq_true hek]
          refine iteT ?_
          walk_at "rd"
          have := beh_one hz htm hek
          refine ⟨e4, fun u hu => ?_, fun _ z => by simp at z, by rw [List.length_append]; simp; omega⟩
          rcases List.mem_append.mp hu with w1 | w1
          · exact hall u w1
          · refine ⟨d, by simpa using w1, ?_⟩
            show _ = some (HO.tup [.int z.1, .int z.2])
            rw [← this.1, ← this.2]
            exact hd1
        · rw [decide_eq_false hek]
          refine iteF ?_
          refine ⟨e4, hall, fun h => hne ?_, by omega⟩
          obtain ⟨t', ht', hk'⟩ := h
          rcases List.mem_append.mp ht' with z | z
          · exact ⟨t', z, hk'⟩
          · have : t' = t := by simpa using z
            subst this
            exact absurd hk' hek
      · rintro ys H4 p ⟨e4, hall, hne, hyl⟩ hp
        walk_at "rd"
        have hys : ys ≠ [] := hne ⟨((k : Int), z.1, z.2), by rw [List.take_of_length_le (by rw [List.length_map, hcl]; exact Nat.le_refl _)]; exact hzm.1, rfl⟩
        obtain ⟨u, us, rfl⟩ := List.exists_cons_of_ne_nil hys
        obtain ⟨d, rfl, hd⟩ := hall u List.mem_cons_self
        have e25 : Ext H2 (upd H4 p (.lst (.ref d :: us))) := (e3.trans e4).trans (ext_upd hp)
        have hd5 : PlAt (upd H4 p (.lst (.ref d :: us))) d z := (ext_upd hp) _ _ hd
        have hp5 : upd H4 p (.lst (.ref d :: us)) p = some (.lst (.ref d :: us)) := upd_same
        generalize upd H4 p (.lst (.ref d :: us)) = H5 at e25 hd5 hp5 ⊢
        refine rd_lenL (SqL.of hp5) ?_
        walk_at "rd"
        rw [decide_eq_false (show ¬ (((V.ref d :: us).length : Nat) : Int) = 0 by rw [List.length_cons]; omega)]
        refine iteF ?_
        walk_at "rd"
        have hf5 := e25 _ _ hf2
        refine ⟨rd_tyL (SqL.of hf5), ?_⟩
        walk_at "rd"
        refine rd_ixL (SqL.of hp5) (atI_nat (j := 0) rfl) ?_
        walk_at "rd"
        refine rd_append hf5 (line17 (by rw [List.length_map, hal]; omega)) ?_
        walk_at "rd"
        have nl : ∀ xs, (HO.lst (List.map V.ref (as ++ [a]))) ≠ .tup xs := fun xs z => by cases z
        refine ⟨_, _, z, as ++ [a], d, rfl, ext_write (e2.trans e25) hfn, by rw [upd_same, List.map_append (l₁ := as ++ [a])]; rfl, ?_, PlAt.put hf5 nl hd5, hpt'⟩
        rw [htr]
        exact Paired.snoc (Paired.mapP hpa fun _ _ w => PlAt.put hf5 nl (e25 _ _ w)) (PlAt.put hf5 nl hd5)
    · rintro σ H2 ⟨k1, k2, y, as, a, rfl, e2, hf2, hpa, ha, hpt⟩
      rw [List.length_map] at hpa hpt
      rw [List.take_length] at hpa
      have hyg := hpt.hi
      rw [List.drop_length] at hyg
      cases hyg
      walk_at "rd"
      exact q f H2 as a e2 hf2 hpa ha
noncomputable abbrev plD (x : Bfs.Pl) : PyData := .tuple [.int x.1, .int x.2]
theorem pl_rep {H : Hp} {b : Addr} {x : Bfs.Pl} (h : PlAt H b x) : RepD H 1 (.ref b) (plD x) :=
  .inr ⟨b, _, _, rfl, .inl ⟨h, rfl⟩, .cons rfl (.cons rfl .nil)⟩
theorem pl_eqv (x : Bfs.Pl) : PyData.eqv (plD x) (plD x) = true := by
  simp [PyData.eqv, PyData.eqvAll]
theorem pls_rep {H : Hp} {r : Addr} {as : List Addr} {xs : List Bfs.Pl} (h : H r = some (.lst (List.map V.ref as))) (hp : Paired (PlAt H) as xs) : RepD H 2 (.ref r) (.list (xs.map plD)) := by
  refine .inr ⟨r, _, _, rfl, .inr ⟨h, rfl⟩, ?_⟩
  clear h
  induction hp with
  | nil => exact .nil
  | cons h _ ih => exact .cons (pl_rep h) ih
theorem plsAll_eqv : ∀ xs : List Bfs.Pl, PyData.eqvAll (xs.map plD) (xs.map plD) = true
  | [] => rfl
  | x :: xs => by
    rw [List.map_cons]
    show (PyData.eqv (plD x) (plD x) && PyData.eqvAll (xs.map plD) (xs.map plD)) = true
    rw [pl_eqv, plsAll_eqv xs]
    rfl
theorem pls_eqv (xs : List Bfs.Pl) : PyData.eqv (.list (xs.map plD)) (.list (xs.map plD)) = true := plsAll_eqv xs
noncomputable def LenIs (ws : List Way) (U : Int) (x g : Bfs.Pl) (z : Int) : Prop := (z = -1 ∧ ∀ n, ¬ Bfs.Dist (nxt ws U) x n g) ∨ ∃ n : Nat, z = (n : Int) ∧ Bfs.Dist (nxt ws U) x n g
noncomputable def sp__law_right (K : PySem.W.Frag) : Sp := fun vs H Q _ => ∃ v m ws pa ga x g z, vs = [v, .ref pa, .ref ga, .int z] ∧ HouseAt H v m ws ∧ HOuse m ws ∧ PlAt H pa x ∧ PlAt H ga g ∧ inH m x ∧ inH m g ∧ LenIs ws (topOf m x g) x g z ∧ z ≤ 20000 ∧
  ∀ H', Ext H H' → Q (.bl true) H'
noncomputable abbrev s__law_right : Stmt := top 48
theorem sc__law_right : FnScope ["_law_house", "_law_place", "_law_goal", "_law_length", "_law_found", "_law_places"] ["_law_house", "_law_place", "_law_goal", "_law_length"] (defScope s__law_right) := ⟨rfl, rfl, rfl, by decide +kernel, rfl, by decide +kernel, by decide +kernel⟩
theorem ok__law_right {P : Program} {w : World} {K : PySem.W.Frag} {mg : Str → Option Value} {base : Heap} (D : Dfn K mg "_law_right" s__law_right ["_law_house", "_law_place", "_law_goal", "_law_length"]) (T : Blt mg) (C_walked : Cal P w K mg base "walked" 7 ["house", "place", "walk"] (sp_walked K)) (C__law_gone : Cal P w K mg base "_law_gone" 2 ["_law_house", "_law_place", "_law_walk_here"] (sp__law_gone K)) (C__law_walk : Cal P w K mg base "_law_walk" 2 ["_law_found", "_law_most"] (sp__law_walk K)) (C_shortest : Cal P w K mg base "shortest" 7 ["house", "place", "goal"] (sp_shortest K)) : Cal P w K mg base "_law_right" 8 ["_law_house", "_law_place", "_law_goal", "_law_length"] (sp__law_right K) := by
  have nd := (sc__law_right).nd
  refine D.ok sc__law_right (fun vs H Q E h => ?_) (fun X hX H vs Q E h => ?_)
  · obtain ⟨v, m, ws, pa, ga, x, g, z, rfl, _⟩ := h; rfl
  · obtain ⟨f, cdv, A, outer, s, H0, E0, rfl, hr⟩ := hX
    obtain ⟨v, m, ws, pa, ga, x, g, z, rfl, hv, ok, hx, hg, ix, ig, hlen, hz, q⟩ := h
    refine ⟨_, (no_implicit_lambda% (pss_cons (no_implicit_lambda% (ps_set (i := 4) nd rfl (Or.inl rfl) (no_implicit_lambda% (pe_cal C_shortest hr (no_implicit_lambda% (pa_cons (no_implicit_lambda% (pv 0)) (no_implicit_lambda% (pa_cons (no_implicit_lambda% (pv 1)) (no_implicit_lambda% (pa_cons (no_implicit_lambda% (pv 2)) pa_nil))))))))))
        (no_implicit_lambda% (pss_cons (no_implicit_lambda% (ps_if (no_implicit_lambda% (pt_cmpR op_lt (no_implicit_lambda% (pv 3)) pe_int (nomark _))) (no_implicit_lambda% (pss_one (no_implicit_lambda% (ps_ret (no_implicit_lambda% (pe_cmpR op_isN (no_implicit_lambda% (pv 4)) pe_non (nomark _))))))) pss_nil))
        (no_implicit_lambda% (pss_cons (no_implicit_lambda% (ps_if (no_implicit_lambda% (PW.pt (pw_or (no_implicit_lambda% (pt_not (no_implicit_lambda% (pt_val (no_implicit_lambda% (pe_cal C__law_walk hr (no_implicit_lambda% (pa_cons (no_implicit_lambda% (pv 4)) (no_implicit_lambda% (pa_cons (no_implicit_lambda% (pv 3)) pa_nil)))))))))) (pw_or1 (no_implicit_lambda% (pt_cmpR op_ne (no_implicit_lambda% (pe_callB (call_lenK K) rfl T.len_ PySem.boot_len (no_implicit_lambda% (pa_cons (no_implicit_lambda% (pv 4)) pa_nil)))) (no_implicit_lambda% (pv 3)) (nomark _))))))) (no_implicit_lambda% (pss_one (no_implicit_lambda% (ps_ret pe_bl)))) pss_nil))
        (no_implicit_lambda% (pss_cons (no_implicit_lambda% (ps_set (i := 5) nd rfl (Or.inl rfl) (no_implicit_lambda% (pe_cal C__law_gone hr (no_implicit_lambda% (pa_cons (no_implicit_lambda% (pv 0)) (no_implicit_lambda% (pa_cons (no_implicit_lambda% (pv 1)) (no_implicit_lambda% (pa_cons (no_implicit_lambda% (pv 4)) pa_nil))))))))))
        (no_implicit_lambda% (pss_one (no_implicit_lambda% (ps_ret (no_implicit_lambda% (pe_and (no_implicit_lambda% (pe_cmpR op_notN (no_implicit_lambda% (pv 5)) pe_non (nomark _))) (pe_and (no_implicit_lambda% (pe_cmpR (op_eqD hr) (no_implicit_lambda% (pe_ix (ix_listK K) (no_implicit_lambda% (pv 5)) (no_implicit_lambda% (pe_un un_neg pe_int)) (fun _ _ => rfl))) (no_implicit_lambda% (pv 2)) (nomark _))) (pe_one (no_implicit_lambda% (pe_cmpR (op_eqD hr) (no_implicit_lambda% (pe_cal C_walked hr (no_implicit_lambda% (pa_cons (no_implicit_lambda% (pv 0)) (no_implicit_lambda% (pa_cons (no_implicit_lambda% (pv 1)) (no_implicit_lambda% (pa_cons (no_implicit_lambda% (pv 4)) pa_nil)))))))) (no_implicit_lambda% (pv 5)) (nomark _))))))))))))))))))), ?_⟩
    walk_at "rd"
    refine ⟨v, m, ws, pa, ga, x, g, rfl, hv, ok, hx, hg, ix, ig, fun hno H1 e1 => ?_, fun n l H1 ks hD hn e1 hln hl hks hgo => ?_⟩
    · obtain rfl : z = -1 := by
        rcases hlen with ⟨h, _⟩ | ⟨n, _, d⟩
        · exact h
        · exact absurd d (hno n)
      walk_at "rd"
      refine iteT ?_
      walk_at "rd"
      exact ⟨rfl, q _ e1⟩
    · obtain rfl : z = ((n : Nat) : Int) := by
        rcases hlen with ⟨_, h⟩ | ⟨k, h, d⟩
        · exact absurd hD (h n)
        · rw [h, Bfs.Dist.uniq (nx := nxt ws (topOf m x g)) (s := x) d hD]
      walk_at "rd"
      rw [decide_eq_false (show ¬ ((n : Nat) : Int) < 0 by omega)]
      refine iteF ?_
      walk_at "rd"
      refine ⟨l, _, ks, rfl, hl, by omega, by omega, fun H2 e2 => ?_⟩
      have e12 := e1.trans e2
      have hl2 := e2 _ _ hl
      refine rd_exb (iteF ?_)
      walk_at "rd"
      refine rd_lenL (SqL.of hl2) ?_
      walk_at "rd"
      rw [decide_eq_true (show (((intsN ks).length : Nat) : Int) = (n : Int) by rw [List.length_map, hks])]
      refine iteF ?_
      walk_at "rd"
      refine ⟨v, m, ws, pa, l, topOf m x g, x, g, ks, rfl, hv.ext e12, ok, e12 _ _ hx, hl2, by omega, hgo, fun r H3 as a e3 hr hpr ha => ?_⟩
      have e13 := e12.trans e3
      walk_at "rd"
      refine ⟨rfl, ?_⟩
      rw [decide_eq_false (show ¬ (V.ref r = V.non) by intro z; cases z)]
      refine rd_exb (iteT ?_)
      walk_at "rd"
      refine rd_ixL (SqL.of hr) (v := .ref a) (by rw [List.map_append]; exact atI_last _ _) ?_
      walk_at "rd"
      refine ⟨1, 1, _, _, pl_rep ha, pl_rep (e13 _ _ hg), by decide, ?_⟩
      rw [pl_eqv]
      refine rd_exb (iteT ?_)
      walk_at "rd"
      refine ⟨v, m, ws, pa, l, topOf m x g, x, g, ks, rfl, hv.ext e13, ok, e13 _ _ hx, ix, e3 _ _ hl2, by omega, hgo, fun r2 H4 as2 e4 hr2 hpr2 => ?_⟩
      walk_at "rd"
      refine ⟨2, 2, _, _, pls_rep hr2 hpr2, pls_rep (e4 _ _ hr) (Paired.mapP hpr fun _ _ w => e4 _ _ w), by decide, ?_⟩
      rw [pls_eqv]
      exact q _ (e13.trans e4)
end My
set_option Elab.async false
set_option linter.all false
set_option maxRecDepth 100000
namespace My
open PySem L2 St
set_option maxHeartbeats 4000000
local macro_rules | `(tactic| walk_at "cond") => `(tactic| first | decide | omega | (dsimp only; omega) | (unfold CMul; omega) | (unfold CPow; exact ⟨by decide, by decide, by decide⟩) | (dsimp only; exact ⟨by omega, by omega⟩) | exact .inr ⟨by decide, by decide⟩ | exact .inl ⟨by decide, by decide⟩ | (unfold SmallR; omega))
local macro_rules | `(tactic| walk_at "sq") => `(tactic| first | assumption | exact SqL.of (by assumption) | exact SqT.of (by assumption) | exact SqL.of (by solve_by_elim) | exact SqT.of (by solve_by_elim) | solve_by_elim)
local macro_rules | `(tactic| walk_at "rd") => `(tactic| repeat (first | with_reducible refine rd_seq ?_ | with_reducible refine rd_ret ?_ | with_reducible refine rd_retN ?_ | with_reducible refine rd_asg ?_ | with_reducible refine rd_drop ?_ | with_reducible refine rd_ifS ?_ | with_reducible refine rd_next ?_ | with_reducible refine rd_name ?_ | ((with_reducible apply rd_var); (exact rfl)) | with_reducible refine rd_c ?_ | with_reducible refine rd_op ?_ | with_reducible refine rd_un ?_ | with_reducible refine rd_CB ?_ | with_reducible refine rd_cons ?_ | with_reducible refine rd_nil ?_ | with_reducible refine rd_ints ?_ | with_reducible refine rd_test ?_ | with_reducible refine rd_B ?_ | with_reducible refine rd_exb ?_ | with_reducible refine rd_not ?_ | with_reducible refine rd_and ?_ | with_reducible refine rd_or ?_ | with_reducible refine rd_andV ?_ | with_reducible refine rd_orV ?_ | with_reducible refine rd_notV ?_ | with_reducible refine rd_ifE ?_ | with_reducible refine rd_yes ?_ | with_reducible refine rd_I0 ?_ | ((with_reducible apply rd_I); (walk_at "cond")) | with_reducible refine rd_U ?_ | with_reducible refine rd_EqI ?_ | with_reducible refine rd_NeI ?_ | with_reducible refine rd_EqB ?_ | with_reducible refine rd_NeB ?_ | with_reducible refine rd_call ?_ | with_reducible refine rd_BM ?_ | with_reducible refine rd_tup ?_ | with_reducible refine rd_lst ?_ | with_reducible refine rd_sl ?_ | with_reducible refine rd_noPart ?_ | with_reducible refine rd_part ?_ | with_reducible refine rd_exi ?_ | with_reducible refine rd_chain ?_ | with_reducible refine rd_comp ?_ | with_reducible refine rd_iL ?_ | with_reducible refine rd_iT ?_ | with_reducible refine rd_i1 ?_ | with_reducible refine rd_i2 ?_ | with_reducible refine rd_i3 ?_ | with_reducible refine rd_for ?_ | with_reducible refine rd_tTru ?_ | with_reducible refine rd_intB ?_ | with_reducible refine rd_max2 ?_ | with_reducible refine rd_min2 ?_ | with_reducible refine rd_sub ?_ | with_reducible refine rd_gcons ?_ | with_reducible refine rd_gnil ?_ | ((with_reducible apply rd_aug); (exact rfl)) | with_reducible refine rd_ipI ?_ | with_reducible refine rd_zip ?_ | with_reducible refine rd_rev ?_ | with_reducible refine rd_par ?_ | with_reducible refine rd_par2 ?_ | with_reducible refine rd_lam ?_ | with_reducible refine rd_calV ?_ | with_reducible refine rd_raise ?_ | with_reducible refine rd_fs ?_ | with_reducible refine rd_try ?_ | with_reducible refine rd_bseq ?_ | with_reducible refine rd_bnext ?_ | with_reducible refine rd_bplain ?_ | with_reducible refine rd_bif ?_ | with_reducible refine rd_bcall ?_ | with_reducible refine rd_enum ?_ | with_reducible refine rd_gget ?_ | with_reducible refine rd_gin ?_ | with_reducible refine rd_revL ?_ | with_reducible refine rd_leS ?_ | with_reducible refine rd_disp ?_ | with_reducible refine rd_dget ?_ | with_reducible refine rd_lrev ?_ | with_reducible refine rd_disp1 ?_ | with_reducible refine rd_din ?_ | with_reducible refine rd_dnin ?_ | with_reducible refine rd_dput ?_ | with_reducible refine rd_min3 ?_ | dsimp only))
noncomputable def idleW (w : Way) : Prop := w.deed = "stay" ∧ w.room = w.other
noncomputable def StW (ws : List Way) (p q : Bfs.Pl) : Prop := ∃ w ∈ ws, w.room = p.1 ∧ stp w.deed p.2 = some q.2 ∧ q.1 = w.other
structure WithIdle (ws ws' : List Way) : Prop where
  back : ∀ w ∈ ws', w ∈ ws ∨ idleW w
  sub : ∀ w ∈ ws, w ∈ ws'
section
variable {ws ws' : List Way} {U : Int} {s : Bfs.Pl}
theorem WithIdle.low (he : WithIdle ws ws') (Iv : Nat → Bfs.Pl → Prop) (h0 : Iv 0 s) (hm : ∀ n p, Iv n p → Iv (n + 1) p) (hs : ∀ n p q, Iv n p → StW ws p q → Iv (n + 1) q) : ∀ {n : Nat} {p : Bfs.Pl}, Bfs.Wk (nxt ws' U) s n p → Iv n p := by
  intro n p w
  induction w with
  | zero => exact h0
  | @succ n p q k _ hk ih =>
    obtain ⟨w, h1, h2, h3, h4, _⟩ := nxt_of hk
    rcases he.back w (List.mem_of_getElem? h1) with h | ⟨h5, h6⟩
    · exact hs n p q ih ⟨w, h, h2, h3, h4⟩
    · rw [h5, stp_stay] at h3
      have : q = p := Prod.ext (by rw [h4, ← h6, h2]) (Option.some.inj h3).symm
      rw [this]
      exact hm n p ih
theorem WithIdle.go (he : WithIdle ws ws') {n : Nat} {p q : Bfs.Pl} (w : Bfs.Wk (nxt ws' U) s n p) (h : StW ws p q) (hq : q.2 ≤ U) : Bfs.Wk (nxt ws' U) s (n + 1) q := by
  obtain ⟨u, h1, h2, h3, h4⟩ := h
  obtain ⟨k, hk⟩ := List.getElem?_of_mem (he.sub u h1)
  refine .succ (k := k) w ?_
  unfold nxt
  rw [hk, Option.bind_some, if_pos h2, h3, Option.bind_some, if_pos hq, ← h4]
theorem len_some {g : Bfs.Pl} {n : Nat} (h : ∀ k, Bfs.Wk (nxt ws' U) s k g → n ≤ k) (w : Bfs.Wk (nxt ws' U) s n g) : LenIs ws' U s g (n : Int) :=
  .inr ⟨n, rfl, w, fun m hm w' => by have := h m w'; omega⟩
theorem len_none {g : Bfs.Pl} (h : ∀ k, ¬ Bfs.Wk (nxt ws' U) s k g) : LenIs ws' U s g (-1) := .inl ⟨rfl, fun n d => h n d.1⟩
end
theorem stp_down_iff {n n' : Int} (h : stp "down" n = some n') : 0 < n ∧ n' = n - 1 := by
  rw [stp_down] at h
  split at h
  · rename_i g
    cases h
    exact ⟨of_decide_eq_true g, rfl⟩
  · cases h
theorem stp_down_of {n : Int} (h : 0 < n) : stp "down" n = some (n - 1) := by
  rw [stp_down, decide_eq_true h, if_pos rfl]
theorem stp_zero_iff {n n' : Int} (h : stp "zero" n = some n') : n = 0 ∧ n' = 0 := by
  rw [stp_zero] at h
  split at h
  · rename_i g
    cases h
    exact ⟨of_decide_eq_true g, of_decide_eq_true g⟩
  · cases h
theorem stp_zero_of : stp "zero" 0 = some 0 := by
  rw [stp_zero]
  rfl
theorem stp_up_iff {n n' : Int} (h : stp "up" n = some n') : n' = n + 1 := by
  rw [stp_up] at h
  exact (Option.some.inj h).symm
theorem stp_stay_iff {n n' : Int} (h : stp "stay" n = some n') : n' = n := by
  rw [stp_stay] at h
  exact (Option.some.inj h).symm
theorem two_mem {α : Type} {w a b : α} (h : w ∈ [a, b]) : w = a ∨ w = b := by simpa using h
theorem four_mem {α : Type} {w a b c d : α} (h : w ∈ [a, b, c, d]) : w = a ∨ w = b ∨ w = c ∨ w = d := by simpa using h
noncomputable def kw0 : List Way := [⟨0, "up", 0, "a"⟩, ⟨0, "down", 0, "b"⟩]
theorem len0 {ws' : List Way} (he : WithIdle kw0 ws') {U x y : Int} (x0 : 0 ≤ x) (y0 : 0 ≤ y) (xU : x ≤ U) (yU : y ≤ U) : LenIs ws' U (0, x) (0, y) (Int.natAbs (x - y)) := by
  refine len_some (fun k w => ?_) ?_
  · have := he.low (fun n p => p.1 = 0 ∧ p.2 - x ≤ n ∧ x - p.2 ≤ n) ⟨rfl, by simp, by simp⟩ (fun n p h => ⟨h.1, by omega, by omega⟩) (fun n p q h hs => by
      obtain ⟨w, hw, h1, h2, h3⟩ := hs
      rcases two_mem hw with rfl | rfl
      · have := stp_up_iff h2
        exact ⟨h3, by omega, by omega⟩
      · have := stp_down_iff h2
        exact ⟨h3, by omega, by omega⟩) w
    dsimp only at this
    omega
  · have up : ∀ j : Nat, x + j ≤ U → Bfs.Wk (nxt ws' U) (0, x) j (0, x + j) := by
      intro j
      induction j with
      | zero => intro _; simpa using Bfs.Wk.zero
      | succ j ih =>
        intro h
        exact he.go (ih (by omega)) ⟨⟨0, "up", 0, "a"⟩, by simp [kw0], rfl, by rw [stp_up]; congr 1; show x + j + 1 = x + (j + 1 : Nat); omega, rfl⟩ h
    have dn : ∀ j : Nat, (j : Int) ≤ x → Bfs.Wk (nxt ws' U) (0, x) j (0, x - j) := by
      intro j
      induction j with
      | zero => intro _; simpa using Bfs.Wk.zero
      | succ j ih =>
        intro h
        exact he.go (ih (by omega)) ⟨⟨0, "down", 0, "b"⟩, by simp [kw0], rfl, by rw [stp_down_of (show 0 < x - j by omega)]; congr 1; show x - j - 1 = x - (j + 1 : Nat); omega, rfl⟩ (by show x - (j + 1 : Nat) ≤ U; omega)
    rcases Int.le_total x y with h | h
    · have := up (Int.natAbs (x - y)) (by omega)
      rwa [show x + (Int.natAbs (x - y) : Int) = y by omega] at this
    · have := dn (Int.natAbs (x - y)) (by omega)
      rwa [show x - (Int.natAbs (x - y) : Int) = y by omega] at this
noncomputable def ringW (lo : Int) (d : Str) (sg : Str) (m : Int) : List Way := (List.range m.toNat).map fun k : Nat => ⟨lo + k, d, lo + ((k : Int) + 1) % m, sg⟩
theorem ring_mem {lo m : Int} {d sg : Str} {w : Way} (h : w ∈ ringW lo d sg m) : ∃ k : Nat, (k : Int) < m ∧ w = ⟨lo + k, d, lo + ((k : Int) + 1) % m, sg⟩ := by
  obtain ⟨k, hk, rfl⟩ := List.mem_map.mp h
  have := List.mem_range.mp hk
  exact ⟨k, by omega, rfl⟩
theorem mem_ring {lo m : Int} {d sg : Str} {k : Int} (h0 : 0 ≤ k) (h1 : k < m) : (⟨lo + k, d, lo + (k + 1) % m, sg⟩ : Way) ∈ ringW lo d sg m := by
  refine List.mem_map.mpr ⟨k.toNat, List.mem_range.mpr (by omega), ?_⟩
  rw [show ((k.toNat : Nat) : Int) = k by omega]
theorem mod_next (j : Nat) (m : Int) : ((j : Int) % m + 1) % m = ((j + 1 : Nat) : Int) % m := by
  rw [Int.emod_add_emod]
  rfl
theorem len1 {ws' : List Way} {m : Int} (m1 : 1 ≤ m) (he : WithIdle (ringW 0 "up" "a" m) ws') {U x y r : Int} (yU : y ≤ U) :
    LenIs ws' U (0, x) (r % m, y) (if x ≤ y ∧ (y - x - r) % m = 0 then y - x else -1) := by
  have lowb : ∀ {n : Nat} {p : Bfs.Pl}, Bfs.Wk (nxt ws' U) (0, x) n p → ∃ j : Nat, j ≤ n ∧ p.1 = (j : Int) % m ∧ p.2 = x + j := fun w => he.low (fun n p => ∃ j : Nat, j ≤ n ∧ p.1 = (j : Int) % m ∧ p.2 = x + j) ⟨0, Nat.le_refl _, by simp, by simp⟩ (fun n p h => by
      obtain ⟨j, h1, h2⟩ := h
      exact ⟨j, by omega, h2⟩) (fun n p q h hs => by
      obtain ⟨j, h1, h2, h3⟩ := h
      obtain ⟨w, hw, g1, g2, g3⟩ := hs
      obtain ⟨k, hk, rfl⟩ := ring_mem hw
      have := stp_up_iff g2
      refine ⟨j + 1, by omega, ?_, by omega⟩
      rw [g3]
      show 0 + ((k : Int) + 1) % m = _
      have g1' : (0 : Int) + k = p.1 := g1
      rw [show (k : Int) = (j : Int) % m by omega, mod_next]
      omega) w
  split
  · rename_i h
    have e := (Int.emod_eq_emod_iff_emod_sub_eq_zero (m := y - x) (k := r) (n := m)).mpr h.2
    have up : ∀ j : Nat, x + j ≤ U → Bfs.Wk (nxt ws' U) (0, x) j ((j : Int) % m, x + j) := by
      intro j
      induction j with
      | zero => intro _; simpa using Bfs.Wk.zero
      | succ j ih =>
        intro hU
        refine he.go (ih (by omega)) ⟨_, mem_ring (Int.emod_nonneg (j : Int) (by omega)) (Int.emod_lt_of_pos _ (by omega)), ?_, ?_, ?_⟩ hU
        · show 0 + (j : Int) % m = _
          omega
        · show stp "up" (x + j) = _
          rw [stp_up]; congr 1; show x + j + 1 = x + (j + 1 : Nat); omega
        · show _ = 0 + ((j : Int) % m + 1) % m
          rw [mod_next]; omega
    have w := up (y - x).toNat (by omega)
    rw [show x + ((y - x).toNat : Int) = y by omega, show (((y - x).toNat : Nat) : Int) % m = r % m by rw [show ((y - x).toNat : Int) = y - x by omega]; exact e] at w
    have := len_some (fun k w' => by
      obtain ⟨j, h1, _, h3⟩ := lowb w'
      dsimp only at h3
      omega) w
    rwa [show (((y - x).toNat : Nat) : Int) = y - x by omega] at this
  · rename_i h
    refine len_none fun k w => h ?_
    obtain ⟨j, h1, h2, h3⟩ := lowb w
    dsimp only at h2 h3
    refine ⟨by omega, ?_⟩
    rw [← Int.emod_eq_emod_iff_emod_sub_eq_zero, h2, show y - x = (j : Int) by omega]
theorem len2 {ws' : List Way} {m : Int} (m1 : 1 ≤ m) (he : WithIdle (ringW 0 "down" "c" m) ws') {U x y r : Int} (xU : x ≤ U) (y0 : 0 ≤ y) :
    LenIs ws' U (0, x) (r % m, y) (if y ≤ x ∧ (x - y - r) % m = 0 then x - y else -1) := by
  have lowb : ∀ {n : Nat} {p : Bfs.Pl}, Bfs.Wk (nxt ws' U) (0, x) n p → ∃ j : Nat, j ≤ n ∧ p.1 = (j : Int) % m ∧ p.2 = x - j := fun w => he.low (fun n p => ∃ j : Nat, j ≤ n ∧ p.1 = (j : Int) % m ∧ p.2 = x - j) ⟨0, Nat.le_refl _, by simp, by simp⟩ (fun n p h => by
      obtain ⟨j, h1, h2⟩ := h
      exact ⟨j, by omega, h2⟩) (fun n p q h hs => by
      obtain ⟨j, h1, h2, h3⟩ := h
      obtain ⟨w, hw, g1, g2, g3⟩ := hs
      obtain ⟨k, hk, rfl⟩ := ring_mem hw
      have := stp_down_iff g2
      refine ⟨j + 1, by omega, ?_, by omega⟩
      rw [g3]
      show 0 + ((k : Int) + 1) % m = _
      have g1' : (0 : Int) + k = p.1 := g1
      rw [show (k : Int) = (j : Int) % m by omega, mod_next]
      omega) w
  split
  · rename_i h
    have e := (Int.emod_eq_emod_iff_emod_sub_eq_zero (m := x - y) (k := r) (n := m)).mpr h.2
    have dn : ∀ j : Nat, (j : Int) ≤ x → Bfs.Wk (nxt ws' U) (0, x) j ((j : Int) % m, x - j) := by
      intro j
      induction j with
      | zero => intro _; simpa using Bfs.Wk.zero
      | succ j ih =>
        intro hU
        refine he.go (ih (by omega)) ⟨_, mem_ring (Int.emod_nonneg (j : Int) (by omega)) (Int.emod_lt_of_pos _ (by omega)), ?_, ?_, ?_⟩ (by show x - (j + 1 : Nat) ≤ U; omega)
        · show 0 + (j : Int) % m = _
          omega
        · show stp "down" (x - j) = _
          rw [stp_down_of (show 0 < x - j by omega)]; congr 1; show x - j - 1 = x - (j + 1 : Nat); omega
        · show _ = 0 + ((j : Int) % m + 1) % m
          rw [mod_next]; omega
    have w := dn (x - y).toNat (by omega)
    rw [show x - ((x - y).toNat : Int) = y by omega, show (((x - y).toNat : Nat) : Int) % m = r % m by rw [show ((x - y).toNat : Int) = x - y by omega]; exact e] at w
    have := len_some (fun k w' => by
      obtain ⟨j, h1, _, h3⟩ := lowb w'
      dsimp only at h3
      omega) w
    rwa [show (((x - y).toNat : Nat) : Int) = x - y by omega] at this
  · rename_i h
    refine len_none fun k w => h ?_
    obtain ⟨j, h1, h2, h3⟩ := lowb w
    dsimp only at h2 h3
    refine ⟨by omega, ?_⟩
    rw [← Int.emod_eq_emod_iff_emod_sub_eq_zero, h2, show x - y = (j : Int) by omega]
noncomputable def kw3 : List Way := [⟨0, "up", 0, "a"⟩, ⟨0, "down", 0, "b"⟩, ⟨0, "zero", 1, "c"⟩, ⟨1, "up", 1, "a"⟩]
theorem len3 {ws' : List Way} (he : WithIdle kw3 ws') {U x y : Int} (x0 : 0 ≤ x) (y0 : 0 ≤ y) (xU : x ≤ U) (yU : y ≤ U) : LenIs ws' U (0, x) (1, y) (x + 1 + y) := by
  have dn : ∀ j : Nat, (j : Int) ≤ x → Bfs.Wk (nxt ws' U) (0, x) j (0, x - j) := by
    intro j
    induction j with
    | zero => intro _; simpa using Bfs.Wk.zero
    | succ j ih =>
      intro h
      exact he.go (ih (by omega)) ⟨⟨0, "down", 0, "b"⟩, by simp [kw3], rfl, by rw [stp_down_of (show 0 < x - j by omega)]; congr 1; show x - j - 1 = x - (j + 1 : Nat); omega, rfl⟩ (by show x - (j + 1 : Nat) ≤ U; omega)
  have w1 := dn x.toNat (by omega)
  rw [show x - (x.toNat : Int) = 0 by omega] at w1
  have w2 : Bfs.Wk (nxt ws' U) (0, x) (x.toNat + 1) (1, 0) := he.go w1 ⟨⟨0, "zero", 1, "c"⟩, by simp [kw3], rfl, stp_zero_of, rfl⟩ (by show (0 : Int) ≤ U; omega)
  have up : ∀ j : Nat, (j : Int) ≤ U → Bfs.Wk (nxt ws' U) (0, x) (x.toNat + 1 + j) (1, j) := by
    intro j
    induction j with
    | zero => intro _; simpa using w2
    | succ j ih =>
      intro h
      exact he.go (ih (by omega)) ⟨⟨1, "up", 1, "a"⟩, by simp [kw3], rfl, by rw [stp_up]; congr 1, rfl⟩ h
  have w3 := up y.toNat (by omega)
  rw [show ((y.toNat : Nat) : Int) = y by omega] at w3
  have := len_some (fun k w => by
    have := he.low (fun n p => (p.1 = 0 ∧ x - p.2 ≤ n) ∨ (p.1 = 1 ∧ x + 1 + p.2 ≤ n)) (.inl ⟨rfl, by simp⟩) (fun n p h => by
      rcases h with h | h
      · exact .inl ⟨h.1, by omega⟩
      · exact .inr ⟨h.1, by omega⟩) (fun n p q h hs => by
      obtain ⟨w, hw, h1, h2, h3⟩ := hs
      rcases four_mem hw with rfl | rfl | rfl | rfl
      · have := stp_up_iff h2
        have h1' : (0 : Int) = p.1 := h1
        have h3' : q.1 = 0 := h3
        exact .inl ⟨h3', by omega⟩
      · have := stp_down_iff h2
        have h1' : (0 : Int) = p.1 := h1
        have h3' : q.1 = 0 := h3
        exact .inl ⟨h3', by omega⟩
      · have := stp_zero_iff h2
        have h1' : (0 : Int) = p.1 := h1
        have h3' : q.1 = 1 := h3
        exact .inr ⟨h3', by omega⟩
      · have := stp_up_iff h2
        have h1' : (1 : Int) = p.1 := h1
        have h3' : q.1 = 1 := h3
        exact .inr ⟨h3', by omega⟩) w
    dsimp only at this
    omega) w3
  rwa [show ((x.toNat + 1 + y.toNat : Nat) : Int) = x + 1 + y by omega] at this
noncomputable def clockW (up dn t : Int) : List Way := ringW 0 "up" "a" up ++ [⟨t % up, "stay", up, "b"⟩] ++ ringW up "down" "a" dn ++ [⟨up + t % dn, "zero", up + dn, "c"⟩]
noncomputable def clk (p q : Int) : Prop := (p = 5 ∧ q = 6) ∨ (p = 6 ∧ q = 5) ∨ (p = 4 ∧ q = 7) ∨ (p = 7 ∧ q = 4) ∨ (p = 3 ∧ q = 8) ∨ (p = 5 ∧ q = 4)
theorem clk_least {p q t : Int} {j : Nat} (h : clk p q) (t0 : 0 ≤ t) (t1 : t < p * q) (h1 : (j : Int) % p = t % p) (h2 : (j : Int) % q = t % q) : t ≤ j := by
  rcases h with ⟨rfl, rfl⟩ | ⟨rfl, rfl⟩ | ⟨rfl, rfl⟩ | ⟨rfl, rfl⟩ | ⟨rfl, rfl⟩ | ⟨rfl, rfl⟩ <;> omega
theorem clk_pos {p q : Int} (h : clk p q) : 1 ≤ p ∧ 1 ≤ q ∧ p + q ≤ 11 ∧ 9 ≤ p + q ∧ p * q ≤ 30 := by
  rcases h with ⟨rfl, rfl⟩ | ⟨rfl, rfl⟩ | ⟨rfl, rfl⟩ | ⟨rfl, rfl⟩ | ⟨rfl, rfl⟩ | ⟨rfl, rfl⟩ <;> decide
theorem clock_mem {up dn t : Int} {w : Way} (h : w ∈ clockW up dn t) : w ∈ ringW 0 "up" "a" up ∨ w = ⟨t % up, "stay", up, "b"⟩ ∨ w ∈ ringW up "down" "a" dn ∨ w = ⟨up + t % dn, "zero", up + dn, "c"⟩ := by
  unfold clockW at h
  rw [List.mem_append, List.mem_append, List.mem_append, List.mem_singleton, List.mem_singleton] at h
  rcases h with ((h | h) | h) | h
  · exact .inl h
  · exact .inr (.inl h)
  · exact .inr (.inr (.inl h))
  · exact .inr (.inr (.inr h))
theorem mem_clock {up dn t : Int} {w : Way} (h : w ∈ ringW 0 "up" "a" up ∨ w = ⟨t % up, "stay", up, "b"⟩ ∨ w ∈ ringW up "down" "a" dn ∨ w = ⟨up + t % dn, "zero", up + dn, "c"⟩) : w ∈ clockW up dn t := by
  unfold clockW
  rw [List.mem_append, List.mem_append, List.mem_append, List.mem_singleton, List.mem_singleton]
  rcases h with h | h | h | h
  · exact .inl (.inl (.inl h))
  · exact .inl (.inl (.inr h))
  · exact .inl (.inr h)
  · exact .inr h
theorem len4 {ws' : List Way} {up dn t : Int} (hc : clk up dn) (he : WithIdle (clockW up dn t) ws') {U : Int} (hU : 30 ≤ U) (t0 : 0 ≤ t) (t1 : t < up * dn) : LenIs ws' U (0, 0) (up + dn, 0) (2 * t + 2) := by
  obtain ⟨u1, d1, _, _, tt⟩ := clk_pos hc
  have m0 : ∀ j : Nat, 0 ≤ (j : Int) % up ∧ (j : Int) % up < up := fun j => ⟨Int.emod_nonneg _ (by omega), Int.emod_lt_of_pos _ (by omega)⟩
  have d0 : ∀ j : Nat, 0 ≤ (j : Int) % dn ∧ (j : Int) % dn < dn := fun j => ⟨Int.emod_nonneg _ (by omega), Int.emod_lt_of_pos _ (by omega)⟩
  have mt : 0 ≤ t % up ∧ t % up < up := ⟨Int.emod_nonneg _ (by omega), Int.emod_lt_of_pos _ (by omega)⟩
  have dt : 0 ≤ t % dn ∧ t % dn < dn := ⟨Int.emod_nonneg _ (by omega), Int.emod_lt_of_pos _ (by omega)⟩
  have wu : ∀ j : Nat, (j : Int) ≤ U → Bfs.Wk (nxt ws' U) (0, 0) j ((j : Int) % up, j) := by
    intro j
    induction j with
    | zero => intro _; simpa using Bfs.Wk.zero
    | succ j ih =>
      intro h
      refine he.go (ih (by omega)) ⟨_, mem_clock (.inl (mem_ring (m0 j).1 (m0 j).2)), ?_, ?_, ?_⟩ h
      · show 0 + (j : Int) % up = _
        omega
      · show stp "up" (j : Int) = _
        rw [stp_up]; rfl
      · show _ = 0 + ((j : Int) % up + 1) % up
        rw [mod_next]; omega
  have w1 := wu t.toNat (by omega)
  rw [show ((t.toNat : Nat) : Int) = t by omega] at w1
  have w2 : Bfs.Wk (nxt ws' U) (0, 0) (t.toNat + 1) (up, t) := he.go w1 ⟨_, mem_clock (.inr (.inl rfl)), rfl, by show stp "stay" t = _; rw [stp_stay], rfl⟩ (by show t ≤ U; omega)
  have wd : ∀ j : Nat, (j : Int) ≤ t → Bfs.Wk (nxt ws' U) (0, 0) (t.toNat + 1 + j) (up + (j : Int) % dn, t - j) := by
    intro j
    induction j with
    | zero => intro _; simpa using w2
    | succ j ih =>
      intro h
      refine he.go (ih (by omega)) ⟨_, mem_clock (.inr (.inr (.inl (mem_ring (d0 j).1 (d0 j).2)))), rfl, ?_, ?_⟩ (by show t - (j + 1 : Nat) ≤ U; omega)
      · show stp "down" (t - j) = _
        rw [stp_down_of (show 0 < t - j by omega)]; congr 1; show t - j - 1 = t - (j + 1 : Nat); omega
      · show _ = up + ((j : Int) % dn + 1) % dn
        rw [mod_next]
  have w3 := wd t.toNat (by omega)
  rw [show ((t.toNat : Nat) : Int) = t by omega, show t - t = 0 by omega] at w3
  have w4 : Bfs.Wk (nxt ws' U) (0, 0) (t.toNat + 1 + t.toNat + 1) (up + dn, 0) := he.go w3 ⟨_, mem_clock (.inr (.inr (.inr rfl))), rfl, stp_zero_of, rfl⟩ (by show (0 : Int) ≤ U; omega)
  have := len_some (fun k w => by
    have := he.low (fun n p => (∃ j : Nat, j ≤ n ∧ p.1 = (j : Int) % up ∧ p.2 = j) ∨ (∃ i j : Nat, (j : Int) % up = t % up ∧ i ≤ j ∧ p.1 = up + (i : Int) % dn ∧ p.2 = (j : Int) - i ∧ j + 1 + i ≤ n) ∨ (∃ j : Nat, (j : Int) % up = t % up ∧ (j : Int) % dn = t % dn ∧ p.1 = up + dn ∧ p.2 = 0 ∧ 2 * j + 2 ≤ n)) (.inl ⟨0, Nat.le_refl _, by simp, by simp⟩) (fun n p h => by
      rcases h with ⟨j, h1, h2⟩ | ⟨i, j, h1, h2, h3, h4, h5⟩ | ⟨j, h1, h2, h3, h4, h5⟩
      · exact .inl ⟨j, by omega, h2⟩
      · exact .inr (.inl ⟨i, j, h1, h2, h3, h4, by omega⟩)
      · exact .inr (.inr ⟨j, h1, h2, h3, h4, by omega⟩)) (fun n p q h hs => by
      obtain ⟨w, hw, g1, g2, g3⟩ := hs
      rcases clock_mem hw with hw | rfl | hw | rfl
      · obtain ⟨k, hk, rfl⟩ := ring_mem hw
        have g1' : (0 : Int) + k = p.1 := g1
        have g3' : q.1 = 0 + ((k : Int) + 1) % up := g3
        have g2' := stp_up_iff g2
        rcases h with ⟨j, h1, h2, h3⟩ | ⟨i, j, h1, h2, h3, h4, h5⟩ | ⟨j, h1, h2, h3, h4, h5⟩
        · refine .inl ⟨j + 1, by omega, ?_, by omega⟩
          rw [g3', show (k : Int) = (j : Int) % up by omega, mod_next]; omega
        · have := d0 i; omega
        · omega
      · have g1' : t % up = p.1 := g1
        have g3' : q.1 = up := g3
        have g2' := stp_stay_iff g2
        rcases h with ⟨j, h1, h2, h3⟩ | ⟨i, j, h1, h2, h3, h4, h5⟩ | ⟨j, h1, h2, h3, h4, h5⟩
        · exact .inr (.inl ⟨0, j, by omega, by omega, by simpa using g3', by simp; omega, by omega⟩)
        · have := d0 i; omega
        · omega
      · obtain ⟨k, hk, rfl⟩ := ring_mem hw
        have g1' : up + k = p.1 := g1
        have g3' : q.1 = up + ((k : Int) + 1) % dn := g3
        have g2' := stp_down_iff g2
        rcases h with ⟨j, h1, h2, h3⟩ | ⟨i, j, h1, h2, h3, h4, h5⟩ | ⟨j, h1, h2, h3, h4, h5⟩
        · have := m0 j; omega
        · refine .inr (.inl ⟨i + 1, j, h1, by omega, ?_, by omega, by omega⟩)
          rw [g3', show (k : Int) = (i : Int) % dn by omega, mod_next]
        · omega
      · have g1' : up + t % dn = p.1 := g1
        have g3' : q.1 = up + dn := g3
        have g2' := stp_zero_iff g2
        rcases h with ⟨j, h1, h2, h3⟩ | ⟨i, j, h1, h2, h3, h4, h5⟩ | ⟨j, h1, h2, h3, h4, h5⟩
        · have := m0 j; omega
        · have hij : i = j := by omega
          subst hij
          exact .inr (.inr ⟨i, h1, by omega, g3', by omega, by omega⟩)
        · omega) w
    rcases this with ⟨j, h1, h2, h3⟩ | ⟨i, j, h1, h2, h3, h4, h5⟩ | ⟨j, h1, h2, h3, h4, h5⟩
    · have := m0 j; dsimp only at h2; omega
    · have := d0 i; dsimp only at h3; omega
    · have := clk_least hc t0 t1 h1 h2; omega) w4
  rwa [show ((t.toNat + 1 + t.toNat + 1 : Nat) : Int) = 2 * t + 2 by omega] at this
end My
set_option Elab.async false
set_option linter.all false
set_option maxRecDepth 100000
namespace My
open PySem L2 St
set_option maxHeartbeats 4000000
local macro_rules | `(tactic| walk_at "cond") => `(tactic| first | decide | omega | (dsimp only; omega) | (unfold CMul; omega) | (unfold CPow; exact ⟨by decide, by decide, by decide⟩) | (dsimp only; exact ⟨by omega, by omega⟩) | exact .inr ⟨by decide, by decide⟩ | exact .inl ⟨by decide, by decide⟩ | (unfold SmallR; omega))
local macro_rules | `(tactic| walk_at "sq") => `(tactic| first | assumption | exact SqL.of (by assumption) | exact SqT.of (by assumption) | exact SqL.of (by solve_by_elim) | exact SqT.of (by solve_by_elim) | solve_by_elim)
local macro_rules | `(tactic| walk_at "rd") => `(tactic| repeat (first | with_reducible refine rd_seq ?_ | with_reducible refine rd_ret ?_ | with_reducible refine rd_retN ?_ | with_reducible refine rd_asg ?_ | with_reducible refine rd_drop ?_ | with_reducible refine rd_ifS ?_ | with_reducible refine rd_next ?_ | with_reducible refine rd_name ?_ | ((with_reducible apply rd_var); (exact rfl)) | with_reducible refine rd_c ?_ | with_reducible refine rd_op ?_ | with_reducible refine rd_un ?_ | with_reducible refine rd_CB ?_ | with_reducible refine rd_cons ?_ | with_reducible refine rd_nil ?_ | with_reducible refine rd_ints ?_ | with_reducible refine rd_test ?_ | with_reducible refine rd_B ?_ | with_reducible refine rd_exb ?_ | with_reducible refine rd_not ?_ | with_reducible refine rd_and ?_ | with_reducible refine rd_or ?_ | with_reducible refine rd_andV ?_ | with_reducible refine rd_orV ?_ | with_reducible refine rd_notV ?_ | with_reducible refine rd_ifE ?_ | with_reducible refine rd_yes ?_ | with_reducible refine rd_I0 ?_ | ((with_reducible apply rd_I); (walk_at "cond")) | with_reducible refine rd_U ?_ | with_reducible refine rd_EqI ?_ | with_reducible refine rd_NeI ?_ | with_reducible refine rd_EqB ?_ | with_reducible refine rd_NeB ?_ | with_reducible refine rd_call ?_ | with_reducible refine rd_BM ?_ | with_reducible refine rd_tup ?_ | with_reducible refine rd_lst ?_ | with_reducible refine rd_sl ?_ | with_reducible refine rd_noPart ?_ | with_reducible refine rd_part ?_ | with_reducible refine rd_exi ?_ | with_reducible refine rd_chain ?_ | with_reducible refine rd_comp ?_ | with_reducible refine rd_iL ?_ | with_reducible refine rd_iT ?_ | with_reducible refine rd_i1 ?_ | with_reducible refine rd_i2 ?_ | with_reducible refine rd_i3 ?_ | with_reducible refine rd_for ?_ | with_reducible refine rd_tTru ?_ | with_reducible refine rd_intB ?_ | with_reducible refine rd_max2 ?_ | with_reducible refine rd_min2 ?_ | with_reducible refine rd_sub ?_ | with_reducible refine rd_gcons ?_ | with_reducible refine rd_gnil ?_ | ((with_reducible apply rd_aug); (exact rfl)) | with_reducible refine rd_ipI ?_ | with_reducible refine rd_zip ?_ | with_reducible refine rd_rev ?_ | with_reducible refine rd_par ?_ | with_reducible refine rd_par2 ?_ | with_reducible refine rd_lam ?_ | with_reducible refine rd_calV ?_ | with_reducible refine rd_raise ?_ | with_reducible refine rd_fs ?_ | with_reducible refine rd_try ?_ | with_reducible refine rd_bseq ?_ | with_reducible refine rd_bnext ?_ | with_reducible refine rd_bplain ?_ | with_reducible refine rd_bif ?_ | with_reducible refine rd_bcall ?_ | with_reducible refine rd_enum ?_ | with_reducible refine rd_gget ?_ | with_reducible refine rd_gin ?_ | with_reducible refine rd_revL ?_ | with_reducible refine rd_leS ?_ | with_reducible refine rd_disp ?_ | with_reducible refine rd_dget ?_ | with_reducible refine rd_lrev ?_ | with_reducible refine rd_disp1 ?_ | with_reducible refine rd_din ?_ | with_reducible refine rd_dnin ?_ | with_reducible refine rd_dput ?_ | with_reducible refine rd_min3 ?_ | dsimp only))
structure KnownH (m : Int) (ws : List Way) (o : Int) : Prop where
  m1 : 1 ≤ m
  m2 : m ≤ 12
  ok : ∀ w ∈ ws, w.Ok m
  nd : ws.Nodup
  sg : ∀ w ∈ ws, ∃ c : Nat, c ≤ 99 ∧ w.sign = ⟨#[c]⟩
  l0 : 0 < ws.length
  l1 : ws.length ≤ 24
  o0 : 0 ≤ o
  o1 : o < m
theorem s_a : (Str.ofString "a") = ⟨#[97]⟩ := by decide +kernel
theorem s_b : (Str.ofString "b") = ⟨#[98]⟩ := by decide +kernel
theorem s_c : (Str.ofString "c") = ⟨#[99]⟩ := by decide +kernel
theorem AlW.app {H : Hp} {bs cs : List Addr} {ws us : List Way} (h : AlW H bs ws) (g : AlW H cs us) : AlW H (bs ++ cs) (ws ++ us) := by
  refine ⟨by rw [List.length_append, List.length_append, h.1, g.1], fun j b w e1 e2 => ?_⟩
  rcases Nat.lt_or_ge j bs.length with l | l
  · rw [List.getElem?_append_left l] at e1
    rw [List.getElem?_append_left (by rw [← h.1]; exact l)] at e2
    exact h.2 j b w e1 e2
  · rw [List.getElem?_append_right l] at e1
    rw [List.getElem?_append_right (by rw [← h.1]; exact l), ← h.1] at e2
    exact g.2 _ b w e1 e2
theorem AlW.take {H : Hp} {bs : List Addr} {ws : List Way} (h : AlW H bs ws) (n : Nat) : AlW H (bs.take n) (ws.take n) := by
  refine ⟨by rw [List.length_take, List.length_take, h.1], fun j b w e1 e2 => ?_⟩
  rw [List.getElem?_take] at e1 e2
  split at e1
  · rename_i hj
    rw [if_pos hj] at e2
    exact h.2 j b w e1 e2
  · cases e1
theorem AlW.drop {H : Hp} {bs : List Addr} {ws : List Way} (h : AlW H bs ws) (n : Nat) : AlW H (bs.drop n) (ws.drop n) := by
  refine ⟨by rw [List.length_drop, List.length_drop, h.1], fun j b w e1 e2 => ?_⟩
  rw [List.getElem?_drop] at e1 e2
  exact h.2 _ b w e1 e2
theorem AlW.one {H : Hp} {b : Addr} {w : Way} (h : H b = some (.tup w.vs)) : AlW H [b] [w] := (AlW.nil H).snoc h
theorem kn0 : KnownH 1 kw0 0 where
  m1 := by decide
  m2 := by decide
  ok w hw := by
    rcases two_mem hw with rfl | rfl
    · exact ⟨by decide, by decide, by decide, by decide, okU, sgA⟩
    · exact ⟨by decide, by decide, by decide, by decide, okDn, sgB⟩
  nd := by decide +kernel
  sg w hw := by
    rcases two_mem hw with rfl | rfl
    · exact ⟨97, by decide, s_a⟩
    · exact ⟨98, by decide, s_b⟩
  l0 := by decide
  l1 := by decide
  o0 := by decide
  o1 := by decide
theorem kn3 : KnownH 2 kw3 1 where
  m1 := by decide
  m2 := by decide
  ok w hw := by
    rcases four_mem hw with rfl | rfl | rfl | rfl
    · exact ⟨by decide, by decide, by decide, by decide, okU, sgA⟩
    · exact ⟨by decide, by decide, by decide, by decide, okDn, sgB⟩
    · exact ⟨by decide, by decide, by decide, by decide, okZ, sgC⟩
    · exact ⟨by decide, by decide, by decide, by decide, okU, sgA⟩
  nd := by decide +kernel
  sg w hw := by
    rcases four_mem hw with rfl | rfl | rfl | rfl
    · exact ⟨97, by decide, s_a⟩
    · exact ⟨98, by decide, s_b⟩
    · exact ⟨99, by decide, s_c⟩
    · exact ⟨97, by decide, s_a⟩
  l0 := by decide
  l1 := by decide
  o0 := by decide
  o1 := by decide
theorem ring_len (lo m : Int) (d sg : Str) : (ringW lo d sg m).length = m.toNat := by
  unfold ringW
  rw [List.length_map, List.length_range]
theorem ring_nd (lo m : Int) (d sg : Str) : (ringW lo d sg m).Nodup := by
  unfold ringW List.Nodup
  rw [List.pairwise_map]
  refine List.Pairwise.imp ?_ (List.pairwise_lt_range (n := m.toNat))
  intro a b hab e
  have := congrArg Way.room e
  dsimp only at this
  omega
theorem ring_take {lo m : Int} {d sg : Str} {i : Nat} (h : i < m.toNat) : (ringW lo d sg m).take (i + 1) = (ringW lo d sg m).take i ++ [⟨lo + i, d, lo + ((i : Int) + 1) % m, sg⟩] := by
  rw [List.take_succ]
  congr 1
  unfold ringW
  rw [List.getElem?_map, List.getElem?_range h]
  rfl
theorem ring_ok {lo m M : Int} {d sg : Str} (m1 : 1 ≤ m) (l0 : 0 ≤ lo) (lM : lo + m ≤ M) (hd : okDeed d) (hs : okSign sg) : ∀ w ∈ ringW lo d sg m, w.Ok M := by
  intro w hw
  obtain ⟨k, hk, rfl⟩ := ring_mem hw
  have h1 := Int.emod_nonneg ((k : Int) + 1) (show m ≠ 0 by omega)
  have h2 := Int.emod_lt_of_pos ((k : Int) + 1) (show 0 < m by omega)
  exact ⟨by show 0 ≤ lo + (k : Int); omega, by show lo + (k : Int) < M; omega, by show 0 ≤ lo + ((k : Int) + 1) % m; omega, by show lo + ((k : Int) + 1) % m < M; omega, hd, hs⟩
theorem kn1 {m r : Int} {d sg : Str} {c : Nat} (m1 : 1 ≤ m) (m2 : m ≤ 12) (hd : okDeed d) (hs : okSign sg) (hc : c ≤ 99) (hsg : sg = ⟨#[c]⟩) : KnownH m (ringW 0 d sg m) (r % m) where
  m1 := m1
  m2 := m2
  ok := ring_ok m1 (by decide) (by omega) hd hs
  nd := ring_nd _ _ _ _
  sg w hw := by
    obtain ⟨k, hk, rfl⟩ := ring_mem hw
    exact ⟨c, hc, hsg⟩
  l0 := by rw [ring_len]; omega
  l1 := by rw [ring_len]; omega
  o0 := Int.emod_nonneg _ (by omega)
  o1 := Int.emod_lt_of_pos _ (by omega)
theorem kn4 {up dn t : Int} (hc : clk up dn) (t0 : 0 ≤ t) : KnownH (up + dn + 1) (clockW up dn t) (up + dn) := by
  obtain ⟨u1, d1, h11, h9, _⟩ := clk_pos hc
  have mt : 0 ≤ t % up ∧ t % up < up := ⟨Int.emod_nonneg _ (by omega), Int.emod_lt_of_pos _ (by omega)⟩
  have dt : 0 ≤ t % dn ∧ t % dn < dn := ⟨Int.emod_nonneg _ (by omega), Int.emod_lt_of_pos _ (by omega)⟩
  refine ⟨by omega, by omega, ?_, ?_, ?_, ?_, ?_, by omega, by omega⟩
  · intro w hw
    rcases clock_mem hw with h | rfl | h | rfl
    · exact ring_ok u1 (by decide) (by omega) okU sgA w h
    · exact ⟨mt.1, by show t % up < _; omega, by show 0 ≤ up; omega, by show up < _; omega, okS, sgB⟩
    · exact ring_ok d1 (by omega) (by omega) okDn sgA w h
    · exact ⟨by show 0 ≤ up + t % dn; omega, by show up + t % dn < _; omega, by show 0 ≤ up + dn; omega, by show up + dn < _; omega, okZ, sgC⟩
  · have nUS : (Str.ofString "up") ≠ Str.ofString "stay" := by decide +kernel
    have nUD : (Str.ofString "up") ≠ Str.ofString "down" := by decide +kernel
    have nSD : (Str.ofString "stay") ≠ Str.ofString "down" := by decide +kernel
    have nUZ : (Str.ofString "up") ≠ Str.ofString "zero" := by decide +kernel
    have nSZ : (Str.ofString "stay") ≠ Str.ofString "zero" := by decide +kernel
    have nDZ : (Str.ofString "down") ≠ Str.ofString "zero" := by decide +kernel
    unfold clockW
    rw [List.nodup_append, List.nodup_append, List.nodup_append]
    refine ⟨⟨⟨ring_nd _ _ _ _, by simp, fun a ha b hb e => ?_⟩, ring_nd _ _ _ _, fun a ha b hb e => ?_⟩, by simp, fun a ha b hb e => ?_⟩
    · obtain ⟨k, _, rfl⟩ := ring_mem ha
      rw [List.mem_singleton] at hb
      subst hb
      exact nUS (congrArg Way.deed e)
    · obtain ⟨k, _, rfl⟩ := ring_mem hb
      rcases List.mem_append.mp ha with h | h
      · obtain ⟨k', _, rfl⟩ := ring_mem h
        exact nUD (congrArg Way.deed e)
      · rw [List.mem_singleton] at h
        subst h
        exact nSD (congrArg Way.deed e)
    · rw [List.mem_singleton] at hb
      subst hb
      rcases List.mem_append.mp ha with h | h
      · rcases List.mem_append.mp h with h | h
        · obtain ⟨k', _, rfl⟩ := ring_mem h
          exact nUZ (congrArg Way.deed e)
        · rw [List.mem_singleton] at h
          subst h
          exact nSZ (congrArg Way.deed e)
      · obtain ⟨k', _, rfl⟩ := ring_mem h
        exact nDZ (congrArg Way.deed e)
  · intro w hw
    rcases clock_mem hw with h | rfl | h | rfl
    · obtain ⟨k, _, rfl⟩ := ring_mem h
      exact ⟨97, by decide, s_a⟩
    · exact ⟨98, by decide, s_b⟩
    · obtain ⟨k, _, rfl⟩ := ring_mem h
      exact ⟨97, by decide, s_a⟩
    · exact ⟨99, by decide, s_c⟩
  · unfold clockW
    rw [List.length_append]
    simp
  · unfold clockW
    rw [List.length_append, List.length_append, List.length_append, ring_len, ring_len]
    simp
    omega
noncomputable def sp__law_known (K : PySem.W.Frag) : Sp := fun vs H Q _ => ∃ w m x y r, vs = [.int w, .int m, .int x, .int y, .int r] ∧ 1 ≤ m ∧ m ≤ 12 ∧ 0 ≤ x ∧ x ≤ 1000 ∧ 0 ≤ y ∧ y ≤ 1000 ∧
  ∀ t v mm ws o z H', Ext H H' → H' t = some (.tup [v, .int o, .int z]) → HouseAt H' v mm ws → KnownH mm ws o → (∀ ws' U, WithIdle ws ws' → x ≤ U → y ≤ U → LenIs ws' U (0, x) (o, y) z) → z ≤ 2001 → Q (.ref t) H'
noncomputable abbrev s__law_known : Stmt := top 46
theorem sc__law_known : FnScope ["_law_way", "_law_many", "_law_x", "_law_y", "_law_room", "_law_ways"] ["_law_way", "_law_many", "_law_x", "_law_y", "_law_room"] (defScope s__law_known) := ⟨rfl, rfl, rfl, by decide +kernel, rfl, by decide +kernel, by decide +kernel⟩
theorem ok__law_known {P : Program} {w : World} {K : PySem.W.Frag} {mg : Str → Option Value} {base : Heap} (D : Dfn K mg "_law_known" s__law_known ["_law_way", "_law_many", "_law_x", "_law_y", "_law_room"]) (T : Blt mg) : Cal P w K mg base "_law_known" 1 ["_law_way", "_law_many", "_law_x", "_law_y", "_law_room"] (sp__law_known K) := by
  have nd := (sc__law_known).nd
  refine D.ok sc__law_known (fun vs H Q E h => ?_) (fun X hX H vs Q E h => ?_)
  · obtain ⟨w, m, x, y, r, rfl, _⟩ := h; rfl
  · obtain ⟨f, cdv, A, outer, s, H0, E0, rfl, hr⟩ := hX
    obtain ⟨w, m, x, y, r, rfl, m1, m2, x0, x1, y0, y1, q⟩ := h
    refine ⟨_, (no_implicit_lambda% (@pss_cons _ _ _ _ _ (no_implicit_lambda% (@ps_if _ _ _ _ _ _ _ _ (no_implicit_lambda% (pt_cmpR op_eq (no_implicit_lambda% (pv 0)) pe_int (nomark _))) (no_implicit_lambda% (@pss_one _ _ _ (no_implicit_lambda% (@ps_ret _ _ _ _ (no_implicit_lambda% (@pe_tup _ _ _ _ _ (no_implicit_lambda% (@pa_lit _ _ _ _ _ (.tup (.cons .int (.cons (.tup (.cons (.tup (.cons .int (.cons .str (.cons .int (.cons .str .nil))))) (.cons (.tup (.cons .int (.cons .str (.cons .int (.cons .str .nil))))) .nil))) .nil))) (no_implicit_lambda% (@pa_cons _ _ _ _ _ pe_int (no_implicit_lambda% (@pa_cons _ _ _ _ _ (no_implicit_lambda% (pe_callB call_abs rfl T.abs_ PyProof.Rows.boot_abs (no_implicit_lambda% (@pa_cons _ _ _ _ _ (no_implicit_lambda% (pe_op op_sub (no_implicit_lambda% (pv 2)) (no_implicit_lambda% (pv 3)))) pa_nil rfl)))) pa_nil rfl)) rfl)))))))))) pss_nil))
        (no_implicit_lambda% (@pss_cons _ _ _ _ _ (no_implicit_lambda% (@ps_if _ _ _ _ _ _ _ _ (no_implicit_lambda% (pt_cmpR op_eq (no_implicit_lambda% (pv 0)) pe_int (nomark _))) (no_implicit_lambda% (@pss_cons _ _ _ _ _ (no_implicit_lambda% (ps_setComp (i := 5) ["_law_k"] [1] nd rfl (Or.inl rfl) (no_implicit_lambda% (pi_range1 rfl T.range_ (no_implicit_lambda% (@pa_cons _ _ _ _ _ (no_implicit_lambda% (pv 1)) pa_nil rfl)))) (fun _ => (no_implicit_lambda% (pg_name (i := 0) (show (["_law_k", "_law_many"] : List Str).Nodup from by decide +kernel) rfl (Or.inl rfl) (Or.inr rfl)))) (fun _ => pcs_nil) (fun _ => (no_implicit_lambda% (@pe_tup _ _ _ _ _ (no_implicit_lambda% (@pa_cons _ _ _ _ _ (no_implicit_lambda% (pv 0)) (no_implicit_lambda% (@pa_cons _ _ _ _ _ pe_str (no_implicit_lambda% (@pa_cons _ _ _ _ _ (no_implicit_lambda% (pe_op op_mod (no_implicit_lambda% (pe_op op_add (no_implicit_lambda% (pv 0)) pe_int)) (no_implicit_lambda% (pv 1)))) (no_implicit_lambda% (@pa_cons _ _ _ _ _ pe_str pa_nil rfl)) rfl)) rfl)) rfl)))))))
        (no_implicit_lambda% (@pss_one _ _ _ (no_implicit_lambda% (@ps_ret _ _ _ _ (no_implicit_lambda% (@pe_tup _ _ _ _ _ (no_implicit_lambda% (@pa_cons _ _ _ _ _ (no_implicit_lambda% (@pe_tup _ _ _ _ _ (no_implicit_lambda% (@pa_cons _ _ _ _ _ (no_implicit_lambda% (pv 1)) (no_implicit_lambda% (@pa_cons _ _ _ _ _ (no_implicit_lambda% (pe_callTy (call_tupK K) rfl T.tuple_ PyProof.Rows.boot_tuple (no_implicit_lambda% (@pa_cons _ _ _ _ _ (no_implicit_lambda% (pv 5)) pa_nil rfl)))) pa_nil rfl)) rfl)))) (no_implicit_lambda% (@pa_cons _ _ _ _ _ (no_implicit_lambda% (pe_op op_mod (no_implicit_lambda% (pv 4)) (no_implicit_lambda% (pv 1)))) (no_implicit_lambda% (@pa_cons _ _ _ _ _ (no_implicit_lambda% (@pe_ix _ _ _ _ _ _ _ (ix_listK K) (no_implicit_lambda% (@pe_lst _ _ _ _ (no_implicit_lambda% (@pa_cons _ _ _ _ _ (no_implicit_lambda% (pe_un un_neg pe_int)) (no_implicit_lambda% (@pa_cons _ _ _ _ _ (no_implicit_lambda% (pe_op op_sub (no_implicit_lambda% (pv 3)) (no_implicit_lambda% (pv 2)))) pa_nil rfl)) rfl)))) (no_implicit_lambda% (pe_callTy call_intN rfl T.int_ PyProof.Rows.boot_int (no_implicit_lambda% (@pa_cons _ _ _ _ _ (no_implicit_lambda% (pe_and (no_implicit_lambda% (pe_cmpR op_ge (no_implicit_lambda% (pv 3)) (no_implicit_lambda% (pv 2)) (nomark _))) (pe_one (no_implicit_lambda% (pe_cmpR op_eq (no_implicit_lambda% (pe_op op_mod (no_implicit_lambda% (pe_op op_sub (no_implicit_lambda% (pe_op op_sub (no_implicit_lambda% (pv 3)) (no_implicit_lambda% (pv 2)))) (no_implicit_lambda% (pv 4)))) (no_implicit_lambda% (pv 1)))) pe_int (nomark _)))))) pa_nil rfl)))) (fun _ _ => rfl))) pa_nil rfl)) rfl)) rfl)))))))))) pss_nil))
        (no_implicit_lambda% (@pss_cons _ _ _ _ _ (no_implicit_lambda% (@ps_if _ _ _ _ _ _ _ _ (no_implicit_lambda% (pt_cmpR op_eq (no_implicit_lambda% (pv 0)) pe_int (nomark _))) (no_implicit_lambda% (@pss_cons _ _ _ _ _ (no_implicit_lambda% (ps_setComp (i := 5) ["_law_k"] [1] nd rfl (Or.inl rfl) (no_implicit_lambda% (pi_range1 rfl T.range_ (no_implicit_lambda% (@pa_cons _ _ _ _ _ (no_implicit_lambda% (pv 1)) pa_nil rfl)))) (fun _ => (no_implicit_lambda% (pg_name (i := 0) (show (["_law_k", "_law_many"] : List Str).Nodup from by decide +kernel) rfl (Or.inl rfl) (Or.inr rfl)))) (fun _ => pcs_nil) (fun _ => (no_implicit_lambda% (@pe_tup _ _ _ _ _ (no_implicit_lambda% (@pa_cons _ _ _ _ _ (no_implicit_lambda% (pv 0)) (no_implicit_lambda% (@pa_cons _ _ _ _ _ pe_str (no_implicit_lambda% (@pa_cons _ _ _ _ _ (no_implicit_lambda% (pe_op op_mod (no_implicit_lambda% (pe_op op_add (no_implicit_lambda% (pv 0)) pe_int)) (no_implicit_lambda% (pv 1)))) (no_implicit_lambda% (@pa_cons _ _ _ _ _ pe_str pa_nil rfl)) rfl)) rfl)) rfl)))))))
        (no_implicit_lambda% (@pss_one _ _ _ (no_implicit_lambda% (@ps_ret _ _ _ _ (no_implicit_lambda% (@pe_tup _ _ _ _ _ (no_implicit_lambda% (@pa_cons _ _ _ _ _ (no_implicit_lambda% (@pe_tup _ _ _ _ _ (no_implicit_lambda% (@pa_cons _ _ _ _ _ (no_implicit_lambda% (pv 1)) (no_implicit_lambda% (@pa_cons _ _ _ _ _ (no_implicit_lambda% (pe_callTy (call_tupK K) rfl T.tuple_ PyProof.Rows.boot_tuple (no_implicit_lambda% (@pa_cons _ _ _ _ _ (no_implicit_lambda% (pv 5)) pa_nil rfl)))) pa_nil rfl)) rfl)))) (no_implicit_lambda% (@pa_cons _ _ _ _ _ (no_implicit_lambda% (pe_op op_mod (no_implicit_lambda% (pv 4)) (no_implicit_lambda% (pv 1)))) (no_implicit_lambda% (@pa_cons _ _ _ _ _ (no_implicit_lambda% (@pe_ix _ _ _ _ _ _ _ (ix_listK K) (no_implicit_lambda% (@pe_lst _ _ _ _ (no_implicit_lambda% (@pa_cons _ _ _ _ _ (no_implicit_lambda% (pe_un un_neg pe_int)) (no_implicit_lambda% (@pa_cons _ _ _ _ _ (no_implicit_lambda% (pe_op op_sub (no_implicit_lambda% (pv 2)) (no_implicit_lambda% (pv 3)))) pa_nil rfl)) rfl)))) (no_implicit_lambda% (pe_callTy call_intN rfl T.int_ PyProof.Rows.boot_int (no_implicit_lambda% (@pa_cons _ _ _ _ _ (no_implicit_lambda% (pe_and (no_implicit_lambda% (pe_cmpR op_ge (no_implicit_lambda% (pv 2)) (no_implicit_lambda% (pv 3)) (nomark _))) (pe_one (no_implicit_lambda% (pe_cmpR op_eq (no_implicit_lambda% (pe_op op_mod (no_implicit_lambda% (pe_op op_sub (no_implicit_lambda% (pe_op op_sub (no_implicit_lambda% (pv 2)) (no_implicit_lambda% (pv 3)))) (no_implicit_lambda% (pv 4)))) (no_implicit_lambda% (pv 1)))) pe_int (nomark _)))))) pa_nil rfl)))) (fun _ _ => rfl))) pa_nil rfl)) rfl)) rfl)))))))))) pss_nil))
        (no_implicit_lambda% (@pss_one _ _ _ (no_implicit_lambda% (@ps_ret _ _ _ _ (no_implicit_lambda% (@pe_tup _ _ _ _ _ (no_implicit_lambda% (@pa_lit _ _ _ _ _ (.tup (.cons .int (.cons (.tup (.cons (.tup (.cons .int (.cons .str (.cons .int (.cons .str .nil))))) (.cons (.tup (.cons .int (.cons .str (.cons .int (.cons .str .nil))))) (.cons (.tup (.cons .int (.cons .str (.cons .int (.cons .str .nil))))) (.cons (.tup (.cons .int (.cons .str (.cons .int (.cons .str .nil))))) .nil))))) .nil))) (no_implicit_lambda% (@pa_cons _ _ _ _ _ pe_int (no_implicit_lambda% (@pa_cons _ _ _ _ _ (no_implicit_lambda% (pe_op op_add (no_implicit_lambda% (pe_op op_add (no_implicit_lambda% (pv 2)) pe_int)) (no_implicit_lambda% (pv 3)))) pa_nil rfl)) rfl)))))))))))))))), ?_⟩
    walk_at "rd"
    refine ite2 (fun h => ?_) (fun h => ?_)
    · walk_at "rd"
      refine ⟨small_line (by simp), rd_new fun a1 H1 e1 h1 _ => ?_⟩
      walk_at "rd"
      refine ⟨small_line (by simp), rd_new fun a2 H2 e2 h2 _ => ?_⟩
      walk_at "rd"
      refine ⟨small_line (by simp), rd_new fun a3 H3 e3 h3 _ => ?_⟩
      walk_at "rd"
      refine ⟨small_line (by simp), rd_new fun a4 H4 e4 h4 _ => ?_⟩
      walk_at "rd"
      refine ⟨_, rfl, ?_⟩
      walk_at "rd"
      refine ⟨small_line (by simp), rd_new fun a5 H5 e5 h5 _ => ?_⟩
      have al : AlW H3 [a1, a2] kw0 := ((AlW.nil H3).snoc (w := ⟨0, "up", 0, "a"⟩) ((e2.trans e3) _ _ h1)).snoc (w := ⟨0, "down", 0, "b"⟩) (e3 _ _ h2)
      refine q a5 _ 1 kw0 0 _ H5 (e1.trans (e2.trans (e3.trans (e4.trans e5)))) h5 ((HouseAt.mk h4 ((al.ways h3).ext e4)).ext e5) kn0 (fun ws' U he hx hy => ?_) (by split <;> omega)
      have := len0 he x0 y0 hx hy
      rwa [show ((Int.natAbs (x - y) : Nat) : Int) = if x - y < 0 then -(x - y) else x - y by split <;> omega] at this
    · walk_at "rd"
      refine ite2 (fun h => ?_) (fun h => ?_)
      · walk_at "rd"
        refine rd_i1x ⟨by omega, by omega⟩ ?_
        refine comp_range (fun i ys H' => Ext H H' ∧ ∃ cs : List Addr, ys = cs.map V.ref ∧ AlW H' cs ((ringW 0 "up" "a" m).take i)) (small9 (by omega)) ⟨Ext.rfl' _, [], rfl, AlW.nil _⟩ (fun i ys H' _ h => by obtain ⟨_, cs, rfl, hc⟩ := h; rw [List.length_map, hc.1, List.length_take]; omega) ?_ ?_
        · rintro i ys H1 hi ⟨e1, cs, rfl, al⟩
          walk_at "rd"
          refine iteT ?_
          walk_at "rd"
          try refine rd_I (show (0 : Int) < m by omega) ?_
          walk_at "rd"
          refine ⟨small_line (by simp), rd_new fun c H2 e2 hc _ => ?_⟩
          refine ⟨e1.trans e2, cs ++ [c], by rw [List.map_append]; rfl, ?_⟩
          rw [ring_take hi]
          refine (al.ext e2).snoc ?_
          rw [hc]
          simp only [Way.vs, Int.zero_add]
        · rintro ys H1 l ⟨e1, cs, rfl, al⟩ hl
          rw [List.take_of_length_le (by rw [ring_len]; exact Nat.le_refl _)] at al
          have al' := al.ext (ext_upd (o := .lst (cs.map V.ref)) hl)
          have e1' : Ext H (upd H1 l (.lst (cs.map V.ref))) := e1.trans (ext_upd hl)
          have hl' : upd H1 l (.lst (cs.map V.ref)) l = some (.lst (cs.map V.ref)) := upd_same
          generalize upd H1 l (.lst (cs.map V.ref)) = H2 at al' e1' hl' ⊢
          walk_at "rd"
          refine rd_tupL (SqL.of hl') (rd_new fun t1 H3 e3 h3 _ => ?_)
          walk_at "rd"
          refine ⟨small_line (by simp), rd_new fun a4 H4 e4 h4 _ => ?_⟩
          have hv4 := HouseAt.mk h4 (((al'.ext e3).ways h3).ext e4)
          walk_at "rd"
          try refine rd_I (show (0 : Int) < m by omega) ?_
          walk_at "rd"
          refine ⟨small_line (by simp), rd_new fun a5 H5 e5 h5 _ => ?_⟩
          walk_at "rd"
          have len : ∀ ws' U, WithIdle (ringW 0 "up" "a" m) ws' → x ≤ U → y ≤ U → LenIs ws' U (0, x) (r % m, y) (if x ≤ y ∧ (y - x - r) % m = 0 then y - x else -1) := fun ws' U he hx hy => len1 m1 he hy
          have ex : ∀ H6, Ext H5 H6 → Ext H H6 := fun H6 e6 => e1'.trans (e3.trans (e4.trans (e5.trans e6)))
          by_cases c1 : x ≤ y
          · rw [decide_eq_true c1]
            refine iteT ?_
            walk_at "rd"
            try refine rd_I (show (0 : Int) < m by omega) ?_
            walk_at "rd"
            by_cases c2 : (y - x - r) % m = 0
            · rw [decide_eq_true c2]
              walk_at "rd"
              refine rd_ixL (SqL.of h5) (v := .int (y - x)) rfl ?_
              walk_at "rd"
              refine ⟨small_line (by simp), rd_new fun a6 H6 e6 h6 _ => ?_⟩
              refine q a6 _ m _ _ _ H6 (ex _ e6) h6 (hv4.ext (e5.trans e6)) (kn1 m1 m2 okU sgA (by decide) s_a) (fun ws' U he hx hy => ?_) (by omega)
              have := len ws' U he hx hy
              rwa [if_pos ⟨c1, c2⟩] at this
            · rw [decide_eq_false c2]
              walk_at "rd"
              refine rd_ixL (SqL.of h5) (v := .int (-1)) rfl ?_
              walk_at "rd"
              refine ⟨small_line (by simp), rd_new fun a6 H6 e6 h6 _ => ?_⟩
              refine q a6 _ m _ _ _ H6 (ex _ e6) h6 (hv4.ext (e5.trans e6)) (kn1 m1 m2 okU sgA (by decide) s_a) (fun ws' U he hx hy => ?_) (by omega)
              have := len ws' U he hx hy
              rwa [if_neg (fun z => c2 z.2)] at this
          · rw [decide_eq_false c1]
            refine iteF ?_
            walk_at "rd"
            refine rd_ixL (SqL.of h5) (v := .int (-1)) rfl ?_
            walk_at "rd"
            refine ⟨small_line (by simp), rd_new fun a6 H6 e6 h6 _ => ?_⟩
            refine q a6 _ m _ _ _ H6 (ex _ e6) h6 (hv4.ext (e5.trans e6)) (kn1 m1 m2 okU sgA (by decide) s_a) (fun ws' U he hx hy => ?_) (by omega)
            have := len ws' U he hx hy
            rwa [if_neg (fun z => c1 z.1)] at this
      · walk_at "rd"
        refine ite2 (fun h => ?_) (fun h => ?_)
        · walk_at "rd"
          refine rd_i1x ⟨by omega, by omega⟩ ?_
          refine comp_range (fun i ys H' => Ext H H' ∧ ∃ cs : List Addr, ys = cs.map V.ref ∧ AlW H' cs ((ringW 0 "down" "c" m).take i)) (small9 (by omega)) ⟨Ext.rfl' _, [], rfl, AlW.nil _⟩ (fun i ys H' _ h => by obtain ⟨_, cs, rfl, hc⟩ := h; rw [List.length_map, hc.1, List.length_take]; omega) ?_ ?_
          · rintro i ys H1 hi ⟨e1, cs, rfl, al⟩
            walk_at "rd"
            refine iteT ?_
            walk_at "rd"
            try refine rd_I (show (0 : Int) < m by omega) ?_
            walk_at "rd"
            refine ⟨small_line (by simp), rd_new fun c H2 e2 hc _ => ?_⟩
            refine ⟨e1.trans e2, cs ++ [c], by rw [List.map_append]; rfl, ?_⟩
            rw [ring_take hi]
            refine (al.ext e2).snoc ?_
            rw [hc]
            simp only [Way.vs, Int.zero_add]
          · rintro ys H1 l ⟨e1, cs, rfl, al⟩ hl
            rw [List.take_of_length_le (by rw [ring_len]; exact Nat.le_refl _)] at al
            have al' := al.ext (ext_upd (o := .lst (cs.map V.ref)) hl)
            have e1' : Ext H (upd H1 l (.lst (cs.map V.ref))) := e1.trans (ext_upd hl)
            have hl' : upd H1 l (.lst (cs.map V.ref)) l = some (.lst (cs.map V.ref)) := upd_same
            generalize upd H1 l (.lst (cs.map V.ref)) = H2 at al' e1' hl' ⊢
            walk_at "rd"
            refine rd_tupL (SqL.of hl') (rd_new fun t1 H3 e3 h3 _ => ?_)
            walk_at "rd"
            refine ⟨small_line (by simp), rd_new fun a4 H4 e4 h4 _ => ?_⟩
            have hv4 := HouseAt.mk h4 (((al'.ext e3).ways h3).ext e4)
            walk_at "rd"
            try refine rd_I (show (0 : Int) < m by omega) ?_
            walk_at "rd"
            refine ⟨small_line (by simp), rd_new fun a5 H5 e5 h5 _ => ?_⟩
            walk_at "rd"
            have len : ∀ ws' U, WithIdle (ringW 0 "down" "c" m) ws' → x ≤ U → y ≤ U → LenIs ws' U (0, x) (r % m, y) (if y ≤ x ∧ (x - y - r) % m = 0 then x - y else -1) := fun ws' U he hx hy => len2 m1 he hx y0
            have ex : ∀ H6, Ext H5 H6 → Ext H H6 := fun H6 e6 => e1'.trans (e3.trans (e4.trans (e5.trans e6)))
            by_cases c1 : y ≤ x
            · rw [decide_eq_true c1]
              refine iteT ?_
              walk_at "rd"
              try refine rd_I (show (0 : Int) < m by omega) ?_
              walk_at "rd"
              by_cases c2 : (x - y - r) % m = 0
              · rw [decide_eq_true c2]
                walk_at "rd"
                refine rd_ixL (SqL.of h5) (v := .int (x - y)) rfl ?_
                walk_at "rd"
                refine ⟨small_line (by simp), rd_new fun a6 H6 e6 h6 _ => ?_⟩
                refine q a6 _ m _ _ _ H6 (ex _ e6) h6 (hv4.ext (e5.trans e6)) (kn1 m1 m2 okDn sgC (by decide) s_c) (fun ws' U he hx hy => ?_) (by omega)
                have := len ws' U he hx hy
                rwa [if_pos ⟨c1, c2⟩] at this
              · rw [decide_eq_false c2]
                walk_at "rd"
                refine rd_ixL (SqL.of h5) (v := .int (-1)) rfl ?_
                walk_at "rd"
                refine ⟨small_line (by simp), rd_new fun a6 H6 e6 h6 _ => ?_⟩
                refine q a6 _ m _ _ _ H6 (ex _ e6) h6 (hv4.ext (e5.trans e6)) (kn1 m1 m2 okDn sgC (by decide) s_c) (fun ws' U he hx hy => ?_) (by omega)
                have := len ws' U he hx hy
                rwa [if_neg (fun z => c2 z.2)] at this
            · rw [decide_eq_false c1]
              refine iteF ?_
              walk_at "rd"
              refine rd_ixL (SqL.of h5) (v := .int (-1)) rfl ?_
              walk_at "rd"
              refine ⟨small_line (by simp), rd_new fun a6 H6 e6 h6 _ => ?_⟩
              refine q a6 _ m _ _ _ H6 (ex _ e6) h6 (hv4.ext (e5.trans e6)) (kn1 m1 m2 okDn sgC (by decide) s_c) (fun ws' U he hx hy => ?_) (by omega)
              have := len ws' U he hx hy
              rwa [if_neg (fun z => c1 z.1)] at this
        · walk_at "rd"
          refine ⟨small_line (by simp), rd_new fun a1 H1 e1 h1 _ => ?_⟩
          walk_at "rd"
          refine ⟨small_line (by simp), rd_new fun a2 H2 e2 h2 _ => ?_⟩
          walk_at "rd"
          refine ⟨small_line (by simp), rd_new fun a3 H3 e3 h3 _ => ?_⟩
          walk_at "rd"
          refine ⟨small_line (by simp), rd_new fun a4 H4 e4 h4 _ => ?_⟩
          walk_at "rd"
          refine ⟨small_line (by simp), rd_new fun a5 H5 e5 h5 _ => ?_⟩
          walk_at "rd"
          refine ⟨small_line (by simp), rd_new fun a6 H6 e6 h6 _ => ?_⟩
          walk_at "rd"
          refine ⟨small_line (by simp), rd_new fun a7 H7 e7 h7 _ => ?_⟩
          have al : AlW H5 [a1, a2, a3, a4] kw3 := ((((AlW.nil H5).snoc (w := ⟨0, "up", 0, "a"⟩) ((e2.trans (e3.trans (e4.trans e5))) _ _ h1)).snoc (w := ⟨0, "down", 0, "b"⟩) ((e3.trans (e4.trans e5)) _ _ h2)).snoc (w := ⟨0, "zero", 1, "c"⟩) ((e4.trans e5) _ _ h3)).snoc (w := ⟨1, "up", 1, "a"⟩) (e5 _ _ h4)
          exact q a7 _ 2 kw3 1 _ H7 (e1.trans (e2.trans (e3.trans (e4.trans (e5.trans (e6.trans e7)))))) h7 ((HouseAt.mk h6 ((al.ways h5).ext e6)).ext e7) kn3 (fun ws' U he hx hy => len3 he x0 y0 hx hy) (by omega)
end My
set_option Elab.async false
set_option linter.all false
set_option maxRecDepth 100000
namespace My
open PySem L2 St
set_option maxHeartbeats 4000000
local macro_rules | `(tactic| walk_at "cond") => `(tactic| first | decide | omega | (dsimp only; omega) | (unfold CMul; omega) | (unfold CPow; exact ⟨by decide, by decide, by decide⟩) | (dsimp only; exact ⟨by omega, by omega⟩) | exact .inr ⟨by decide, by decide⟩ | exact .inl ⟨by decide, by decide⟩ | (unfold SmallR; omega))
local macro_rules | `(tactic| walk_at "sq") => `(tactic| first | assumption | exact SqL.of (by assumption) | exact SqT.of (by assumption) | exact SqL.of (by solve_by_elim) | exact SqT.of (by solve_by_elim) | solve_by_elim)
local macro_rules | `(tactic| walk_at "rd") => `(tactic| repeat (first | with_reducible refine rd_seq ?_ | with_reducible refine rd_ret ?_ | with_reducible refine rd_retN ?_ | with_reducible refine rd_asg ?_ | with_reducible refine rd_drop ?_ | with_reducible refine rd_ifS ?_ | with_reducible refine rd_next ?_ | with_reducible refine rd_name ?_ | ((with_reducible apply rd_var); (exact rfl)) | with_reducible refine rd_c ?_ | with_reducible refine rd_op ?_ | with_reducible refine rd_un ?_ | with_reducible refine rd_CB ?_ | with_reducible refine rd_cons ?_ | with_reducible refine rd_nil ?_ | with_reducible refine rd_ints ?_ | with_reducible refine rd_test ?_ | with_reducible refine rd_B ?_ | with_reducible refine rd_exb ?_ | with_reducible refine rd_not ?_ | with_reducible refine rd_and ?_ | with_reducible refine rd_or ?_ | with_reducible refine rd_andV ?_ | with_reducible refine rd_orV ?_ | with_reducible refine rd_notV ?_ | with_reducible refine rd_ifE ?_ | with_reducible refine rd_yes ?_ | with_reducible refine rd_I0 ?_ | ((with_reducible apply rd_I); (walk_at "cond")) | with_reducible refine rd_U ?_ | with_reducible refine rd_EqI ?_ | with_reducible refine rd_NeI ?_ | with_reducible refine rd_EqB ?_ | with_reducible refine rd_NeB ?_ | with_reducible refine rd_call ?_ | with_reducible refine rd_BM ?_ | with_reducible refine rd_tup ?_ | with_reducible refine rd_lst ?_ | with_reducible refine rd_sl ?_ | with_reducible refine rd_noPart ?_ | with_reducible refine rd_part ?_ | with_reducible refine rd_exi ?_ | with_reducible refine rd_chain ?_ | with_reducible refine rd_comp ?_ | with_reducible refine rd_iL ?_ | with_reducible refine rd_iT ?_ | with_reducible refine rd_i1 ?_ | with_reducible refine rd_i2 ?_ | with_reducible refine rd_i3 ?_ | with_reducible refine rd_for ?_ | with_reducible refine rd_tTru ?_ | with_reducible refine rd_intB ?_ | with_reducible refine rd_max2 ?_ | with_reducible refine rd_min2 ?_ | with_reducible refine rd_sub ?_ | with_reducible refine rd_gcons ?_ | with_reducible refine rd_gnil ?_ | ((with_reducible apply rd_aug); (exact rfl)) | with_reducible refine rd_ipI ?_ | with_reducible refine rd_zip ?_ | with_reducible refine rd_rev ?_ | with_reducible refine rd_par ?_ | with_reducible refine rd_par2 ?_ | with_reducible refine rd_lam ?_ | with_reducible refine rd_calV ?_ | with_reducible refine rd_raise ?_ | with_reducible refine rd_fs ?_ | with_reducible refine rd_try ?_ | with_reducible refine rd_bseq ?_ | with_reducible refine rd_bnext ?_ | with_reducible refine rd_bplain ?_ | with_reducible refine rd_bif ?_ | with_reducible refine rd_bcall ?_ | with_reducible refine rd_enum ?_ | with_reducible refine rd_gget ?_ | with_reducible refine rd_gin ?_ | with_reducible refine rd_revL ?_ | with_reducible refine rd_leS ?_ | with_reducible refine rd_disp ?_ | with_reducible refine rd_dget ?_ | with_reducible refine rd_lrev ?_ | with_reducible refine rd_disp1 ?_ | with_reducible refine rd_din ?_ | with_reducible refine rd_dnin ?_ | with_reducible refine rd_dput ?_ | with_reducible refine rd_min3 ?_ | dsimp only))
theorem six_at {a b c d e f : Addr} {H : Hp} {i : Int} (h0 : 0 ≤ i) (h1 : i < 6) (ha : H a = some (.tup [.int 5, .int 6])) (hb : H b = some (.tup [.int 6, .int 5])) (hc : H c = some (.tup [.int 4, .int 7])) (hd : H d = some (.tup [.int 7, .int 4])) (he : H e = some (.tup [.int 3, .int 8])) (hf : H f = some (.tup [.int 5, .int 4])) :
    ∃ r p q, atI [V.ref a, .ref b, .ref c, .ref d, .ref e, .ref f] i = some (.ref r) ∧ H r = some (.tup [.int p, .int q]) ∧ clk p q := by
  have : i = 0 ∨ i = 1 ∨ i = 2 ∨ i = 3 ∨ i = 4 ∨ i = 5 := by omega
  rcases this with rfl | rfl | rfl | rfl | rfl | rfl
  · exact ⟨a, _, _, rfl, ha, .inl ⟨rfl, rfl⟩⟩
  · exact ⟨b, _, _, rfl, hb, .inr (.inl ⟨rfl, rfl⟩)⟩
  · exact ⟨c, _, _, rfl, hc, .inr (.inr (.inl ⟨rfl, rfl⟩))⟩
  · exact ⟨d, _, _, rfl, hd, .inr (.inr (.inr (.inl ⟨rfl, rfl⟩)))⟩
  · exact ⟨e, _, _, rfl, he, .inr (.inr (.inr (.inr (.inl ⟨rfl, rfl⟩))))⟩
  · exact ⟨f, _, _, rfl, hf, .inr (.inr (.inr (.inr (.inr ⟨rfl, rfl⟩))))⟩
noncomputable def sp__law_clocks (K : PySem.W.Frag) : Sp := fun vs H Q _ => ∃ i t, vs = [.int i, .int t] ∧ 0 ≤ i ∧ i < 6 ∧ 0 ≤ t ∧
  ∀ r v mm ws o z H', Ext H H' → H' r = some (.tup [v, .int o, .int z]) → HouseAt H' v mm ws → KnownH mm ws o → (∀ ws' U, WithIdle ws ws' → 30 ≤ U → LenIs ws' U (0, 0) (o, 0) z) → z ≤ 2001 → 9 ≤ mm → Q (.ref r) H'
noncomputable abbrev s__law_clocks : Stmt := top 47
theorem sc__law_clocks : FnScope ["_law_which", "_law_t", "_law_up", "_law_down", "_law_ways"] ["_law_which", "_law_t"] (defScope s__law_clocks) := ⟨rfl, rfl, rfl, by decide +kernel, rfl, by decide +kernel, by decide +kernel⟩
theorem ok__law_clocks {P : Program} {w : World} {K : PySem.W.Frag} {mg : Str → Option Value} {base : Heap} (D : Dfn K mg "_law_clocks" s__law_clocks ["_law_which", "_law_t"]) (T : Blt mg) : Cal P w K mg base "_law_clocks" 1 ["_law_which", "_law_t"] (sp__law_clocks K) := by
  have nd := (sc__law_clocks).nd
  refine D.ok sc__law_clocks (fun vs H Q E h => ?_) (fun X hX H vs Q E h => ?_)
  · obtain ⟨i, t, rfl, _⟩ := h; rfl
  · obtain ⟨f, cdv, A, outer, s, H0, E0, rfl, hr⟩ := hX
    obtain ⟨i, t, rfl, i0, i1, t0, q⟩ := h
    refine ⟨_, (no_implicit_lambda% (@pss_cons _ _ _ _ _ (no_implicit_lambda% (@ps_asg _ _ _ _ _ _ (no_implicit_lambda% (@pe_ix _ _ _ _ _ _ _ (ix_listK K) (no_implicit_lambda% (@pe_lst _ _ _ _ (no_implicit_lambda% (@pa_lit _ _ _ _ _ (.tup (.cons .int (.cons .int .nil))) (no_implicit_lambda% (@pa_lit _ _ _ _ _ (.tup (.cons .int (.cons .int .nil))) (no_implicit_lambda% (@pa_lit _ _ _ _ _ (.tup (.cons .int (.cons .int .nil))) (no_implicit_lambda% (@pa_lit _ _ _ _ _ (.tup (.cons .int (.cons .int .nil))) (no_implicit_lambda% (@pa_lit _ _ _ _ _ (.tup (.cons .int (.cons .int .nil))) (no_implicit_lambda% (@pa_lit _ _ _ _ _ (.tup (.cons .int (.cons .int .nil))) pa_nil)))))))))))))) (no_implicit_lambda% (pv 0)) (fun _ _ => rfl))) (no_implicit_lambda% (pg_tupK (n := 2) K rfl (pgs_cons (no_implicit_lambda% (pg_name (i := 2) nd rfl (Or.inr rfl))) (pgs_cons (no_implicit_lambda% (pg_name (i := 3) nd rfl (Or.inr rfl))) pgs_nil)))) rfl rfl rfl))
        (no_implicit_lambda% (@pss_cons _ _ _ _ _ (no_implicit_lambda% (ps_set (i := 1) nd rfl (Or.inl rfl) (no_implicit_lambda% (pe_op op_mod (no_implicit_lambda% (pv 1)) (no_implicit_lambda% (pe_op op_mul (no_implicit_lambda% (pv 2)) (no_implicit_lambda% (pv 3))))))))
        (no_implicit_lambda% (@pss_cons _ _ _ _ _ (no_implicit_lambda% (ps_set (i := 4) nd rfl (Or.inl rfl) (no_implicit_lambda% (pe_op op_cat (no_implicit_lambda% (pe_comp ["_law_k"] [2] (no_implicit_lambda% (pi_range1 rfl T.range_ (no_implicit_lambda% (@pa_cons _ _ _ _ _ (no_implicit_lambda% (pv 2)) pa_nil rfl)))) (fun _ => (no_implicit_lambda% (pg_name (i := 0) (show (["_law_k", "_law_up"] : List Str).Nodup from by decide +kernel) rfl (Or.inl rfl) (Or.inr rfl)))) (fun _ => pcs_nil) (fun _ => (no_implicit_lambda% (@pe_tup _ _ _ _ _ (no_implicit_lambda% (@pa_cons _ _ _ _ _ (no_implicit_lambda% (pv 0)) (no_implicit_lambda% (@pa_cons _ _ _ _ _ pe_str (no_implicit_lambda% (@pa_cons _ _ _ _ _ (no_implicit_lambda% (pe_op op_mod (no_implicit_lambda% (pe_op op_add (no_implicit_lambda% (pv 0)) pe_int)) (no_implicit_lambda% (pv 1)))) (no_implicit_lambda% (@pa_cons _ _ _ _ _ pe_str pa_nil rfl)) rfl)) rfl)) rfl))))))) (no_implicit_lambda% (@pe_lst _ _ _ _ (no_implicit_lambda% (@pa_cons _ _ _ _ _ (no_implicit_lambda% (@pe_tup _ _ _ _ _ (no_implicit_lambda% (@pa_cons _ _ _ _ _ (no_implicit_lambda% (pe_op op_mod (no_implicit_lambda% (pv 1)) (no_implicit_lambda% (pv 2)))) (no_implicit_lambda% (@pa_cons _ _ _ _ _ pe_str (no_implicit_lambda% (@pa_cons _ _ _ _ _ (no_implicit_lambda% (pv 2)) (no_implicit_lambda% (@pa_cons _ _ _ _ _ pe_str pa_nil rfl)) rfl)) rfl)) rfl)))) pa_nil rfl))))))))
        (no_implicit_lambda% (@pss_cons _ _ _ _ _ (no_implicit_lambda% (ps_set (i := 4) nd rfl (Or.inl rfl) (no_implicit_lambda% (pe_op op_cat (no_implicit_lambda% (pv 4)) (no_implicit_lambda% (pe_comp ["_law_k"] [2, 3] (no_implicit_lambda% (pi_range1 rfl T.range_ (no_implicit_lambda% (@pa_cons _ _ _ _ _ (no_implicit_lambda% (pv 3)) pa_nil rfl)))) (fun _ => (no_implicit_lambda% (pg_name (i := 0) (show (["_law_k", "_law_up", "_law_down"] : List Str).Nodup from by decide +kernel) rfl (Or.inl rfl) (Or.inr rfl)))) (fun _ => pcs_nil) (fun _ => (no_implicit_lambda% (@pe_tup _ _ _ _ _ (no_implicit_lambda% (@pa_cons _ _ _ _ _ (no_implicit_lambda% (pe_op op_add (no_implicit_lambda% (pv 1)) (no_implicit_lambda% (pv 0)))) (no_implicit_lambda% (@pa_cons _ _ _ _ _ pe_str (no_implicit_lambda% (@pa_cons _ _ _ _ _ (no_implicit_lambda% (pe_op op_add (no_implicit_lambda% (pv 1)) (no_implicit_lambda% (pe_op op_mod (no_implicit_lambda% (pe_op op_add (no_implicit_lambda% (pv 0)) pe_int)) (no_implicit_lambda% (pv 2)))))) (no_implicit_lambda% (@pa_cons _ _ _ _ _ pe_str pa_nil rfl)) rfl)) rfl)) rfl)))))))))))
        (no_implicit_lambda% (@pss_one _ _ _ (no_implicit_lambda% (@ps_ret _ _ _ _ (no_implicit_lambda% (@pe_tup _ _ _ _ _ (no_implicit_lambda% (@pa_cons _ _ _ _ _ (no_implicit_lambda% (@pe_tup _ _ _ _ _ (no_implicit_lambda% (@pa_cons _ _ _ _ _ (no_implicit_lambda% (pe_op op_add (no_implicit_lambda% (pe_op op_add (no_implicit_lambda% (pv 2)) (no_implicit_lambda% (pv 3)))) pe_int)) (no_implicit_lambda% (@pa_cons _ _ _ _ _ (no_implicit_lambda% (pe_callTy (call_tupK K) rfl T.tuple_ PyProof.Rows.boot_tuple (no_implicit_lambda% (@pa_cons _ _ _ _ _ (no_implicit_lambda% (pe_op op_cat (no_implicit_lambda% (pv 4)) (no_implicit_lambda% (@pe_lst _ _ _ _ (no_implicit_lambda% (@pa_cons _ _ _ _ _ (no_implicit_lambda% (@pe_tup _ _ _ _ _ (no_implicit_lambda% (@pa_cons _ _ _ _ _ (no_implicit_lambda% (pe_op op_add (no_implicit_lambda% (pv 2)) (no_implicit_lambda% (pe_op op_mod (no_implicit_lambda% (pv 1)) (no_implicit_lambda% (pv 3)))))) (no_implicit_lambda% (@pa_cons _ _ _ _ _ pe_str (no_implicit_lambda% (@pa_cons _ _ _ _ _ (no_implicit_lambda% (pe_op op_add (no_implicit_lambda% (pv 2)) (no_implicit_lambda% (pv 3)))) (no_implicit_lambda% (@pa_cons _ _ _ _ _ pe_str pa_nil rfl)) rfl)) rfl)) rfl)))) pa_nil rfl)))))) pa_nil rfl)))) pa_nil rfl)) rfl)))) (no_implicit_lambda% (@pa_cons _ _ _ _ _ (no_implicit_lambda% (pe_op op_add (no_implicit_lambda% (pv 2)) (no_implicit_lambda% (pv 3)))) (no_implicit_lambda% (@pa_cons _ _ _ _ _ (no_implicit_lambda% (pe_op op_add (no_implicit_lambda% (pe_op op_mul pe_int (no_implicit_lambda% (pv 1)))) pe_int)) pa_nil rfl)) rfl)) rfl)))))))))))))))), ?_⟩
    walk_at "rd"
    refine ⟨small_line (by simp), rd_new fun a1 H1 e1 h1 _ => ?_⟩
    walk_at "rd"
    refine ⟨small_line (by simp), rd_new fun a2 H2 e2 h2 _ => ?_⟩
    walk_at "rd"
    refine ⟨small_line (by simp), rd_new fun a3 H3 e3 h3 _ => ?_⟩
    walk_at "rd"
    refine ⟨small_line (by simp), rd_new fun a4 H4 e4 h4 _ => ?_⟩
    walk_at "rd"
    refine ⟨small_line (by simp), rd_new fun a5 H5 e5 h5 _ => ?_⟩
    walk_at "rd"
    refine ⟨small_line (by simp), rd_new fun a6 H6 e6 h6 _ => ?_⟩
    walk_at "rd"
    refine ⟨small_line (by simp), rd_new fun a7 H7 e7 h7 _ => ?_⟩
    walk_at "rd"
    have x67 := e7
    have x57 := e6.trans x67
    have x47 := e5.trans x57
    have x37 := e4.trans x47
    have x27 := e3.trans x37
    have x17 := e2.trans x27
    obtain ⟨r, p, d, hr, hpd, hc⟩ := six_at i0 i1 (x17 _ _ h1) (x27 _ _ h2) (x37 _ _ h3) (x47 _ _ h4) (x57 _ _ h5) (x67 _ _ h6)
    have eH := e1.trans x17
    clear x67 x57 x47 x37 x27 x17 h1 h2 h3 h4 h5 h6
    obtain ⟨u1, d1, h11, h9, hpd30⟩ := clk_pos hc
    have hpos : 0 < p * d := Int.mul_pos (by omega) (by omega)
    refine rd_ixL (SqL.of h7) hr ?_
    walk_at "rd"
    refine rd_gtup (SqT.of hpd) rfl ?_
    walk_at "rd"
    try refine rd_I (.inl ⟨by omega, by omega⟩) ?_
    walk_at "rd"
    try refine rd_I (show (0 : Int) < p * d from hpos) ?_
    walk_at "rd"
    have s0 : 0 ≤ t % (p * d) := Int.emod_nonneg _ (by omega)
    have s1 : t % (p * d) < p * d := Int.emod_lt_of_pos _ hpos
    generalize t % (p * d) = s at s0 s1 ⊢
    refine rd_i1x ⟨by omega, by omega⟩ ?_
    refine comp_range (fun i ys H' => Ext H7 H' ∧ ∃ cs : List Addr, ys = cs.map V.ref ∧ AlW H' cs ((ringW 0 "up" "a" p).take i)) (small9 (by omega)) ⟨Ext.rfl' _, [], rfl, AlW.nil _⟩ (fun i ys H' _ h => by obtain ⟨_, cs, rfl, hc⟩ := h; rw [List.length_map, hc.1, List.length_take]; omega) ?_ ?_
    · rintro i ys H8 hi ⟨e8, cs, rfl, al⟩
      walk_at "rd"
      refine iteT ?_
      walk_at "rd"
      try refine rd_I (show (0 : Int) < p by omega) ?_
      walk_at "rd"
      refine ⟨small_line (by simp), rd_new fun c H9 e9 hc _ => ?_⟩
      refine ⟨e8.trans e9, cs ++ [c], by rw [List.map_append]; rfl, ?_⟩
      rw [ring_take hi]
      refine (al.ext e9).snoc ?_
      rw [hc]
      simp only [Way.vs, Int.zero_add]
    rintro ys H8 l ⟨e8, cs, rfl, al⟩ hl
    rw [List.take_of_length_le (by rw [ring_len]; exact Nat.le_refl _)] at al
    have al1 := al.ext (ext_upd (o := .lst (cs.map V.ref)) hl)
    have e81 : Ext H7 (upd H8 l (.lst (cs.map V.ref))) := e8.trans (ext_upd hl)
    have hl1 : upd H8 l (.lst (cs.map V.ref)) l = some (.lst (cs.map V.ref)) := upd_same
    generalize upd H8 l (.lst (cs.map V.ref)) = G1 at al1 e81 hl1 ⊢
    clear al e8 hl
    walk_at "rd"
    try refine rd_I (show (0 : Int) < p by omega) ?_
    walk_at "rd"
    refine ⟨small_line (by simp), rd_new fun b1 G2 f2 hb1 _ => ?_⟩
    walk_at "rd"
    refine ⟨small_line (by simp), rd_new fun b2 G3 f3 hb2 _ => ?_⟩
    have len1 := al1.1
    rw [ring_len] at len1
    refine rd_cat ((f2.trans f3) _ _ hl1) hb2 (small9 (by rw [List.length_map, len1]; simp; omega)) (rd_new fun l2 G4 f4 hl2 _ => ?_)
    have al4 : AlW G4 (cs ++ [b1]) (ringW 0 "up" "a" p ++ [⟨s % p, "stay", p, "b"⟩]) := (al1.ext (f2.trans (f3.trans f4))).app (AlW.one ((f3.trans f4) _ _ hb1))
    rw [show cs.map V.ref ++ [V.ref b1] = (cs ++ [b1]).map V.ref by rw [List.map_append]; rfl] at hl2
    have e74 := e81.trans (f2.trans (f3.trans f4))
    generalize cs ++ [b1] = cs4 at al4 hl2
    clear al1 hl1 f2 f3 f4 hb1 hb2 e81
    walk_at "rd"
    refine rd_i1x ⟨by omega, by omega⟩ ?_
    refine comp_range (fun i ys H' => Ext G4 H' ∧ ∃ cs : List Addr, ys = cs.map V.ref ∧ AlW H' cs ((ringW p "down" "a" d).take i)) (small9 (by omega)) ⟨Ext.rfl' _, [], rfl, AlW.nil _⟩ (fun i ys H' _ h => by obtain ⟨_, cs, rfl, hc⟩ := h; rw [List.length_map, hc.1, List.length_take]; omega) ?_ ?_
    · rintro i ys H8 hi ⟨e8, cs, rfl, al⟩
      walk_at "rd"
      refine iteT ?_
      walk_at "rd"
      try refine rd_I (show (0 : Int) < d by omega) ?_
      walk_at "rd"
      refine ⟨small_line (by simp), rd_new fun c H9 e9 hc _ => ?_⟩
      refine ⟨e8.trans e9, cs ++ [c], by rw [List.map_append]; rfl, ?_⟩
      rw [ring_take hi]
      refine (al.ext e9).snoc ?_
      rw [hc]
      simp only [Way.vs, Int.zero_add]
    rintro ys H8 l3 ⟨e8, ds, rfl, al⟩ hl3
    rw [List.take_of_length_le (by rw [ring_len]; exact Nat.le_refl _)] at al
    have al1 := al.ext (ext_upd (o := .lst (ds.map V.ref)) hl3)
    have e81 : Ext G4 (upd H8 l3 (.lst (ds.map V.ref))) := e8.trans (ext_upd hl3)
    have hl1 : upd H8 l3 (.lst (ds.map V.ref)) l3 = some (.lst (ds.map V.ref)) := upd_same
    generalize upd H8 l3 (.lst (ds.map V.ref)) = G5 at al1 e81 hl1 ⊢
    clear al e8 hl3
    have len4 := al4.1
    rw [List.length_append, ring_len] at len4
    have len5 := al1.1
    rw [ring_len] at len5
    refine rd_cat (e81 _ _ hl2) hl1 (small9 (by rw [List.length_map, List.length_map, len4, len5]; simp; omega)) (rd_new fun l4 G6 f6 hl4 _ => ?_)
    have al6 := (al4.ext (e81.trans f6)).app (al1.ext f6)
    rw [← List.map_append] at hl4
    have e76 := e74.trans (e81.trans f6)
    have len6 : (cs4 ++ ds).length = p.toNat + 1 + d.toNat := by rw [List.length_append, len4, len5]; simp
    generalize cs4 ++ ds = cs6 at al6 hl4 len6
    clear al4 al1 hl1 hl2 f6 e81 e74 len4 len5
    walk_at "rd"
    try refine rd_I (show (0 : Int) < d by omega) ?_
    walk_at "rd"
    refine ⟨small_line (by simp), rd_new fun b1 G7 f7 hb1 _ => ?_⟩
    walk_at "rd"
    refine ⟨small_line (by simp), rd_new fun b2 G8 f8 hb2 _ => ?_⟩
    refine rd_cat ((f7.trans f8) _ _ hl4) hb2 (small9 (by rw [List.length_map, len6]; simp; omega)) (rd_new fun l5 G9 f9 hl5 _ => ?_)
    have al9 : AlW G9 (cs6 ++ [b1]) (clockW p d s) := (al6.ext (f7.trans (f8.trans f9))).app (AlW.one ((f8.trans f9) _ _ hb1))
    rw [show cs6.map V.ref ++ [V.ref b1] = (cs6 ++ [b1]).map V.ref by rw [List.map_append]; rfl] at hl5
    have e79 := e76.trans (f7.trans (f8.trans f9))
    walk_at "rd"
    refine rd_tupL (SqL.of hl5) (rd_new fun t1 I1 j1 ht1 _ => ?_)
    walk_at "rd"
    refine ⟨small_line (by simp), rd_new fun t2 I2 j2 ht2 _ => ?_⟩
    walk_at "rd"
    refine ⟨small_line (by simp), rd_new fun t3 I3 j3 ht3 _ => ?_⟩
    exact q t3 _ _ _ _ _ I3 (eH.trans (e79.trans (j1.trans (j2.trans j3)))) ht3 ((HouseAt.mk ht2 (((al9.ext j1).ways ht1).ext j2)).ext j3) (kn4 hc s0) (fun ws' U he hU => len4 hc he hU s0 s1) (by omega) (by omega)
noncomputable def idlC (m : Int) (k : Nat) : Nat := 100 + ((k : Int) / m % 23).toNat
noncomputable def idlW (m : Int) (n : Nat) : List Way := (List.range n).map fun k : Nat => ⟨(k : Int) % m, "stay", (k : Int) % m, ⟨#[idlC m k]⟩⟩
theorem sgn_list : (Str.ofString "defghijklmnopqrstuvwxyz").cps.toList = (List.range 23).map (100 + ·) := by decide +kernel
theorem sgn_at {e : Int} (h0 : 0 ≤ e) (h1 : e < 23) : atI (Str.ofString "defghijklmnopqrstuvwxyz").cps.toList e = some (100 + e.toNat) := by
  rw [sgn_list]
  refine atI_of h0 ?_
  rw [List.getElem?_map, List.getElem?_range (by omega)]
  rfl
theorem idl_take {m : Int} {n i : Nat} (h : i < n) : (idlW m n).take (i + 1) = (idlW m n).take i ++ [⟨(i : Int) % m, "stay", (i : Int) % m, ⟨#[idlC m i]⟩⟩] := by
  rw [List.take_succ]
  congr 1
  unfold idlW
  rw [List.getElem?_map, List.getElem?_range h]
  rfl
theorem idl_len (m : Int) (n : Nat) : (idlW m n).length = n := by
  unfold idlW
  rw [List.length_map, List.length_range]
theorem idl_nd {m : Int} {n : Nat} (m1 : 1 ≤ m) (hn : (n : Int) ≤ 23 * m) : (idlW m n).Nodup := by
  unfold idlW List.Nodup
  rw [List.pairwise_map]
  refine List.Pairwise.imp_of_mem ?_ (List.pairwise_lt_range (n := n))
  intro a b ha hb hab e
  have ha := List.mem_range.mp ha
  have hb := List.mem_range.mp hb
  have h1 : (a : Int) % m = (b : Int) % m := congrArg Way.room e
  have h2 : idlC m a = idlC m b := by
    have := congrArg Way.sign e
    simpa using this
  unfold idlC at h2
  have da : 0 ≤ (a : Int) / m ∧ (a : Int) / m < 23 := ⟨Int.ediv_nonneg (by omega) (by omega), Int.ediv_lt_of_lt_mul (by omega) (by omega)⟩
  have db : 0 ≤ (b : Int) / m ∧ (b : Int) / m < 23 := ⟨Int.ediv_nonneg (by omega) (by omega), Int.ediv_lt_of_lt_mul (by omega) (by omega)⟩
  have h3 : (a : Int) / m = (b : Int) / m := by omega
  have ea := Int.mul_ediv_add_emod (a : Int) m
  have eb := Int.mul_ediv_add_emod (b : Int) m
  rw [h1, h3] at ea
  omega
theorem idl_mem {m : Int} {n : Nat} {w : Way} (m1 : 1 ≤ m) (h : w ∈ idlW m n) : idleW w ∧ w.Ok m ∧ ∃ c : Nat, 100 ≤ c ∧ w.sign = ⟨#[c]⟩ := by
  obtain ⟨k, hk, rfl⟩ := List.mem_map.mp h
  have h1 : 0 ≤ (k : Int) % m := Int.emod_nonneg _ (by omega)
  have h2 : (k : Int) % m < m := Int.emod_lt_of_pos _ (by omega)
  refine ⟨⟨rfl, rfl⟩, ⟨h1, h2, h1, h2, okS, idlC m k, ?_, ?_, rfl⟩, idlC m k, ?_, rfl⟩ <;> unfold idlC <;> omega
noncomputable def sp__law_idle (K : PySem.W.Frag) : Sp := fun vs H Q _ => ∃ m o, vs = [.int m, .int o] ∧ 1 ≤ m ∧ m ≤ 12 ∧ 0 ≤ o ∧ o ≤ 1000 ∧ ∀ t bs n H', Ext H H' → H' t = some (.tup (List.map V.ref bs)) → AlW H' bs (idlW m n) → (n : Int) ≤ 23 * m → Q (.ref t) H'
noncomputable abbrev s__law_idle : Stmt := top 49
theorem sc__law_idle : FnScope ["_law_many", "_law_often", "_law_signs"] ["_law_many", "_law_often"] (defScope s__law_idle) := ⟨rfl, rfl, rfl, by decide +kernel, rfl, by decide +kernel, by decide +kernel⟩
theorem ok__law_idle {P : Program} {w : World} {K : PySem.W.Frag} {mg : Str → Option Value} {base : Heap} (D : Dfn K mg "_law_idle" s__law_idle ["_law_many", "_law_often"]) (T : Blt mg) : Cal P w K mg base "_law_idle" 1 ["_law_many", "_law_often"] (sp__law_idle K) := by
  have nd := (sc__law_idle).nd
  refine D.ok sc__law_idle (fun vs H Q E h => ?_) (fun X hX H vs Q E h => ?_)
  · obtain ⟨m, o, rfl, _⟩ := h; rfl
  · obtain ⟨f, cdv, A, outer, s, H0, E0, rfl, hr⟩ := hX
    obtain ⟨m, o, rfl, m1, m2, o0, o1, q⟩ := h
    refine ⟨_, (no_implicit_lambda% (pss_cons (no_implicit_lambda% (ps_set (i := 2) nd rfl (Or.inr rfl) pe_str))
        (no_implicit_lambda% (pss_one (no_implicit_lambda% (ps_ret (no_implicit_lambda% (pe_callTy (call_tupK K) rfl T.tuple_ PyProof.Rows.boot_tuple (no_implicit_lambda% (pa_cons (no_implicit_lambda% (pe_comp ["_law_k"] [0, 2] (no_implicit_lambda% (pi_range1 rfl T.range_ (no_implicit_lambda% (pa_cons (no_implicit_lambda% (pe_callB (call_min2N rfl) rfl T.min_ PyProof.Rows.boot_min (no_implicit_lambda% (pa_cons (no_implicit_lambda% (pv 1)) (no_implicit_lambda% (pa_cons (no_implicit_lambda% (pe_op op_mul pe_int (no_implicit_lambda% (pv 0)))) pa_nil)))))) pa_nil)))) (fun _ => (no_implicit_lambda% (pg_name (i := 0) (show (["_law_k", "_law_many", "_law_signs"] : List Str).Nodup from by decide +kernel) rfl (Or.inl rfl) (Or.inr rfl)))) (fun _ => pcs_nil) (fun _ => (no_implicit_lambda% (pe_tup (no_implicit_lambda% (pa_cons (no_implicit_lambda% (pe_op op_mod (no_implicit_lambda% (pv 0)) (no_implicit_lambda% (pv 1)))) (no_implicit_lambda% (pa_cons pe_str (no_implicit_lambda% (pa_cons (no_implicit_lambda% (pe_op op_mod (no_implicit_lambda% (pv 0)) (no_implicit_lambda% (pv 1)))) (no_implicit_lambda% (pa_cons (no_implicit_lambda% (pe_ix ix_str (no_implicit_lambda% (pv 2)) (no_implicit_lambda% (pe_op op_mod (no_implicit_lambda% (pe_op op_fdivL (no_implicit_lambda% (pv 0)) (no_implicit_lambda% (pv 1)))) pe_int)) (fun _ _ => rfl))) pa_nil))))))))))))) pa_nil)))))))))), ?_⟩
    walk_at "rd"
    have hN : 0 ≤ (if 23 * m < o then 23 * m else o) ∧ (if 23 * m < o then 23 * m else o) ≤ 23 * m := by split <;> constructor <;> omega
    generalize (if 23 * m < o then 23 * m else o) = N at hN ⊢
    refine rd_i1x ⟨by omega, by omega⟩ ?_
    refine comp_range (fun i ys H' => Ext H H' ∧ ∃ cs : List Addr, ys = cs.map V.ref ∧ AlW H' cs ((idlW m N.toNat).take i)) (small9 (by omega)) ⟨Ext.rfl' _, [], rfl, AlW.nil _⟩ (fun i ys H' _ h => by obtain ⟨_, cs, rfl, hc⟩ := h; rw [List.length_map, hc.1, List.length_take]; omega) ?_ ?_
    · rintro i ys H1 hi ⟨e1, cs, rfl, al⟩
      have r0 := Int.emod_nonneg ((i : Int) / m) (show (23 : Int) ≠ 0 by decide)
      have r1 := Int.emod_lt_of_pos ((i : Int) / m) (show (0 : Int) < 23 by decide)
      walk_at "rd"
      refine iteT ?_
      walk_at "rd"
      try refine rd_I (show (0 : Int) < m by omega) ?_
      walk_at "rd"
      try refine rd_I (show (0 : Int) < m by omega) ?_
      walk_at "rd"
      try refine rd_I (show (0 : Int) < m ∧ m < 2 ^ 64 from ⟨by omega, by omega⟩) ?_
      walk_at "rd"
      refine ⟨_, _, _, rfl, rfl, small9 (by decide +kernel), sgn_at (by rw [Int.zero_add]; exact r0) (by rw [Int.zero_add]; exact r1), ?_⟩
      walk_at "rd"
      refine ⟨small_line (by simp), rd_new fun c H2 e2 hc _ => ?_⟩
      refine ⟨e1.trans e2, cs ++ [c], by rw [List.map_append]; rfl, ?_⟩
      rw [idl_take hi]
      refine (al.ext e2).snoc ?_
      rw [hc]
      simp only [Way.vs, Int.zero_add, idlC]
    · rintro ys H1 l ⟨e1, cs, rfl, al⟩ hl
      rw [List.take_of_length_le (by rw [idl_len]; exact Nat.le_refl _)] at al
      walk_at "rd"
      refine rd_tupL (SqL.of upd_same) (rd_new fun t H2 e2 ht _ => ?_)
      exact q t cs N.toNat H2 ((e1.trans (ext_upd hl)).trans e2) ht ((al.ext (ext_upd hl)).ext e2) (by omega)
end My
set_option Elab.async false
set_option linter.all false
set_option maxRecDepth 100000
namespace My
open PySem L2 St
set_option maxHeartbeats 4000000
local macro_rules | `(tactic| walk_at "cond") => `(tactic| first | decide | omega | (dsimp only; omega) | (unfold CMul; omega) | (unfold CPow; exact ⟨by decide, by decide, by decide⟩) | (dsimp only; exact ⟨by omega, by omega⟩) | exact .inr ⟨by decide, by decide⟩ | exact .inl ⟨by decide, by decide⟩ | (unfold SmallR; omega))
local macro_rules | `(tactic| walk_at "sq") => `(tactic| first | assumption | exact SqL.of (by assumption) | exact SqT.of (by assumption) | exact SqL.of (by solve_by_elim) | exact SqT.of (by solve_by_elim) | solve_by_elim)
local macro_rules | `(tactic| walk_at "rd") => `(tactic| repeat (first | with_reducible refine rd_seq ?_ | with_reducible refine rd_ret ?_ | with_reducible refine rd_retN ?_ | with_reducible refine rd_asg ?_ | with_reducible refine rd_drop ?_ | with_reducible refine rd_ifS ?_ | with_reducible refine rd_next ?_ | with_reducible refine rd_name ?_ | ((with_reducible apply rd_var); (exact rfl)) | with_reducible refine rd_c ?_ | with_reducible refine rd_op ?_ | with_reducible refine rd_un ?_ | with_reducible refine rd_CB ?_ | with_reducible refine rd_cons ?_ | with_reducible refine rd_nil ?_ | with_reducible refine rd_ints ?_ | with_reducible refine rd_test ?_ | with_reducible refine rd_B ?_ | with_reducible refine rd_exb ?_ | with_reducible refine rd_not ?_ | with_reducible refine rd_and ?_ | with_reducible refine rd_or ?_ | with_reducible refine rd_andV ?_ | with_reducible refine rd_orV ?_ | with_reducible refine rd_notV ?_ | with_reducible refine rd_ifE ?_ | with_reducible refine rd_yes ?_ | with_reducible refine rd_I0 ?_ | ((with_reducible apply rd_I); (walk_at "cond")) | with_reducible refine rd_U ?_ | with_reducible refine rd_EqI ?_ | with_reducible refine rd_NeI ?_ | with_reducible refine rd_EqB ?_ | with_reducible refine rd_NeB ?_ | with_reducible refine rd_call ?_ | with_reducible refine rd_BM ?_ | with_reducible refine rd_tup ?_ | with_reducible refine rd_lst ?_ | with_reducible refine rd_sl ?_ | with_reducible refine rd_noPart ?_ | with_reducible refine rd_part ?_ | with_reducible refine rd_exi ?_ | with_reducible refine rd_chain ?_ | with_reducible refine rd_comp ?_ | with_reducible refine rd_iL ?_ | with_reducible refine rd_iT ?_ | with_reducible refine rd_i1 ?_ | with_reducible refine rd_i2 ?_ | with_reducible refine rd_i3 ?_ | with_reducible refine rd_for ?_ | with_reducible refine rd_tTru ?_ | with_reducible refine rd_intB ?_ | with_reducible refine rd_max2 ?_ | with_reducible refine rd_min2 ?_ | with_reducible refine rd_sub ?_ | with_reducible refine rd_gcons ?_ | with_reducible refine rd_gnil ?_ | ((with_reducible apply rd_aug); (exact rfl)) | with_reducible refine rd_ipI ?_ | with_reducible refine rd_zip ?_ | with_reducible refine rd_rev ?_ | with_reducible refine rd_par ?_ | with_reducible refine rd_par2 ?_ | with_reducible refine rd_lam ?_ | with_reducible refine rd_calV ?_ | with_reducible refine rd_raise ?_ | with_reducible refine rd_fs ?_ | with_reducible refine rd_try ?_ | with_reducible refine rd_bseq ?_ | with_reducible refine rd_bnext ?_ | with_reducible refine rd_bplain ?_ | with_reducible refine rd_bif ?_ | with_reducible refine rd_bcall ?_ | with_reducible refine rd_enum ?_ | with_reducible refine rd_gget ?_ | with_reducible refine rd_gin ?_ | with_reducible refine rd_revL ?_ | with_reducible refine rd_leS ?_ | with_reducible refine rd_disp ?_ | with_reducible refine rd_dget ?_ | with_reducible refine rd_lrev ?_ | with_reducible refine rd_disp1 ?_ | with_reducible refine rd_din ?_ | with_reducible refine rd_dnin ?_ | with_reducible refine rd_dput ?_ | with_reducible refine rd_min3 ?_ | dsimp only))
theorem cutV_take (xs : List V) (n : Nat) : cutV xs none (some (n : Int)) = xs.take n := by
  unfold cutV
  rw [HT.sIx_none, HT.sIx_nat, List.drop_zero, Nat.sub_zero]
  rcases Nat.le_total n xs.length with h | h
  · rw [Nat.min_eq_left h]
  · rw [Nat.min_eq_right h, List.take_of_length_le (Nat.le_refl _), List.take_of_length_le h]
theorem cutV_drop (xs : List V) (n : Nat) : cutV xs (some (n : Int)) none = xs.drop n := by
  unfold cutV
  rw [HT.sIx_none, HT.sIx_nat]
  rcases Nat.le_total n xs.length with h | h
  · rw [Nat.min_eq_left h, List.take_of_length_le (by rw [List.length_drop]; exact Nat.le_refl _)]
  · rw [Nat.min_eq_right h, List.drop_of_length_le h, List.drop_of_length_le (Nat.le_refl _), List.take_nil]
theorem final_house {m o : Int} {ws : List Way} {n A b : Nat} (k : KnownH m ws o) (hn : (n : Int) ≤ 23 * m) (hA : A + ws.length ≤ 100) : HOuse m ((idlW m n).take A ++ ws.drop b ++ ws.take b) ∧ WithIdle ws ((idlW m n).take A ++ ws.drop b ++ ws.take b) := by
  have hmem : ∀ w, w ∈ (idlW m n).take A ++ ws.drop b ++ ws.take b → w ∈ idlW m n ∨ w ∈ ws := by
    intro w hw
    rw [List.mem_append, List.mem_append] at hw
    rcases hw with (h | h) | h
    · exact .inl (List.mem_of_mem_take h)
    · exact .inr (List.mem_of_mem_drop h)
    · exact .inr (List.mem_of_mem_take h)
  have hnd : (ws.take b ++ ws.drop b).Nodup := by rw [List.take_append_drop]; exact k.nd
  rw [List.nodup_append] at hnd
  refine ⟨⟨k.m1, k.m2, ?_, ?_, ?_⟩, ?_, ?_⟩
  · rw [List.length_append, List.length_append, List.length_take, List.length_drop, List.length_take]
    omega
  · intro w hw
    rcases hmem w hw with h | h
    · exact (idl_mem k.m1 h).2.1
    · exact k.ok w h
  · have hs : ∀ w ∈ idlW m n, ∀ u ∈ ws, w ≠ u := by
      intro w hw u hu e
      obtain ⟨_, _, c, hc, hcs⟩ := idl_mem k.m1 hw
      obtain ⟨c', hc', hcs'⟩ := k.sg u hu
      rw [e, hcs'] at hcs
      have : c' = c := by simpa using hcs
      omega
    rw [List.nodup_append, List.nodup_append]
    refine ⟨⟨(idl_nd k.m1 hn).sublist (List.take_sublist _ _), hnd.2.1, fun a ha b' hb e => hs a (List.mem_of_mem_take ha) b' (List.mem_of_mem_drop hb) e⟩, hnd.1, fun a ha b' hb e => ?_⟩
    rcases List.mem_append.mp ha with h | h
    · exact hs a (List.mem_of_mem_take h) b' (List.mem_of_mem_take hb) e
    · exact hnd.2.2 b' hb a h e.symm
  · intro w hw
    rcases hmem w hw with h | h
    · exact .inr (idl_mem k.m1 h).1
    · exact .inl h
  · intro w hw
    rw [← List.take_append_drop b ws] at hw
    rw [List.mem_append, List.mem_append]
    rcases List.mem_append.mp hw with h | h
    · exact .inr h
    · exact .inl (.inr h)
theorem stp_turn {z : Str} {n n' : Int} (hz : okDeed z) (n0 : 0 ≤ n) (h : stp z n = some n') : stp (turnD z) n' = some n := by
  rcases hz with rfl | rfl | rfl | rfl
  · have := stp_up_iff h
    rw [show turnD "up" = "down" by decide +kernel, stp_down_of (show 0 < n' by omega)]
    congr 1; omega
  · have := stp_down_iff h
    rw [show turnD "down" = "up" by decide +kernel, stp_up]
    congr 1; omega
  · have := stp_stay_iff h
    rw [show turnD "stay" = "stay" by decide +kernel, stp_stay, this]
  · have := stp_zero_iff h
    rw [show turnD "zero" = "zero" by decide +kernel, this.1, this.2, stp_zero_of]
theorem nxt_turn {m U : Int} {ws : List Way} (ok : HOuse m ws) {x y : Bfs.Pl} {k : Nat} (h0 : 0 ≤ x.2) (hU : x.2 ≤ U) (h : nxt ws U x k = some y) : nxt (ws.map Way.turn) U y k = some x := by
  obtain ⟨w, h1, h2, h3, h4, h5⟩ := nxt_of h
  have okw := ok.ok w (List.mem_of_getElem? h1)
  unfold nxt
  rw [List.getElem?_map, h1]
  show (if w.other = y.1 then _ else _) = _
  rw [if_pos h4.symm, show (Way.turn w).deed = turnD w.deed from rfl, stp_turn okw.dd h0 h3, Option.bind_some, if_pos hU]
  show some (w.room, x.2) = some x
  rw [h2]
theorem wk_turn {m U : Int} {ws : List Way} (ok : HOuse m ws) {x y : Bfs.Pl} {n : Nat} (h0 : 0 ≤ x.2) (hU : x.2 ≤ U) (h : Bfs.Wk (nxt ws U) x n y) : Bfs.Wk (nxt (ws.map Way.turn) U) y n x :=
  (h.rw.rev (S' := fun a c => ∃ k, nxt (ws.map Way.turn) U a k = some c) (I := fun a => 0 ≤ a.2 ∧ a.2 ≤ U) (fun a c ia hs => by
    obtain ⟨k, hk⟩ := hs
    have := nxt_in ok ia.1 hk
    exact ⟨⟨k, nxt_turn ok ia.1 ia.2 hk⟩, this.2.2.1, this.2.2.2⟩) ⟨h0, hU⟩).1.wk (fun a c h => h)
theorem dist_turn {m U : Int} {ws : List Way} (ok : HOuse m ws) {x y : Bfs.Pl} {n : Nat} (h0 : 0 ≤ x.2) (hU : x.2 ≤ U) (g0 : 0 ≤ y.2) (gU : y.2 ≤ U) (h : Bfs.Dist (nxt ws U) x n y) : Bfs.Dist (nxt (ws.map Way.turn) U) y n x := by
  refine ⟨wk_turn ok h0 hU h.1, fun k hk w => ?_⟩
  have := wk_turn ok.turn g0 gU w
  rw [turns_turn ok.ok] at this
  exact h.2 k hk this
theorem topOf_comm (m : Int) (x g : Bfs.Pl) : topOf m x g = topOf m g x := by
  unfold topOf
  congr 1
  split <;> split <;> omega
theorem LenIs.turn {m : Int} {ws : List Way} (ok : HOuse m ws) {x g : Bfs.Pl} (ix : inH m x) (ig : inH m g) {a : Int} (h : LenIs ws (topOf m x g) x g a) : LenIs (ws.map Way.turn) (topOf m g x) g x a := by
  have m1 := ok.m1
  have t := topOf_lo (m := m) (x := x) (g := g) (by omega)
  rw [topOf_comm m g x]
  rcases h with ⟨rfl, n1⟩ | ⟨n, rfl, d⟩
  · refine .inl ⟨rfl, fun n d => n1 n ?_⟩
    have := dist_turn ok.turn ig.2.2.1 t.2 ix.2.2.1 t.1 d
    rwa [turns_turn ok.ok] at this
  · exact .inr ⟨n, rfl, dist_turn ok ix.2.2.1 t.1 ig.2.2.1 t.2 d⟩
noncomputable def sp_law (K : PySem.W.Frag) : Sp := fun vs H Q _ => ∃ (a : Addr) (ns : List Int), vs = [.ref a] ∧ SqL K H a (ns.map V.int) ∧ ns.length ≤ 63 ∧ ∀ H', Q (.bl true) H'
theorem bmul {d : Int} (h0 : 0 ≤ d) (h1 : d < 96) (k : Bool) : 0 ≤ d * (if k = true then 1 else 0) ∧ d * (if k = true then 1 else 0) ≤ 1000 := by
  cases k <;> simp <;> omega
structure Hid (C : Prop) : Prop where
  out : C
theorem both {p : Bool} {A B C : Prop} (h : C) (h1 : Hid C → A) (h2 : Hid C → B) : if p = true then A else B := by
  cases p
  · exact h2 ⟨h⟩
  · exact h1 ⟨h⟩
noncomputable def k21N (H0 : Hp) (a dq : Addr) (mn rm : Int) (σ : St) (H' : Hp) : Prop := ∃ x y v o z mm ws, σ = [some (.ref a), some (.ref dq), some (.int mn), some (.int x), some (.int y), some (.int rm), some v, some (.int o), some (.int z), none, none, none, none] ∧ Ext H0 H' ∧
  0 ≤ x ∧ x ≤ 1000 ∧ 0 ≤ y ∧ y ≤ 1000 ∧ HouseAt H' v mm ws ∧ KnownH mm ws o ∧ (∀ ws', WithIdle ws ws' → LenIs ws' (topOf mm (0, x) (o, y)) (0, x) (o, y) z) ∧ z ≤ 2001
noncomputable abbrev s_law : Stmt := top 50
theorem sc_law : FnScope ["_law_script", "_law_draws_here", "_law_many", "_law_x", "_law_y", "_law_room", "_law_house", "_law_other", "_law_length", "_law_at", "_law_idle_here", "_law_turned", "_law_back"] ["_law_script"] (defScope s_law) := ⟨rfl, rfl, rfl, by decide +kernel, rfl, by decide +kernel, by decide +kernel⟩
theorem ok_law {P : Program} {w : World} {K : PySem.W.Frag} {mg : Str → Option Value} {base : Heap} {f : Addr} {fd : FuncData} (F : Fun K "law" "law" s_law f fd) (T : Blt mg) (C__law_right : Cal P w K mg base "_law_right" 8 ["_law_house", "_law_place", "_law_goal", "_law_length"] (sp__law_right K)) (C__law_idle : Cal P w K mg base "_law_idle" 1 ["_law_many", "_law_often"] (sp__law_idle K)) (C__law_clocks : Cal P w K mg base "_law_clocks" 1 ["_law_which", "_law_t"] (sp__law_clocks K)) (C__law_known : Cal P w K mg base "_law_known" 1 ["_law_way", "_law_many", "_law_x", "_law_y", "_law_room"] (sp__law_known K)) (C__law_number : Cal P w K mg base "_law_number" 3 ["_law_cell_here", "_law_prime"] (sp__law_number K)) (C__law_cell : Cal P w K mg base "_law_cell" 1 ["_law_script", "_law_k"] (sp__law_cell K)) (C__law_draws : Cal P w K mg base "_law_draws" 2 ["_law_cell_here", "_law_widths", "_law_prime"] (sp__law_draws K)) : FnOk P w K mg base CX0 9 f fd ["_law_script"] (sp_law K) := by
  have nd := (sc_law).nd
  refine F.ok sc_law (fun vs H Q E h => ?_) (fun cdv A outer s H vs Q E hr h => ?_)
  · obtain ⟨a, ns, rfl, _⟩ := h; rfl
  · obtain ⟨a, ns, rfl, ha, hl, q⟩ := h
    refine ⟨_, (no_implicit_lambda% (pss_cons (no_implicit_lambda% (ps_set (i := 1) nd rfl (Or.inl rfl) (no_implicit_lambda% (pe_cal C__law_draws hr (no_implicit_lambda% (pa_cons (no_implicit_lambda% (pe_cal C__law_cell hr (no_implicit_lambda% (pa_cons (no_implicit_lambda% (pv 0)) (no_implicit_lambda% (pa_cons pe_int pa_nil)))))) (no_implicit_lambda% (pa_cons (no_implicit_lambda% (pe_lst (no_implicit_lambda% (pa_ints (.c (.c (.c (.c (.c (.c .n)))))))))) (no_implicit_lambda% (pa_cons pe_int pa_nil))))))))))
        (no_implicit_lambda% (pss_cons (no_implicit_lambda% (ps_set (i := 2) nd rfl (Or.inl rfl) (no_implicit_lambda% (pe_op op_add pe_int (no_implicit_lambda% (pe_ix (ix_listK K) (no_implicit_lambda% (pv 1)) pe_int (fun _ _ => rfl)))))))
        (no_implicit_lambda% (pss_cons (no_implicit_lambda% (ps_set (i := 3) nd rfl (Or.inl rfl) (no_implicit_lambda% (pe_cal C__law_number hr (no_implicit_lambda% (pa_cons (no_implicit_lambda% (pe_cal C__law_cell hr (no_implicit_lambda% (pa_cons (no_implicit_lambda% (pv 0)) (no_implicit_lambda% (pa_cons pe_int pa_nil)))))) (no_implicit_lambda% (pa_cons pe_int pa_nil))))))))
        (no_implicit_lambda% (pss_cons (no_implicit_lambda% (ps_set (i := 4) nd rfl (Or.inl rfl) (no_implicit_lambda% (pe_cal C__law_number hr (no_implicit_lambda% (pa_cons (no_implicit_lambda% (pe_cal C__law_cell hr (no_implicit_lambda% (pa_cons (no_implicit_lambda% (pv 0)) (no_implicit_lambda% (pa_cons pe_int pa_nil)))))) (no_implicit_lambda% (pa_cons pe_int pa_nil))))))))
        (no_implicit_lambda% (pss_cons (no_implicit_lambda% (ps_set (i := 5) nd rfl (Or.inl rfl) (no_implicit_lambda% (pe_ix (ix_listK K) (no_implicit_lambda% (pv 1)) pe_int (fun _ _ => rfl)))))
        (no_implicit_lambda% (pss_cons (no_implicit_lambda% (ps_ifJ (no_implicit_lambda% (PW.pt (pw_and (no_implicit_lambda% (pt_cmpR op_eq (no_implicit_lambda% (pe_ix (ix_listK K) (no_implicit_lambda% (pv 1)) pe_int (fun _ _ => rfl))) pe_int (nomark _))) (pw_and1 (no_implicit_lambda% (pt_cmpR op_eq (no_implicit_lambda% (pe_ix (ix_listK K) (no_implicit_lambda% (pv 1)) pe_int (fun _ _ => rfl))) pe_int (nomark _))))))) (no_implicit_lambda% (pss_one (no_implicit_lambda% (ps_set (i := 4) nd rfl (Or.inl rfl) (no_implicit_lambda% (pe_callB (call_max2N rfl) rfl T.max_ PyProof.Rows.boot_max (no_implicit_lambda% (pa_cons (no_implicit_lambda% (pv 3)) (no_implicit_lambda% (pa_cons (no_implicit_lambda% (pe_callB (call_min2N rfl) rfl T.min_ PyProof.Rows.boot_min (no_implicit_lambda% (pa_cons pe_int (no_implicit_lambda% (pa_cons (no_implicit_lambda% (pe_op op_add (no_implicit_lambda% (pe_op op_add (no_implicit_lambda% (pv 3)) (no_implicit_lambda% (pe_op op_mul (no_implicit_lambda% (pe_op op_fdivL (no_implicit_lambda% (pv 4)) pe_int)) (no_implicit_lambda% (pv 2)))))) (no_implicit_lambda% (pe_op op_mod (no_implicit_lambda% (pv 5)) (no_implicit_lambda% (pv 2)))))) pa_nil)))))) pa_nil)))))))))) pss_nil))
        (no_implicit_lambda% (pss_cons (no_implicit_lambda% (ps_ifJ (no_implicit_lambda% (PW.pt (pw_and (no_implicit_lambda% (pt_cmpR op_eq (no_implicit_lambda% (pe_ix (ix_listK K) (no_implicit_lambda% (pv 1)) pe_int (fun _ _ => rfl))) pe_int (nomark _))) (pw_and1 (no_implicit_lambda% (pt_cmpR op_eq (no_implicit_lambda% (pe_ix (ix_listK K) (no_implicit_lambda% (pv 1)) pe_int (fun _ _ => rfl))) pe_int (nomark _))))))) (no_implicit_lambda% (pss_one (no_implicit_lambda% (ps_set (i := 3) nd rfl (Or.inl rfl) (no_implicit_lambda% (pe_callB (call_max2N rfl) rfl T.max_ PyProof.Rows.boot_max (no_implicit_lambda% (pa_cons (no_implicit_lambda% (pv 4)) (no_implicit_lambda% (pa_cons (no_implicit_lambda% (pe_callB (call_min2N rfl) rfl T.min_ PyProof.Rows.boot_min (no_implicit_lambda% (pa_cons pe_int (no_implicit_lambda% (pa_cons (no_implicit_lambda% (pe_op op_add (no_implicit_lambda% (pe_op op_add (no_implicit_lambda% (pv 4)) (no_implicit_lambda% (pe_op op_mul (no_implicit_lambda% (pe_op op_fdivL (no_implicit_lambda% (pv 3)) pe_int)) (no_implicit_lambda% (pv 2)))))) (no_implicit_lambda% (pe_op op_mod (no_implicit_lambda% (pv 5)) (no_implicit_lambda% (pv 2)))))) pa_nil)))))) pa_nil)))))))))) pss_nil))
        (no_implicit_lambda% (pss_cons (no_implicit_lambda% (ps_asg (no_implicit_lambda% (pe_cal C__law_known hr (no_implicit_lambda% (pa_cons (no_implicit_lambda% (pe_ix (ix_listK K) (no_implicit_lambda% (pv 1)) pe_int (fun _ _ => rfl))) (no_implicit_lambda% (pa_cons (no_implicit_lambda% (pv 2)) (no_implicit_lambda% (pa_cons (no_implicit_lambda% (pv 3)) (no_implicit_lambda% (pa_cons (no_implicit_lambda% (pv 4)) (no_implicit_lambda% (pa_cons (no_implicit_lambda% (pv 5)) pa_nil)))))))))))) (no_implicit_lambda% (pg_tupK (n := 3) K rfl (pgs_cons (no_implicit_lambda% (pg_name (i := 6) nd rfl (Or.inl rfl))) (pgs_cons (no_implicit_lambda% (pg_name (i := 7) nd rfl (Or.inl rfl))) (pgs_cons (no_implicit_lambda% (pg_name (i := 8) nd rfl (Or.inl rfl))) pgs_nil)))))))
        (no_implicit_lambda% (pss_cons (no_implicit_lambda% (ps_ifJ (no_implicit_lambda% (pt_cmpR op_gt (no_implicit_lambda% (pe_ix (ix_listK K) (no_implicit_lambda% (pv 1)) pe_int (fun _ _ => rfl))) pe_int (nomark _))) (no_implicit_lambda% (pss_cons (no_implicit_lambda% (ps_set (i := 3) nd rfl (Or.inl rfl) pe_int))
        (no_implicit_lambda% (pss_cons (no_implicit_lambda% (ps_set (i := 4) nd rfl (Or.inl rfl) pe_int))
        (no_implicit_lambda% (pss_one (no_implicit_lambda% (ps_asg (no_implicit_lambda% (pe_cal C__law_clocks hr (no_implicit_lambda% (pa_cons (no_implicit_lambda% (pe_op op_mod (no_implicit_lambda% (pe_ix (ix_listK K) (no_implicit_lambda% (pv 1)) pe_int (fun _ _ => rfl))) pe_int)) (no_implicit_lambda% (pa_cons (no_implicit_lambda% (pe_op op_add (no_implicit_lambda% (pe_ix (ix_listK K) (no_implicit_lambda% (pv 1)) pe_int (fun _ _ => rfl))) (no_implicit_lambda% (pe_op op_mul pe_int (no_implicit_lambda% (pe_op op_mod (no_implicit_lambda% (pe_ix (ix_listK K) (no_implicit_lambda% (pv 1)) pe_int (fun _ _ => rfl))) pe_int)))))) pa_nil)))))) (no_implicit_lambda% (pg_tupK (n := 3) K rfl (pgs_cons (no_implicit_lambda% (pg_name (i := 6) nd rfl (Or.inl rfl))) (pgs_cons (no_implicit_lambda% (pg_name (i := 7) nd rfl (Or.inl rfl))) (pgs_cons (no_implicit_lambda% (pg_name (i := 8) nd rfl (Or.inl rfl))) pgs_nil))))))))))))) pss_nil))
        (no_implicit_lambda% (pss_cons (no_implicit_lambda% (ps_set (i := 9) nd rfl (Or.inl rfl) (no_implicit_lambda% (pe_op op_mod (no_implicit_lambda% (pe_ix (ix_listK K) (no_implicit_lambda% (pv 1)) pe_int (fun _ _ => rfl))) (no_implicit_lambda% (pe_callB (call_lenK K) rfl T.len_ PySem.boot_len (no_implicit_lambda% (pa_cons (no_implicit_lambda% (pe_ix (ix_tupK K) (no_implicit_lambda% (pv 6)) pe_int (fun _ _ => rfl))) pa_nil))))))))
        (no_implicit_lambda% (pss_cons (no_implicit_lambda% (ps_set (i := 10) nd rfl (Or.inl rfl) (no_implicit_lambda% (pe_cal C__law_idle hr (no_implicit_lambda% (pa_cons (no_implicit_lambda% (pe_ix (ix_tupK K) (no_implicit_lambda% (pv 6)) pe_int (fun _ _ => rfl))) (no_implicit_lambda% (pa_cons (no_implicit_lambda% (pe_op op_mul (no_implicit_lambda% (pe_ix (ix_listK K) (no_implicit_lambda% (pv 1)) pe_int (fun _ _ => rfl))) (no_implicit_lambda% (pe_callTy call_intN rfl T.int_ PyProof.Rows.boot_int (no_implicit_lambda% (pa_cons (no_implicit_lambda% (pe_and (no_implicit_lambda% (pe_cmpR op_lt (no_implicit_lambda% (pe_ix (ix_listK K) (no_implicit_lambda% (pv 1)) pe_int (fun _ _ => rfl))) pe_int (nomark _))) (pe_one (no_implicit_lambda% (pe_cmpR op_lt (no_implicit_lambda% (pe_callB (call_max2N rfl) rfl T.max_ PyProof.Rows.boot_max (no_implicit_lambda% (pa_cons (no_implicit_lambda% (pv 3)) (no_implicit_lambda% (pa_cons (no_implicit_lambda% (pv 4)) pa_nil)))))) pe_int (nomark _)))))) pa_nil)))))) pa_nil))))))))
        (no_implicit_lambda% (pss_cons (no_implicit_lambda% (ps_set (i := 6) nd rfl (Or.inl rfl) (no_implicit_lambda% (pe_tup (no_implicit_lambda% (pa_cons (no_implicit_lambda% (pe_ix (ix_tupK K) (no_implicit_lambda% (pv 6)) pe_int (fun _ _ => rfl))) (no_implicit_lambda% (pa_cons (no_implicit_lambda% (pe_op op_catT1 (no_implicit_lambda% (pe_op op_catT1 (no_implicit_lambda% (pe_slice sl_tup1 (no_implicit_lambda% (pv 10)) po_none (po_some (no_implicit_lambda% (pe_op op_sub pe_int (no_implicit_lambda% (pe_callB (call_lenK K) rfl T.len_ PySem.boot_len (no_implicit_lambda% (pa_cons (no_implicit_lambda% (pe_ix (ix_tupK K) (no_implicit_lambda% (pv 6)) pe_int (fun _ _ => rfl))) pa_nil))))))))) (no_implicit_lambda% (pe_slice sl_tup1 (no_implicit_lambda% (pe_ix (ix_tupK K) (no_implicit_lambda% (pv 6)) pe_int (fun _ _ => rfl))) (po_some (no_implicit_lambda% (pv 9))) po_none)))) (no_implicit_lambda% (pe_slice sl_tup1 (no_implicit_lambda% (pe_ix (ix_tupK K) (no_implicit_lambda% (pv 6)) pe_int (fun _ _ => rfl))) po_none (po_some (no_implicit_lambda% (pv 9))))))) pa_nil))))))))
        (no_implicit_lambda% (pss_cons (no_implicit_lambda% (ps_set (i := 11) nd rfl (Or.inr rfl) (no_implicit_lambda% (pe_disp (no_implicit_lambda% (pps_cons pe_str pe_str (no_implicit_lambda% (pps_cons pe_str pe_str (no_implicit_lambda% (pps_cons pe_str pe_str (no_implicit_lambda% (pps_cons pe_str pe_str pps_nil)))))))) rfl rfl (by decide) (by decide)))))
        (no_implicit_lambda% (pss_cons (no_implicit_lambda% (ps_set (i := 12) nd rfl (Or.inl rfl) (no_implicit_lambda% (pe_tup (no_implicit_lambda% (pa_cons (no_implicit_lambda% (pe_ix (ix_tupK K) (no_implicit_lambda% (pv 6)) pe_int (fun _ _ => rfl))) (no_implicit_lambda% (pa_cons (no_implicit_lambda% (pe_callTy (call_tupK K) rfl T.tuple_ PyProof.Rows.boot_tuple (no_implicit_lambda% (pa_cons (no_implicit_lambda% (pe_comp ["_law_here", "_law_deed", "_law_there", "_law_sign"] [11] (no_implicit_lambda% (pi_tupK K (no_implicit_lambda% (pe_ix (ix_tupK K) (no_implicit_lambda% (pv 6)) pe_int (fun _ _ => rfl))))) (fun _ => (no_implicit_lambda% (pg_tupK (n := 4) K rfl (pgs_cons (no_implicit_lambda% (pg_name (i := 0) (show (["_law_here", "_law_deed", "_law_there", "_law_sign", "_law_turned"] : List Str).Nodup from by decide +kernel) rfl (Or.inl rfl) (Or.inr rfl))) (pgs_cons (no_implicit_lambda% (pg_name (i := 1) (show (["_law_here", "_law_deed", "_law_there", "_law_sign", "_law_turned"] : List Str).Nodup from by decide +kernel) rfl (Or.inl rfl) (Or.inr rfl))) (pgs_cons (no_implicit_lambda% (pg_name (i := 2) (show (["_law_here", "_law_deed", "_law_there", "_law_sign", "_law_turned"] : List Str).Nodup from by decide +kernel) rfl (Or.inl rfl) (Or.inr rfl))) (pgs_cons (no_implicit_lambda% (pg_name (i := 3) (show (["_law_here", "_law_deed", "_law_there", "_law_sign", "_law_turned"] : List Str).Nodup from by decide +kernel) rfl (Or.inl rfl) (Or.inr rfl))) pgs_nil))))))) (fun _ => pcs_nil) (fun _ => (no_implicit_lambda% (pe_tup (no_implicit_lambda% (pa_cons (no_implicit_lambda% (pv 2)) (no_implicit_lambda% (pa_cons (no_implicit_lambda% (pe_dget (hu_of hr) (no_implicit_lambda% (pv 4)) (no_implicit_lambda% (pv 1)) (fun _ _ => rfl))) (no_implicit_lambda% (pa_cons (no_implicit_lambda% (pv 0)) (no_implicit_lambda% (pa_cons (no_implicit_lambda% (pv 3)) pa_nil))))))))))))) pa_nil)))) pa_nil))))))))
        (no_implicit_lambda% (pss_cons (no_implicit_lambda% (ps_if (no_implicit_lambda% (pt_not (no_implicit_lambda% (pt_val (no_implicit_lambda% (pe_cal C__law_right hr (no_implicit_lambda% (pa_cons (no_implicit_lambda% (pv 6)) (no_implicit_lambda% (pa_cons (no_implicit_lambda% (pe_tup (no_implicit_lambda% (pa_cons pe_int (no_implicit_lambda% (pa_cons (no_implicit_lambda% (pv 3)) pa_nil)))))) (no_implicit_lambda% (pa_cons (no_implicit_lambda% (pe_tup (no_implicit_lambda% (pa_cons (no_implicit_lambda% (pv 7)) (no_implicit_lambda% (pa_cons (no_implicit_lambda% (pv 4)) pa_nil)))))) (no_implicit_lambda% (pa_cons (no_implicit_lambda% (pv 8)) pa_nil)))))))))))))) (no_implicit_lambda% (pss_one (no_implicit_lambda% (ps_ret pe_bl)))) pss_nil))
        (no_implicit_lambda% (pss_one (no_implicit_lambda% (ps_ret (no_implicit_lambda% (pe_cal C__law_right hr (no_implicit_lambda% (pa_cons (no_implicit_lambda% (pv 12)) (no_implicit_lambda% (pa_cons (no_implicit_lambda% (pe_tup (no_implicit_lambda% (pa_cons (no_implicit_lambda% (pv 7)) (no_implicit_lambda% (pa_cons (no_implicit_lambda% (pv 4)) pa_nil)))))) (no_implicit_lambda% (pa_cons (no_implicit_lambda% (pe_tup (no_implicit_lambda% (pa_cons pe_int (no_implicit_lambda% (pa_cons (no_implicit_lambda% (pv 3)) pa_nil)))))) (no_implicit_lambda% (pa_cons (no_implicit_lambda% (pv 8)) pa_nil)))))))))))))))))))))))))))))))))))))))))))), ?_⟩
    walk_at "rd"
    refine ⟨a, ns, 0, rfl, ha, hl, by decide, fun z => ?_⟩
    walk_at "rd"
    refine ⟨small_line (by simp), rd_new fun w0 G1 f1 hw0 _ => ?_⟩
    walk_at "rd"
    refine ⟨z, w0, [6, 12, 12, 2, 12, 96], _, rfl, hw0, by decide, by decide, by decide, fun dq ds H1 e1 hd _ hdl hdb => ?_⟩
    have eH : Ext H H1 := f1.trans e1
    obtain ⟨d0, g0, b00, b01⟩ := draws_at hdl hdb 0 rfl
    obtain ⟨d1, g1, b10, b11⟩ := draws_at hdl hdb 1 rfl
    obtain ⟨d2, g2, b20, b21⟩ := draws_at hdl hdb 2 rfl
    obtain ⟨d3, g3, b30, b31⟩ := draws_at hdl hdb 3 rfl
    obtain ⟨d4, g4, b40, b41⟩ := draws_at hdl hdb 4 rfl
    obtain ⟨d5, g5, b50, b51⟩ := draws_at hdl hdb 5 rfl
    clear hdl hdb
    walk_at "rd"
    refine rd_ixL (SqL.of hd) g1 ?_
    walk_at "rd"
    refine ⟨a, ns, 1, rfl, ha.ext eH, hl, by decide, fun z2 => ?_⟩
    walk_at "rd"
    refine ⟨z2, _, rfl, by decide, fun x H2 e2 x0 x1 => ?_⟩
    walk_at "rd"
    refine ⟨a, ns, 2, rfl, ha.ext (eH.trans e2), hl, by decide, fun z3 => ?_⟩
    walk_at "rd"
    refine ⟨z3, _, rfl, by decide, fun y H3 e3 y0 y1 => ?_⟩
    have hd3 := (e2.trans e3) _ _ hd
    clear hd e1 f1 hw0 e2 e3 eH ha
    walk_at "rd"
    refine rd_ixL (SqL.of hd3) g2 ?_
    walk_at "rd"
    refine ⟨fun σ' H' => ∃ y', 0 ≤ y' ∧ y' ≤ 1000 ∧ σ' = [some (.ref a), some (.ref dq), some (.int (1 + d1)), some (.int x), some (.int y'), some (.int d2), none, none, none, none, none, none, none] ∧ H' = H3, ?_, ?_⟩
    · walk_at "rd"
      refine rd_ixL (SqL.of hd3) g3 ?_
      walk_at "rd"
      refine ite2 (fun h => ?_) (fun h => ?_)
      · walk_at "rd"
        refine rd_ixL (SqL.of hd3) g0 ?_
        walk_at "rd"
        refine ite2 (fun h => ?_) (fun h => ?_)
        · walk_at "rd"
          try refine rd_I (.inl ⟨by omega, by omega⟩) ?_
          walk_at "rd"
          try refine rd_I (show (0 : Int) < 1 + d1 by omega) ?_
          walk_at "rd"
          refine ⟨_, ?_, ?_, rfl, rfl⟩ <;> (split <;> (try split) <;> omega)
        · walk_at "rd"
          exact ⟨y, y0, y1, rfl, rfl⟩
      · refine iteF ?_
        walk_at "rd"
        exact ⟨y, y0, y1, rfl, rfl⟩
    · rintro σ' H' ⟨y', y0', y1', rfl, rfl⟩
      clear y0 y1 y
      walk_at "rd"
      refine ⟨fun σ' H2 => ∃ x', 0 ≤ x' ∧ x' ≤ 1000 ∧ σ' = [some (.ref a), some (.ref dq), some (.int (1 + d1)), some (.int x'), some (.int y'), some (.int d2), none, none, none, none, none, none, none] ∧ H2 = H', ?_, ?_⟩
      · walk_at "rd"
        refine rd_ixL (SqL.of hd3) g3 ?_
        walk_at "rd"
        refine ite2 (fun h => ?_) (fun h => ?_)
        · walk_at "rd"
          refine rd_ixL (SqL.of hd3) g0 ?_
          walk_at "rd"
          refine ite2 (fun h => ?_) (fun h => ?_)
          · walk_at "rd"
            try refine rd_I (.inl ⟨by omega, by omega⟩) ?_
            walk_at "rd"
            try refine rd_I (show (0 : Int) < 1 + d1 by omega) ?_
            walk_at "rd"
            refine ⟨_, ?_, ?_, rfl, rfl⟩ <;> (split <;> (try split) <;> omega)
          · walk_at "rd"
            exact ⟨x, x0, x1, rfl, rfl⟩
        · refine iteF ?_
          walk_at "rd"
          exact ⟨x, x0, x1, rfl, rfl⟩
      · rintro σ' H2 ⟨x', x0', x1', rfl, rfl⟩
        clear x0 x1 x
        walk_at "rd"
        refine rd_ixL (SqL.of hd3) g0 ?_
        walk_at "rd"
        refine ⟨d0, 1 + d1, x', y', d2, rfl, by omega, by omega, x0', x1', y0', y1', fun t v mm ws o z H4 e4 ht hv kn len hz => ?_⟩
        walk_at "rd"
        refine rd_gtup (SqT.of ht) rfl ?_
        walk_at "rd"
        have hd4 := e4 _ _ hd3
        have len' : ∀ ws', WithIdle ws ws' → LenIs ws' (topOf mm (0, x') (o, y')) (0, x') (o, y') z := fun ws' he => by
          have t := topOf_lo (m := mm) (x := (0, x')) (g := (o, y')) (by have := kn.m1; omega)
          exact len ws' _ he t.1 t.2
        refine ⟨k21N H4 a dq (1 + d1) d2, ?_, ?_⟩
        · walk_at "rd"
          refine rd_ixL (SqL.of hd4) g0 ?_
          walk_at "rd"
          refine ite2 (fun h => ?_) (fun h => ?_)
          · walk_at "rd"
            refine rd_ixL (SqL.of hd4) g1 ?_
            walk_at "rd"
            refine rd_ixL (SqL.of hd4) g2 ?_
            walk_at "rd"
            refine rd_ixL (SqL.of hd4) g4 ?_
            walk_at "rd"
            refine ⟨d1 % 6, _, rfl, by omega, by omega, by omega, fun t2 v2 mm2 ws2 o2 z2 H5 e5 ht2 hv2 kn2 len2 hz2 h9 => ?_⟩
            walk_at "rd"
            refine rd_gtup (SqT.of ht2) rfl ?_
            walk_at "rd"
            refine ⟨0, 0, v2, o2, z2, mm2, ws2, rfl, e5, by decide, by decide, by decide, by decide, hv2, kn2, fun ws' he => len2 ws' _ he ?_, hz2⟩
            have := Int.mul_le_mul h9 h9 (by decide) (by omega)
            unfold topOf
            split <;> omega
          · walk_at "rd"
            exact ⟨x', y', v, o, z, mm, ws, rfl, Ext.rfl' _, x0', x1', y0', y1', hv, kn, len', hz⟩
        · clear len' len hz kn hv ht y0' y1' x0' x1'
          rintro σ' H5 ⟨x, y, v, o, z, mm, ws, rfl, e5, x0, x1, y0, y1, hv, kn, len, hz⟩
          have hd5 := e5 _ _ hd4
          obtain ⟨hh, t, rfl, k1, k2⟩ := hv
          obtain ⟨cs, k3, al⟩ := WaysAt.al k2
          have l0 := kn.l0
          have l1 := kn.l1
          have m1 := kn.m1
          have m2 := kn.m2
          have o0 := kn.o0
          have o1 := kn.o1
          walk_at "rd"
          refine rd_ixL (SqL.of hd5) g4 ?_
          walk_at "rd"
          refine rd_ixT (SqT.of k1) (v := .ref t) rfl ?_
          walk_at "rd"
          refine rd_lenT (SqT.of k3) ?_
          rw [List.length_map, al.1]
          walk_at "rd"
          try refine rd_I (show (0 : Int) < ((ws.length : Nat) : Int) by omega) ?_
          walk_at "rd"
          have at0 : 0 ≤ d4 % ((ws.length : Nat) : Int) := Int.emod_nonneg _ (by omega)
          obtain ⟨b, hb⟩ := Int.eq_ofNat_of_zero_le at0
          rw [hb]
          clear at0 hb
          refine rd_ixT (SqT.of k1) (v := .int mm) rfl ?_
          walk_at "rd"
          refine rd_ixL (SqL.of hd5) g5 ?_
          walk_at "rd"
          refine rd_ixL (SqL.of hd5) g4 ?_
          walk_at "rd"
          apply both
          case h1 =>
            intro c
            walk_at "rd"
            try refine rd_I (.inl ⟨by omega, by omega⟩) ?_
            walk_at "rd"
            exact ⟨mm, _, rfl, m1, m2, (bmul b50 b51 _).1, (bmul b50 b51 _).2, c.out⟩
          case h2 =>
            intro c
            walk_at "rd"
            try refine rd_I (.inl ⟨by omega, by omega⟩) ?_
            walk_at "rd"
            exact ⟨mm, _, rfl, m1, m2, by simp, by simp, c.out⟩
          case h =>
            intro t6 bs n H6 e6 ht6 hal6 hn6
            have k16 := e6 _ _ k1
            have k36 := e6 _ _ k3
            have al6 := al.ext e6
            obtain ⟨fh, wi⟩ := final_house (A := 100 - ws.length) (b := b) kn hn6 (by omega)
            have hlen := len _ wi
            walk_at "rd"
            refine rd_ixT (SqT.of k16) (v := .int mm) rfl ?_
            walk_at "rd"
            refine rd_ixT (SqT.of k16) (v := .ref t) rfl ?_
            walk_at "rd"
            refine rd_lenT (SqT.of k36) ?_
            rw [List.length_map, al.1]
            walk_at "rd"
            refine rd_slT1 ht6 fun p1 G1 f1 hp1 => ?_
            rw [show (100 : Int) - ((ws.length : Nat) : Int) = ((100 - ws.length : Nat) : Int) by omega, cutV_take, ← List.map_take] at hp1
            walk_at "rd"
            refine rd_ixT (SqT.of (f1 _ _ k16)) (v := .ref t) rfl ?_
            walk_at "rd"
            refine rd_slT1 (f1 _ _ k36) fun p2 G2 f2 hp2 => ?_
            rw [cutV_drop, ← List.map_drop] at hp2
            walk_at "rd"
            refine rd_catT1 (f2 _ _ hp1) hp2 (small9 (by rw [List.length_map, List.length_map, List.length_take, List.length_drop, al.1]; omega)) fun p3 G3 f3 hp3 => ?_
            rw [← List.map_append] at hp3
            walk_at "rd"
            refine rd_ixT (SqT.of ((f1.trans (f2.trans f3)) _ _ k16)) (v := .ref t) rfl ?_
            walk_at "rd"
            refine rd_slT1 ((f1.trans (f2.trans f3)) _ _ k36) fun p4 G4 f4 hp4 => ?_
            rw [cutV_take, ← List.map_take] at hp4
            walk_at "rd"
            refine rd_catT1 (f4 _ _ hp3) hp4 (small9 (by rw [List.length_map, List.length_map, List.length_append, List.length_take, List.length_take, List.length_drop, al.1]; omega)) fun p5 G5 f5 hp5 => ?_
            rw [← List.map_append] at hp5
            walk_at "rd"
            refine ⟨small_line (by simp), rd_new fun nh G6 f6 hnh _ => ?_⟩
            have e56 := e6.trans (f1.trans (f2.trans (f3.trans (f4.trans (f5.trans f6)))))
            have h66 := f1.trans (f2.trans (f3.trans (f4.trans (f5.trans f6))))
            have hal : AlW G6 (bs.take (100 - ws.length) ++ cs.drop b ++ cs.take b) ((idlW mm n).take (100 - ws.length) ++ ws.drop b ++ ws.take b) := (((hal6.take _).app (al6.drop _)).app (al6.take _)).ext h66
            have hv6 : HouseAt G6 (.ref nh) mm ((idlW mm n).take (100 - ws.length) ++ ws.drop b ++ ws.take b) := HouseAt.mk hnh (hal.ways (f6 _ _ hp5))
            have hp56 := f6 _ _ hp5
            generalize (idlW mm n).take (100 - ws.length) ++ ws.drop b ++ ws.take b = us at fh wi hlen hal hv6
            generalize bs.take (100 - ws.length) ++ cs.drop b ++ cs.take b = xs at hal hp56
            clear hp1 hp2 hp3 hp4 hp5 f1 f2 f3 f4 f5 f6 k16 k36 al6 ht6 hal6 hn6 h66 e6
            walk_at "rd"
            intro dp hdp
            show _ ∧ _
            refine ⟨upd_same, gd_TURNED, rfl, by decide, ?_⟩
            have hD : upd (upd G6 dp (.dK [])) dp (.dK (mergeK [] gd_TURNED)) dp = some (.dK gd_TURNED) := upd_same
            have eD : Ext G6 (upd (upd G6 dp (.dK [])) dp (.dK (mergeK [] gd_TURNED))) := ext_write (ext_upd hdp) hdp
            generalize upd (upd G6 dp (.dK [])) dp (.dK (mergeK [] gd_TURNED)) = G7 at hD eD ⊢
            have hfew := fh.few
            have alD := hal.ext eD
            walk_at "rd"
            refine rd_ixT (SqT.of (eD _ _ hnh)) (v := .int mm) rfl ?_
            walk_at "rd"
            refine rd_ixT (SqT.of (eD _ _ hnh)) (v := .ref p5) rfl ?_
            have g3 := eD _ _ hp56
            refine rd_iTx (SqT.of g3) ?_
            refine comp_tup (xs := xs.map V.ref) (fun i zs H' => Ext G7 H' ∧ ∃ cs : List Addr, zs = cs.map V.ref ∧ AlW H' cs ((us.take i).map Way.turn)) (small9 (by rw [List.length_map, alD.1]; omega)) ⟨Ext.rfl' _, [], rfl, AlW.nil _⟩ (fun i zs H' hi h => ⟨SqT.of (h.1 _ _ g3), by obtain ⟨_, cs, rfl, hc⟩ := h; rw [List.length_map, hc.1, List.length_map, List.length_take]; omega⟩) ?_ ?_
            · rintro i u zs G8 hu ⟨f2, cs, rfl, hcs⟩
              rw [List.getElem?_map] at hu
              obtain ⟨b, hb, rfl⟩ := Option.map_eq_some_iff.mp hu
              have hi : i < us.length := by
                rw [← alD.1]
                exact (List.getElem?_eq_some_iff.mp hb).1
              have hwi : us[i]? = some us[i] := List.getElem?_eq_getElem hi
              have hw := f2 _ _ (alD.2 i b _ hb hwi)
              have okw := fh.ok _ (List.getElem_mem hi)
              refine rd_gtup (SqT.of hw) rfl ?_
              walk_at "rd"
              refine iteT ?_
              walk_at "rd"
              refine ⟨dp, .str (turnD us[i].deed), rfl, .inl ⟨gd_TURNED, .inr us[i].deed, .inl (f2 _ _ hD), rfl, (gd_has okw.dd).symm⟩, ?_⟩
              walk_at "rd"
              refine ⟨small_line (by simp), rd_new fun c G9 f3 hc _ => ?_⟩
              refine ⟨f2.trans f3, cs ++ [c], by rw [List.map_append]; rfl, ?_⟩
              rw [List.take_add_one, hwi, List.map_append]
              exact (hcs.ext f3).snoc (w := us[i].turn) hc
            · rintro zs G8 p ⟨f2, cs8, rfl, hcs⟩ hp
              rw [List.length_map, alD.1, List.take_length] at hcs
              walk_at "rd"
              have f2p : Ext G7 (upd G8 p (.lst (cs8.map V.ref))) := f2.trans (ext_upd hp)
              have hcs' := hcs.ext (ext_upd (o := .lst (cs8.map V.ref)) hp)
              refine rd_tupL (SqL.of upd_same) (rd_new fun r I1 i1 hr1 _ => ?_)
              walk_at "rd"
              refine ⟨small_line (by simp), rd_new fun u I2 i2 hu _ => ?_⟩
              have hb : HouseAt I2 (.ref u) mm (us.map Way.turn) := HouseAt.mk hu (((hcs'.ext i1).ways hr1).ext i2)
              have eI := eD.trans (f2p.trans (i1.trans i2))
              walk_at "rd"
              refine ⟨small_line (by simp), rd_new fun q1 I3 i3 hq1 _ => ?_⟩
              walk_at "rd"
              refine ⟨small_line (by simp), rd_new fun q2 I4 i4 hq2 _ => ?_⟩
              walk_at "rd"
              have ix : inH mm (0, x) := ⟨Int.le_refl 0, by show (0 : Int) < mm; omega, x0, x1⟩
              have iy : inH mm (o, y) := ⟨o0, o1, y0, y1⟩
              refine ⟨_, mm, us, q1, q2, (0, x), (o, y), z, rfl, hv6.ext (eI.trans (i3.trans i4)), fh, i4 _ _ hq1, hq2, ix, iy, hlen, by omega, fun I5 i5 => ?_⟩
              refine rd_exb (iteF ?_)
              walk_at "rd"
              refine ⟨small_line (by simp), rd_new fun q3 I6 i6 hq3 _ => ?_⟩
              walk_at "rd"
              refine ⟨small_line (by simp), rd_new fun q4 I7 i7 hq4 _ => ?_⟩
              walk_at "rd"
              exact ⟨_, mm, _, q3, q4, (o, y), (0, x), z, rfl, hb.ext (i3.trans (i4.trans (i5.trans (i6.trans i7)))), fh.turn, i7 _ _ hq3, hq4, iy, ix, hlen.turn fh ix iy, by omega, fun I8 i8 => q _⟩
theorem all_mk {l : PySem.W.OpenLaw} {w : World} {K : PySem.W.Frag} {h : Heap} {mg : Str → Option Value} {fa : Addr} (X : K.In h) (G : h.Ns mainGlobals mg) (hfa : mg "law" = some (.ref fa))
    {f0 : Addr} {od0 an0 : Option Addr} {sl0 : Array (Option Value)} {oc0 kV0 dc0 pm0 cd0 ct0 : Value} (a0 : PySem.W.nsIn K mainGlobals "raised_by" = some (some (.ref f0))) (l0 : K.lookup f0 = some ⟨oc0, od0, .func (PySem.W.fnOf "raised_by" "raised_by" (defArgs s_raised_by) (defBody s_raised_by) (defScope s_raised_by) .none kV0 dc0 pm0 an0 cd0 ct0), sl0⟩) (c0 : PySem.W.codeIn K cd0 "raised_by" = true) (k0 : PySem.W.keepIn K (.ref f0) = true)
    {f1 : Addr} {od1 an1 : Option Addr} {sl1 : Array (Option Value)} {oc1 kV1 dc1 pm1 cd1 ct1 : Value} (a1 : PySem.W.nsIn K mainGlobals "led_to" = some (some (.ref f1))) (l1 : K.lookup f1 = some ⟨oc1, od1, .func (PySem.W.fnOf "led_to" "led_to" (defArgs s_led_to) (defBody s_led_to) (defScope s_led_to) .none kV1 dc1 pm1 an1 cd1 ct1), sl1⟩) (c1 : PySem.W.codeIn K cd1 "led_to" = true) (k1 : PySem.W.keepIn K (.ref f1) = true)
    {f2 : Addr} {od2 an2 : Option Addr} {sl2 : Array (Option Value)} {oc2 kV2 dc2 pm2 cd2 ct2 : Value} (a2 : PySem.W.nsIn K mainGlobals "is_open" = some (some (.ref f2))) (l2 : K.lookup f2 = some ⟨oc2, od2, .func (PySem.W.fnOf "is_open" "is_open" (defArgs s_is_open) (defBody s_is_open) (defScope s_is_open) .none kV2 dc2 pm2 an2 cd2 ct2), sl2⟩) (c2 : PySem.W.codeIn K cd2 "is_open" = true) (k2 : PySem.W.keepIn K (.ref f2) = true)
    {f3 : Addr} {od3 an3 : Option Addr} {sl3 : Array (Option Value)} {oc3 kV3 dc3 pm3 cd3 ct3 : Value} (a3 : PySem.W.nsIn K mainGlobals "can_go" = some (some (.ref f3))) (l3 : K.lookup f3 = some ⟨oc3, od3, .func (PySem.W.fnOf "can_go" "can_go" (defArgs s_can_go) (defBody s_can_go) (defScope s_can_go) .none kV3 dc3 pm3 an3 cd3 ct3), sl3⟩) (c3 : PySem.W.codeIn K cd3 "can_go" = true) (k3 : PySem.W.keepIn K (.ref f3) = true)
    {f4 : Addr} {od4 an4 : Option Addr} {sl4 : Array (Option Value)} {oc4 kV4 dc4 pm4 cd4 ct4 : Value} (a4 : PySem.W.nsIn K mainGlobals "places_gone" = some (some (.ref f4))) (l4 : K.lookup f4 = some ⟨oc4, od4, .func (PySem.W.fnOf "places_gone" "places_gone" (defArgs s_places_gone) (defBody s_places_gone) (defScope s_places_gone) .none kV4 dc4 pm4 an4 cd4 ct4), sl4⟩) (c4 : PySem.W.codeIn K cd4 "places_gone" = true) (k4 : PySem.W.keepIn K (.ref f4) = true)
    {f5 : Addr} {od5 an5 : Option Addr} {sl5 : Array (Option Value)} {oc5 kV5 dc5 pm5 cd5 ct5 : Value} (a5 : PySem.W.nsIn K mainGlobals "refuse_long_walk" = some (some (.ref f5))) (l5 : K.lookup f5 = some ⟨oc5, od5, .func (PySem.W.fnOf "refuse_long_walk" "refuse_long_walk" (defArgs s_refuse_long_walk) (defBody s_refuse_long_walk) (defScope s_refuse_long_walk) .none kV5 dc5 pm5 an5 cd5 ct5), sl5⟩) (c5 : PySem.W.codeIn K cd5 "refuse_long_walk" = true) (k5 : PySem.W.keepIn K (.ref f5) = true)
    {f6 : Addr} {od6 an6 : Option Addr} {sl6 : Array (Option Value)} {oc6 kV6 dc6 pm6 cd6 ct6 : Value} (a6 : PySem.W.nsIn K mainGlobals "is_whole" = some (some (.ref f6))) (l6 : K.lookup f6 = some ⟨oc6, od6, .func (PySem.W.fnOf "is_whole" "is_whole" (defArgs s_is_whole) (defBody s_is_whole) (defScope s_is_whole) .none kV6 dc6 pm6 an6 cd6 ct6), sl6⟩) (c6 : PySem.W.codeIn K cd6 "is_whole" = true) (k6 : PySem.W.keepIn K (.ref f6) = true)
    {f7 : Addr} {od7 an7 : Option Addr} {sl7 : Array (Option Value)} {oc7 kV7 dc7 pm7 cd7 ct7 : Value} (a7 : PySem.W.nsIn K mainGlobals "is_room" = some (some (.ref f7))) (l7 : K.lookup f7 = some ⟨oc7, od7, .func (PySem.W.fnOf "is_room" "is_room" (defArgs s_is_room) (defBody s_is_room) (defScope s_is_room) .none kV7 dc7 pm7 an7 cd7 ct7), sl7⟩) (c7 : PySem.W.codeIn K cd7 "is_room" = true) (k7 : PySem.W.keepIn K (.ref f7) = true)
    {f8 : Addr} {od8 an8 : Option Addr} {sl8 : Array (Option Value)} {oc8 kV8 dc8 pm8 cd8 ct8 : Value} (a8 : PySem.W.nsIn K mainGlobals "refuse_bad_places" = some (some (.ref f8))) (l8 : K.lookup f8 = some ⟨oc8, od8, .func (PySem.W.fnOf "refuse_bad_places" "refuse_bad_places" (defArgs s_refuse_bad_places) (defBody s_refuse_bad_places) (defScope s_refuse_bad_places) .none kV8 dc8 pm8 an8 cd8 ct8), sl8⟩) (c8 : PySem.W.codeIn K cd8 "refuse_bad_places" = true) (k8 : PySem.W.keepIn K (.ref f8) = true)
    {f9 : Addr} {od9 an9 : Option Addr} {sl9 : Array (Option Value)} {oc9 kV9 dc9 pm9 cd9 ct9 : Value} (a9 : PySem.W.nsIn K mainGlobals "is_sign" = some (some (.ref f9))) (l9 : K.lookup f9 = some ⟨oc9, od9, .func (PySem.W.fnOf "is_sign" "is_sign" (defArgs s_is_sign) (defBody s_is_sign) (defScope s_is_sign) .none kV9 dc9 pm9 an9 cd9 ct9), sl9⟩) (c9 : PySem.W.codeIn K cd9 "is_sign" = true) (k9 : PySem.W.keepIn K (.ref f9) = true)
    {f10 : Addr} {od10 an10 : Option Addr} {sl10 : Array (Option Value)} {oc10 kV10 dc10 pm10 cd10 ct10 : Value} (a10 : PySem.W.nsIn K mainGlobals "is_deed" = some (some (.ref f10))) (l10 : K.lookup f10 = some ⟨oc10, od10, .func (PySem.W.fnOf "is_deed" "is_deed" (defArgs s_is_deed) (defBody s_is_deed) (defScope s_is_deed) .none kV10 dc10 pm10 an10 cd10 ct10), sl10⟩) (c10 : PySem.W.codeIn K cd10 "is_deed" = true) (k10 : PySem.W.keepIn K (.ref f10) = true)
    {f11 : Addr} {od11 an11 : Option Addr} {sl11 : Array (Option Value)} {oc11 kV11 dc11 pm11 cd11 ct11 : Value} (a11 : PySem.W.nsIn K mainGlobals "is_way" = some (some (.ref f11))) (l11 : K.lookup f11 = some ⟨oc11, od11, .func (PySem.W.fnOf "is_way" "is_way" (defArgs s_is_way) (defBody s_is_way) (defScope s_is_way) .none kV11 dc11 pm11 an11 cd11 ct11), sl11⟩) (c11 : PySem.W.codeIn K cd11 "is_way" = true) (k11 : PySem.W.keepIn K (.ref f11) = true)
    {f12 : Addr} {od12 an12 : Option Addr} {sl12 : Array (Option Value)} {oc12 kV12 dc12 pm12 cd12 ct12 : Value} (a12 : PySem.W.nsIn K mainGlobals "are_ways" = some (some (.ref f12))) (l12 : K.lookup f12 = some ⟨oc12, od12, .func (PySem.W.fnOf "are_ways" "are_ways" (defArgs s_are_ways) (defBody s_are_ways) (defScope s_are_ways) .none kV12 dc12 pm12 an12 cd12 ct12), sl12⟩) (c12 : PySem.W.codeIn K cd12 "are_ways" = true) (k12 : PySem.W.keepIn K (.ref f12) = true)
    {f13 : Addr} {od13 an13 : Option Addr} {sl13 : Array (Option Value)} {oc13 kV13 dc13 pm13 cd13 ct13 : Value} (a13 : PySem.W.nsIn K mainGlobals "is_house" = some (some (.ref f13))) (l13 : K.lookup f13 = some ⟨oc13, od13, .func (PySem.W.fnOf "is_house" "is_house" (defArgs s_is_house) (defBody s_is_house) (defScope s_is_house) .none kV13 dc13 pm13 an13 cd13 ct13), sl13⟩) (c13 : PySem.W.codeIn K cd13 "is_house" = true) (k13 : PySem.W.keepIn K (.ref f13) = true)
    {f14 : Addr} {od14 an14 : Option Addr} {sl14 : Array (Option Value)} {oc14 kV14 dc14 pm14 cd14 ct14 : Value} (a14 : PySem.W.nsIn K mainGlobals "refuse_no_house" = some (some (.ref f14))) (l14 : K.lookup f14 = some ⟨oc14, od14, .func (PySem.W.fnOf "refuse_no_house" "refuse_no_house" (defArgs s_refuse_no_house) (defBody s_refuse_no_house) (defScope s_refuse_no_house) .none kV14 dc14 pm14 an14 cd14 ct14), sl14⟩) (c14 : PySem.W.codeIn K cd14 "refuse_no_house" = true) (k14 : PySem.W.keepIn K (.ref f14) = true)
    {f15 : Addr} {od15 an15 : Option Addr} {sl15 : Array (Option Value)} {oc15 kV15 dc15 pm15 cd15 ct15 : Value} (a15 : PySem.W.nsIn K mainGlobals "walked" = some (some (.ref f15))) (l15 : K.lookup f15 = some ⟨oc15, od15, .func (PySem.W.fnOf "walked" "walked" (defArgs s_walked) (defBody s_walked) (defScope s_walked) .none kV15 dc15 pm15 an15 cd15 ct15), sl15⟩) (c15 : PySem.W.codeIn K cd15 "walked" = true) (k15 : PySem.W.keepIn K (.ref f15) = true)
    {f16 : Addr} {od16 an16 : Option Addr} {sl16 : Array (Option Value)} {oc16 kV16 dc16 pm16 cd16 ct16 : Value} (a16 : PySem.W.nsIn K mainGlobals "_law_behind" = some (some (.ref f16))) (l16 : K.lookup f16 = some ⟨oc16, od16, .func (PySem.W.fnOf "_law_behind" "_law_behind" (defArgs s__law_behind) (defBody s__law_behind) (defScope s__law_behind) .none kV16 dc16 pm16 an16 cd16 ct16), sl16⟩) (c16 : PySem.W.codeIn K cd16 "_law_behind" = true) (k16 : PySem.W.keepIn K (.ref f16) = true)
    {f17 : Addr} {od17 an17 : Option Addr} {sl17 : Array (Option Value)} {oc17 kV17 dc17 pm17 cd17 ct17 : Value} (a17 : PySem.W.nsIn K mainGlobals "_law_gone" = some (some (.ref f17))) (l17 : K.lookup f17 = some ⟨oc17, od17, .func (PySem.W.fnOf "_law_gone" "_law_gone" (defArgs s__law_gone) (defBody s__law_gone) (defScope s__law_gone) .none kV17 dc17 pm17 an17 cd17 ct17), sl17⟩) (c17 : PySem.W.codeIn K cd17 "_law_gone" = true) (k17 : PySem.W.keepIn K (.ref f17) = true)
    {f18 : Addr} {od18 an18 : Option Addr} {sl18 : Array (Option Value)} {oc18 kV18 dc18 pm18 cd18 ct18 : Value} (a18 : PySem.W.nsIn K mainGlobals "_law_whole" = some (some (.ref f18))) (l18 : K.lookup f18 = some ⟨oc18, od18, .func (PySem.W.fnOf "_law_whole" "_law_whole" (defArgs s__law_whole) (defBody s__law_whole) (defScope s__law_whole) .none kV18 dc18 pm18 an18 cd18 ct18), sl18⟩) (c18 : PySem.W.codeIn K cd18 "_law_whole" = true) (k18 : PySem.W.keepIn K (.ref f18) = true)
    {f19 : Addr} {od19 an19 : Option Addr} {sl19 : Array (Option Value)} {oc19 kV19 dc19 pm19 cd19 ct19 : Value} (a19 : PySem.W.nsIn K mainGlobals "_law_walk" = some (some (.ref f19))) (l19 : K.lookup f19 = some ⟨oc19, od19, .func (PySem.W.fnOf "_law_walk" "_law_walk" (defArgs s__law_walk) (defBody s__law_walk) (defScope s__law_walk) .none kV19 dc19 pm19 an19 cd19 ct19), sl19⟩) (c19 : PySem.W.codeIn K cd19 "_law_walk" = true) (k19 : PySem.W.keepIn K (.ref f19) = true)
    {f20 : Addr} {od20 an20 : Option Addr} {sl20 : Array (Option Value)} {oc20 kV20 dc20 pm20 cd20 ct20 : Value} (a20 : PySem.W.nsIn K mainGlobals "walk_back" = some (some (.ref f20))) (l20 : K.lookup f20 = some ⟨oc20, od20, .func (PySem.W.fnOf "walk_back" "walk_back" (defArgs s_walk_back) (defBody s_walk_back) (defScope s_walk_back) .none kV20 dc20 pm20 an20 cd20 ct20), sl20⟩) (c20 : PySem.W.codeIn K cd20 "walk_back" = true) (k20 : PySem.W.keepIn K (.ref f20) = true)
    {f21 : Addr} {od21 an21 : Option Addr} {sl21 : Array (Option Value)} {oc21 kV21 dc21 pm21 cd21 ct21 : Value} (a21 : PySem.W.nsIn K mainGlobals "counts_by_room" = some (some (.ref f21))) (l21 : K.lookup f21 = some ⟨oc21, od21, .func (PySem.W.fnOf "counts_by_room" "counts_by_room" (defArgs s_counts_by_room) (defBody s_counts_by_room) (defScope s_counts_by_room) .none kV21 dc21 pm21 an21 cd21 ct21), sl21⟩) (c21 : PySem.W.codeIn K cd21 "counts_by_room" = true) (k21 : PySem.W.keepIn K (.ref f21) = true)
    {f22 : Addr} {od22 an22 : Option Addr} {sl22 : Array (Option Value)} {oc22 kV22 dc22 pm22 cd22 ct22 : Value} (a22 : PySem.W.nsIn K mainGlobals "greatest_met" = some (some (.ref f22))) (l22 : K.lookup f22 = some ⟨oc22, od22, .func (PySem.W.fnOf "greatest_met" "greatest_met" (defArgs s_greatest_met) (defBody s_greatest_met) (defScope s_greatest_met) .none kV22 dc22 pm22 an22 cd22 ct22), sl22⟩) (c22 : PySem.W.codeIn K cd22 "greatest_met" = true) (k22 : PySem.W.keepIn K (.ref f22) = true)
    {f23 : Addr} {od23 an23 : Option Addr} {sl23 : Array (Option Value)} {oc23 kV23 dc23 pm23 cd23 ct23 : Value} (a23 : PySem.W.nsIn K mainGlobals "found_from" = some (some (.ref f23))) (l23 : K.lookup f23 = some ⟨oc23, od23, .func (PySem.W.fnOf "found_from" "found_from" (defArgs s_found_from) (defBody s_found_from) (defScope s_found_from) .none kV23 dc23 pm23 an23 cd23 ct23), sl23⟩) (c23 : PySem.W.codeIn K cd23 "found_from" = true) (k23 : PySem.W.keepIn K (.ref f23) = true)
    {f24 : Addr} {od24 an24 : Option Addr} {sl24 : Array (Option Value)} {oc24 kV24 dc24 pm24 cd24 ct24 : Value} (a24 : PySem.W.nsIn K mainGlobals "sought_walk" = some (some (.ref f24))) (l24 : K.lookup f24 = some ⟨oc24, od24, .func (PySem.W.fnOf "sought_walk" "sought_walk" (defArgs s_sought_walk) (defBody s_sought_walk) (defScope s_sought_walk) .none kV24 dc24 pm24 an24 cd24 ct24), sl24⟩) (c24 : PySem.W.codeIn K cd24 "sought_walk" = true) (k24 : PySem.W.keepIn K (.ref f24) = true)
    {f25 : Addr} {od25 an25 : Option Addr} {sl25 : Array (Option Value)} {oc25 kV25 dc25 pm25 cd25 ct25 : Value} (a25 : PySem.W.nsIn K mainGlobals "shortest" = some (some (.ref f25))) (l25 : K.lookup f25 = some ⟨oc25, od25, .func (PySem.W.fnOf "shortest" "shortest" (defArgs s_shortest) (defBody s_shortest) (defScope s_shortest) .none kV25 dc25 pm25 an25 cd25 ct25), sl25⟩) (c25 : PySem.W.codeIn K cd25 "shortest" = true) (k25 : PySem.W.keepIn K (.ref f25) = true)
    {f26 : Addr} {od26 an26 : Option Addr} {sl26 : Array (Option Value)} {oc26 kV26 dc26 pm26 cd26 ct26 : Value} (a26 : PySem.W.nsIn K mainGlobals "_law_right" = some (some (.ref f26))) (l26 : K.lookup f26 = some ⟨oc26, od26, .func (PySem.W.fnOf "_law_right" "_law_right" (defArgs s__law_right) (defBody s__law_right) (defScope s__law_right) .none kV26 dc26 pm26 an26 cd26 ct26), sl26⟩) (c26 : PySem.W.codeIn K cd26 "_law_right" = true) (k26 : PySem.W.keepIn K (.ref f26) = true)
    {f27 : Addr} {od27 an27 : Option Addr} {sl27 : Array (Option Value)} {oc27 kV27 dc27 pm27 cd27 ct27 : Value} (a27 : PySem.W.nsIn K mainGlobals "_law_idle" = some (some (.ref f27))) (l27 : K.lookup f27 = some ⟨oc27, od27, .func (PySem.W.fnOf "_law_idle" "_law_idle" (defArgs s__law_idle) (defBody s__law_idle) (defScope s__law_idle) .none kV27 dc27 pm27 an27 cd27 ct27), sl27⟩) (c27 : PySem.W.codeIn K cd27 "_law_idle" = true) (k27 : PySem.W.keepIn K (.ref f27) = true)
    {f28 : Addr} {od28 an28 : Option Addr} {sl28 : Array (Option Value)} {oc28 kV28 dc28 pm28 cd28 ct28 : Value} (a28 : PySem.W.nsIn K mainGlobals "_law_clocks" = some (some (.ref f28))) (l28 : K.lookup f28 = some ⟨oc28, od28, .func (PySem.W.fnOf "_law_clocks" "_law_clocks" (defArgs s__law_clocks) (defBody s__law_clocks) (defScope s__law_clocks) .none kV28 dc28 pm28 an28 cd28 ct28), sl28⟩) (c28 : PySem.W.codeIn K cd28 "_law_clocks" = true) (k28 : PySem.W.keepIn K (.ref f28) = true)
    {f29 : Addr} {od29 an29 : Option Addr} {sl29 : Array (Option Value)} {oc29 kV29 dc29 pm29 cd29 ct29 : Value} (a29 : PySem.W.nsIn K mainGlobals "_law_known" = some (some (.ref f29))) (l29 : K.lookup f29 = some ⟨oc29, od29, .func (PySem.W.fnOf "_law_known" "_law_known" (defArgs s__law_known) (defBody s__law_known) (defScope s__law_known) .none kV29 dc29 pm29 an29 cd29 ct29), sl29⟩) (c29 : PySem.W.codeIn K cd29 "_law_known" = true) (k29 : PySem.W.keepIn K (.ref f29) = true)
    {f30 : Addr} {od30 an30 : Option Addr} {sl30 : Array (Option Value)} {oc30 kV30 dc30 pm30 cd30 ct30 : Value} (a30 : PySem.W.nsIn K mainGlobals "_law_mixed" = some (some (.ref f30))) (l30 : K.lookup f30 = some ⟨oc30, od30, .func (PySem.W.fnOf "_law_mixed" "_law_mixed" (defArgs s__law_mixed) (defBody s__law_mixed) (defScope s__law_mixed) .none kV30 dc30 pm30 an30 cd30 ct30), sl30⟩) (c30 : PySem.W.codeIn K cd30 "_law_mixed" = true) (k30 : PySem.W.keepIn K (.ref f30) = true)
    {f31 : Addr} {od31 an31 : Option Addr} {sl31 : Array (Option Value)} {oc31 kV31 dc31 pm31 cd31 ct31 : Value} (a31 : PySem.W.nsIn K mainGlobals "_law_draws" = some (some (.ref f31))) (l31 : K.lookup f31 = some ⟨oc31, od31, .func (PySem.W.fnOf "_law_draws" "_law_draws" (defArgs s__law_draws) (defBody s__law_draws) (defScope s__law_draws) .none kV31 dc31 pm31 an31 cd31 ct31), sl31⟩) (c31 : PySem.W.codeIn K cd31 "_law_draws" = true) (k31 : PySem.W.keepIn K (.ref f31) = true)
    {f32 : Addr} {od32 an32 : Option Addr} {sl32 : Array (Option Value)} {oc32 kV32 dc32 pm32 cd32 ct32 : Value} (a32 : PySem.W.nsIn K mainGlobals "_law_number" = some (some (.ref f32))) (l32 : K.lookup f32 = some ⟨oc32, od32, .func (PySem.W.fnOf "_law_number" "_law_number" (defArgs s__law_number) (defBody s__law_number) (defScope s__law_number) .none kV32 dc32 pm32 an32 cd32 ct32), sl32⟩) (c32 : PySem.W.codeIn K cd32 "_law_number" = true) (k32 : PySem.W.keepIn K (.ref f32) = true)
    {f33 : Addr} {od33 an33 : Option Addr} {sl33 : Array (Option Value)} {oc33 kV33 dc33 pm33 cd33 ct33 : Value} (a33 : PySem.W.nsIn K mainGlobals "_law_cell" = some (some (.ref f33))) (l33 : K.lookup f33 = some ⟨oc33, od33, .func (PySem.W.fnOf "_law_cell" "_law_cell" (defArgs s__law_cell) (defBody s__law_cell) (defScope s__law_cell) .none kV33 dc33 pm33 an33 cd33 ct33), sl33⟩) (c33 : PySem.W.codeIn K cd33 "_law_cell" = true) (k33 : PySem.W.keepIn K (.ref f33) = true)
    {f34 : Addr} {od34 an34 : Option Addr} {sl34 : Array (Option Value)} {oc34 kV34 dc34 pm34 cd34 ct34 : Value} (a34 : PySem.W.nsIn K mainGlobals "law" = some (some (.ref f34))) (l34 : K.lookup f34 = some ⟨oc34, od34, .func (PySem.W.fnOf "law" "law" (defArgs s_law) (defBody s_law) (defScope s_law) .none kV34 dc34 pm34 an34 cd34 ct34), sl34⟩) (c34 : PySem.W.codeIn K cd34 "law" = true) (k34 : PySem.W.keepIn K (.ref f34) = true)
    (z0 : PySem.W.nsIn K mainGlobals "len" = some none)
    (z1 : PySem.W.nsIn K mainGlobals "isinstance" = some none)
    (z2 : PySem.W.nsIn K mainGlobals "tuple" = some none)
    (z3 : PySem.W.nsIn K mainGlobals "list" = some none)
    (z4 : PySem.W.nsIn K mainGlobals "int" = some none)
    (z5 : PySem.W.nsIn K mainGlobals "bool" = some none)
    (z6 : PySem.W.nsIn K mainGlobals "range" = some none)
    (z7 : PySem.W.nsIn K mainGlobals "zip" = some none)
    (z8 : PySem.W.nsIn K mainGlobals "max" = some none)
    (z9 : PySem.W.nsIn K mainGlobals "min" = some none)
    (z10 : PySem.W.nsIn K mainGlobals "abs" = some none)
    (z11 : PySem.W.nsIn K mainGlobals "all" = some none)
    (z12 : PySem.W.nsIn K mainGlobals "enumerate" = some none)
    (z13 : PySem.W.nsIn K mainGlobals "set" = some none)
    (z14 : PySem.W.nsIn K mainGlobals "str" = some none)
    (z15 : PySem.W.nsIn K mainGlobals "reversed" = some none)
    {t0 : Tok} (v0 : PySem.W.nsIn K mainGlobals "LONGEST_WALK" = some (some (.int 20000 t0)))
    {t1 : Tok} (v1 : PySem.W.nsIn K mainGlobals "GREATEST_NUMBER" = some (some (.int 1000 t1)))
    {t2 : Tok} (v2 : PySem.W.nsIn K mainGlobals "GREATEST_WAYS" = some (some (.int 100 t2)))
    {t3 : Tok} (v3 : PySem.W.nsIn K mainGlobals "GREATEST_MANY" = some (some (.int 12 t3)))
    {e0 : Addr} {q0_0 u0_0 q0_1 u0_1 q0_2 u0_2 q0_3 u0_3 : Tok} {ep0 : Nat} (x0 : PySem.W.nsIn K mainGlobals "RAISED" = some (some (.ref e0))) (y0 : K.lookup e0 = some (gdO w [("up", q0_0, .int (1) u0_0), ("down", q0_1, .int (-1) u0_1), ("stay", q0_2, .int (0) u0_2), ("zero", q0_3, .int (0) u0_3)] ep0)) (w0 : (e0 == sysModules) = false)
    {e1 : Addr} {q1_0 u1_0 q1_1 u1_1 q1_2 u1_2 q1_3 u1_3 : Tok} {ep1 : Nat} (x1 : PySem.W.nsIn K mainGlobals "TURNED" = some (some (.ref e1))) (y1 : K.lookup e1 = some (gdO w [("up", q1_0, .str "down" u1_0), ("down", q1_1, .str "up" u1_1), ("stay", q1_2, .str "stay" u1_2), ("zero", q1_3, .str "zero" u1_3)] ep1)) (w1 : (e1 == sysModules) = false)
    : ∃ fd : FuncData, (∀ (s : Shared) (v : Value), BindsTo s fd ⟨[v], []⟩ [("_law_script", v)]) ∧ ∀ base : Heap, K.In base → base.Ns mainGlobals mg → FnOk l.prog w K mg base CX0 9 fa fd ["_law_script"] (sp_law K) := by
  have e := hfa.symm.trans (PySem.W.mg_of X G a34)
  cases e
  have T : Blt mg := ⟨PySem.W.mg_none_of X G z0, PySem.W.mg_none_of X G z1, PySem.W.mg_none_of X G z2, PySem.W.mg_none_of X G z3, PySem.W.mg_none_of X G z4, PySem.W.mg_none_of X G z5, PySem.W.mg_none_of X G z6, PySem.W.mg_none_of X G z7, PySem.W.mg_none_of X G z8, PySem.W.mg_none_of X G z9, PySem.W.mg_none_of X G z10, PySem.W.mg_none_of X G z11, PySem.W.mg_none_of X G z12, PySem.W.mg_none_of X G z13, PySem.W.mg_none_of X G z14, PySem.W.mg_none_of X G z15⟩
  have D0 : Dfn K mg "raised_by" s_raised_by ["way"] := ⟨f0, _, PySem.W.mg_of X G a0, fun_mk (st := s_raised_by) l0 c0 k0, (fun_mk (st := s_raised_by) l0 c0 k0).binds (ps := ["way"]) fun _ _ _ _ _ _ => ar1 (fun _ => rfl)⟩
  have D1 : Dfn K mg "led_to" s_led_to ["way", "place"] := ⟨f1, _, PySem.W.mg_of X G a1, fun_mk (st := s_led_to) l1 c1 k1, (fun_mk (st := s_led_to) l1 c1 k1).binds (ps := ["way", "place"]) fun _ _ _ _ _ _ => ar2 (fun _ _ => rfl)⟩
  have D2 : Dfn K mg "is_open" s_is_open ["way", "place"] := ⟨f2, _, PySem.W.mg_of X G a2, fun_mk (st := s_is_open) l2 c2 k2, (fun_mk (st := s_is_open) l2 c2 k2).binds (ps := ["way", "place"]) fun _ _ _ _ _ _ => ar2 (fun _ _ => rfl)⟩
  have D3 : Dfn K mg "can_go" s_can_go ["house", "place", "count"] := ⟨f3, _, PySem.W.mg_of X G a3, fun_mk (st := s_can_go) l3 c3 k3, (fun_mk (st := s_can_go) l3 c3 k3).binds (ps := ["house", "place", "count"]) fun _ _ _ _ _ _ => ar3 (fun _ _ _ => rfl)⟩
  have D4 : Dfn K mg "places_gone" s_places_gone ["house", "place", "walk"] := ⟨f4, _, PySem.W.mg_of X G a4, fun_mk (st := s_places_gone) l4 c4 k4, (fun_mk (st := s_places_gone) l4 c4 k4).binds (ps := ["house", "place", "walk"]) fun _ _ _ _ _ _ => ar3 (fun _ _ _ => rfl)⟩
  have D5 : Dfn K mg "refuse_long_walk" s_refuse_long_walk ["walk"] := ⟨f5, _, PySem.W.mg_of X G a5, fun_mk (st := s_refuse_long_walk) l5 c5 k5, (fun_mk (st := s_refuse_long_walk) l5 c5 k5).binds (ps := ["walk"]) fun _ _ _ _ _ _ => ar1 (fun _ => rfl)⟩
  have D6 : Dfn K mg "is_whole" s_is_whole ["thing"] := ⟨f6, _, PySem.W.mg_of X G a6, fun_mk (st := s_is_whole) l6 c6 k6, (fun_mk (st := s_is_whole) l6 c6 k6).binds (ps := ["thing"]) fun _ _ _ _ _ _ => ar1 (fun _ => rfl)⟩
  have D7 : Dfn K mg "is_room" s_is_room ["thing", "many"] := ⟨f7, _, PySem.W.mg_of X G a7, fun_mk (st := s_is_room) l7 c7 k7, (fun_mk (st := s_is_room) l7 c7 k7).binds (ps := ["thing", "many"]) fun _ _ _ _ _ _ => ar2 (fun _ _ => rfl)⟩
  have D8 : Dfn K mg "refuse_bad_places" s_refuse_bad_places ["house", "places"] := ⟨f8, _, PySem.W.mg_of X G a8, fun_mk (st := s_refuse_bad_places) l8 c8 k8, (fun_mk (st := s_refuse_bad_places) l8 c8 k8).binds (ps := ["house", "places"]) fun _ _ _ _ _ _ => ar2 (fun _ _ => rfl)⟩
  have D9 : Dfn K mg "is_sign" s_is_sign ["thing"] := ⟨f9, _, PySem.W.mg_of X G a9, fun_mk (st := s_is_sign) l9 c9 k9, (fun_mk (st := s_is_sign) l9 c9 k9).binds (ps := ["thing"]) fun _ _ _ _ _ _ => ar1 (fun _ => rfl)⟩
  have D10 : Dfn K mg "is_deed" s_is_deed ["thing"] := ⟨f10, _, PySem.W.mg_of X G a10, fun_mk (st := s_is_deed) l10 c10 k10, (fun_mk (st := s_is_deed) l10 c10 k10).binds (ps := ["thing"]) fun _ _ _ _ _ _ => ar1 (fun _ => rfl)⟩
  have D11 : Dfn K mg "is_way" s_is_way ["thing", "many"] := ⟨f11, _, PySem.W.mg_of X G a11, fun_mk (st := s_is_way) l11 c11 k11, (fun_mk (st := s_is_way) l11 c11 k11).binds (ps := ["thing", "many"]) fun _ _ _ _ _ _ => ar2 (fun _ _ => rfl)⟩
  have D12 : Dfn K mg "are_ways" s_are_ways ["thing", "many"] := ⟨f12, _, PySem.W.mg_of X G a12, fun_mk (st := s_are_ways) l12 c12 k12, (fun_mk (st := s_are_ways) l12 c12 k12).binds (ps := ["thing", "many"]) fun _ _ _ _ _ _ => ar2 (fun _ _ => rfl)⟩
  have D13 : Dfn K mg "is_house" s_is_house ["thing"] := ⟨f13, _, PySem.W.mg_of X G a13, fun_mk (st := s_is_house) l13 c13 k13, (fun_mk (st := s_is_house) l13 c13 k13).binds (ps := ["thing"]) fun _ _ _ _ _ _ => ar1 (fun _ => rfl)⟩
  have D14 : Dfn K mg "refuse_no_house" s_refuse_no_house ["thing"] := ⟨f14, _, PySem.W.mg_of X G a14, fun_mk (st := s_refuse_no_house) l14 c14 k14, (fun_mk (st := s_refuse_no_house) l14 c14 k14).binds (ps := ["thing"]) fun _ _ _ _ _ _ => ar1 (fun _ => rfl)⟩
  have D15 : Dfn K mg "walked" s_walked ["house", "place", "walk"] := ⟨f15, _, PySem.W.mg_of X G a15, fun_mk (st := s_walked) l15 c15 k15, (fun_mk (st := s_walked) l15 c15 k15).binds (ps := ["house", "place", "walk"]) fun _ _ _ _ _ _ => ar3 (fun _ _ _ => rfl)⟩
  have D16 : Dfn K mg "_law_behind" s__law_behind ["_law_house", "_law_place"] := ⟨f16, _, PySem.W.mg_of X G a16, fun_mk (st := s__law_behind) l16 c16 k16, (fun_mk (st := s__law_behind) l16 c16 k16).binds (ps := ["_law_house", "_law_place"]) fun _ _ _ _ _ _ => ar2 (fun _ _ => rfl)⟩
  have D17 : Dfn K mg "_law_gone" s__law_gone ["_law_house", "_law_place", "_law_walk_here"] := ⟨f17, _, PySem.W.mg_of X G a17, fun_mk (st := s__law_gone) l17 c17 k17, (fun_mk (st := s__law_gone) l17 c17 k17).binds (ps := ["_law_house", "_law_place", "_law_walk_here"]) fun _ _ _ _ _ _ => ar3 (fun _ _ _ => rfl)⟩
  have D18 : Dfn K mg "_law_whole" s__law_whole ["_law_found"] := ⟨f18, _, PySem.W.mg_of X G a18, fun_mk (st := s__law_whole) l18 c18 k18, (fun_mk (st := s__law_whole) l18 c18 k18).binds (ps := ["_law_found"]) fun _ _ _ _ _ _ => ar1 (fun _ => rfl)⟩
  have D19 : Dfn K mg "_law_walk" s__law_walk ["_law_found", "_law_most"] := ⟨f19, _, PySem.W.mg_of X G a19, fun_mk (st := s__law_walk) l19 c19 k19, (fun_mk (st := s__law_walk) l19 c19 k19).binds (ps := ["_law_found", "_law_most"]) fun _ _ _ _ _ _ => ar2 (fun _ _ => rfl)⟩
  have D20 : Dfn K mg "walk_back" s_walk_back ["found", "goal"] := ⟨f20, _, PySem.W.mg_of X G a20, fun_mk (st := s_walk_back) l20 c20 k20, (fun_mk (st := s_walk_back) l20 c20 k20).binds (ps := ["found", "goal"]) fun _ _ _ _ _ _ => ar2 (fun _ _ => rfl)⟩
  have D21 : Dfn K mg "counts_by_room" s_counts_by_room ["house"] := ⟨f21, _, PySem.W.mg_of X G a21, fun_mk (st := s_counts_by_room) l21 c21 k21, (fun_mk (st := s_counts_by_room) l21 c21 k21).binds (ps := ["house"]) fun _ _ _ _ _ _ => ar1 (fun _ => rfl)⟩
  have D22 : Dfn K mg "greatest_met" s_greatest_met ["house", "place", "goal"] := ⟨f22, _, PySem.W.mg_of X G a22, fun_mk (st := s_greatest_met) l22 c22 k22, (fun_mk (st := s_greatest_met) l22 c22 k22).binds (ps := ["house", "place", "goal"]) fun _ _ _ _ _ _ => ar3 (fun _ _ _ => rfl)⟩
  have D23 : Dfn K mg "found_from" s_found_from ["house", "place", "goal"] := ⟨f23, _, PySem.W.mg_of X G a23, fun_mk (st := s_found_from) l23 c23 k23, (fun_mk (st := s_found_from) l23 c23 k23).binds (ps := ["house", "place", "goal"]) fun _ _ _ _ _ _ => ar3 (fun _ _ _ => rfl)⟩
  have D24 : Dfn K mg "sought_walk" s_sought_walk ["house", "place", "goal"] := ⟨f24, _, PySem.W.mg_of X G a24, fun_mk (st := s_sought_walk) l24 c24 k24, (fun_mk (st := s_sought_walk) l24 c24 k24).binds (ps := ["house", "place", "goal"]) fun _ _ _ _ _ _ => ar3 (fun _ _ _ => rfl)⟩
  have D25 : Dfn K mg "shortest" s_shortest ["house", "place", "goal"] := ⟨f25, _, PySem.W.mg_of X G a25, fun_mk (st := s_shortest) l25 c25 k25, (fun_mk (st := s_shortest) l25 c25 k25).binds (ps := ["house", "place", "goal"]) fun _ _ _ _ _ _ => ar3 (fun _ _ _ => rfl)⟩
  have D26 : Dfn K mg "_law_right" s__law_right ["_law_house", "_law_place", "_law_goal", "_law_length"] := ⟨f26, _, PySem.W.mg_of X G a26, fun_mk (st := s__law_right) l26 c26 k26, (fun_mk (st := s__law_right) l26 c26 k26).binds (ps := ["_law_house", "_law_place", "_law_goal", "_law_length"]) fun _ _ _ _ _ _ => ar4 (fun _ _ _ _ => rfl)⟩
  have D27 : Dfn K mg "_law_idle" s__law_idle ["_law_many", "_law_often"] := ⟨f27, _, PySem.W.mg_of X G a27, fun_mk (st := s__law_idle) l27 c27 k27, (fun_mk (st := s__law_idle) l27 c27 k27).binds (ps := ["_law_many", "_law_often"]) fun _ _ _ _ _ _ => ar2 (fun _ _ => rfl)⟩
  have D28 : Dfn K mg "_law_clocks" s__law_clocks ["_law_which", "_law_t"] := ⟨f28, _, PySem.W.mg_of X G a28, fun_mk (st := s__law_clocks) l28 c28 k28, (fun_mk (st := s__law_clocks) l28 c28 k28).binds (ps := ["_law_which", "_law_t"]) fun _ _ _ _ _ _ => ar2 (fun _ _ => rfl)⟩
  have D29 : Dfn K mg "_law_known" s__law_known ["_law_way", "_law_many", "_law_x", "_law_y", "_law_room"] := ⟨f29, _, PySem.W.mg_of X G a29, fun_mk (st := s__law_known) l29 c29 k29, (fun_mk (st := s__law_known) l29 c29 k29).binds (ps := ["_law_way", "_law_many", "_law_x", "_law_y", "_law_room"]) fun _ _ _ _ _ _ => ar5 (fun _ _ _ _ _ => rfl)⟩
  have D30 : Dfn K mg "_law_mixed" s__law_mixed ["_law_cell_here", "_law_k", "_law_prime"] := ⟨f30, _, PySem.W.mg_of X G a30, fun_mk (st := s__law_mixed) l30 c30 k30, (fun_mk (st := s__law_mixed) l30 c30 k30).binds (ps := ["_law_cell_here", "_law_k", "_law_prime"]) fun _ _ _ _ _ _ => ar3 (fun _ _ _ => rfl)⟩
  have D31 : Dfn K mg "_law_draws" s__law_draws ["_law_cell_here", "_law_widths", "_law_prime"] := ⟨f31, _, PySem.W.mg_of X G a31, fun_mk (st := s__law_draws) l31 c31 k31, (fun_mk (st := s__law_draws) l31 c31 k31).binds (ps := ["_law_cell_here", "_law_widths", "_law_prime"]) fun _ _ _ _ _ _ => ar3 (fun _ _ _ => rfl)⟩
  have D32 : Dfn K mg "_law_number" s__law_number ["_law_cell_here", "_law_prime"] := ⟨f32, _, PySem.W.mg_of X G a32, fun_mk (st := s__law_number) l32 c32 k32, (fun_mk (st := s__law_number) l32 c32 k32).binds (ps := ["_law_cell_here", "_law_prime"]) fun _ _ _ _ _ _ => ar2 (fun _ _ => rfl)⟩
  have D33 : Dfn K mg "_law_cell" s__law_cell ["_law_script", "_law_k"] := ⟨f33, _, PySem.W.mg_of X G a33, fun_mk (st := s__law_cell) l33 c33 k33, (fun_mk (st := s__law_cell) l33 c33 k33).binds (ps := ["_law_script", "_law_k"]) fun _ _ _ _ _ _ => ar2 (fun _ _ => rfl)⟩
  refine ⟨PySem.W.fnOf "law" "law" (defArgs s_law) (defBody s_law) (defScope s_law) .none kV34 dc34 pm34 an34 cd34 ct34, fun s v => .of_eq rfl, fun base KB GB => ?_⟩
  have C0 : Cal l.prog w K mg base "raised_by" 1 ["way"] (sp_raised_by K) := ok_raised_by D0 T ⟨_, PySem.W.mg_of X G x0, gdk_RAISED y0 w0⟩
  have C1 : Cal l.prog w K mg base "led_to" 2 ["way", "place"] (sp_led_to K) := ok_led_to D1 T C0
  have C2 : Cal l.prog w K mg base "is_open" 1 ["way", "place"] (sp_is_open K) := ok_is_open D2 T
  have C3 : Cal l.prog w K mg base "can_go" 2 ["house", "place", "count"] (sp_can_go K) := ok_can_go D3 T C2
  have C4 : Cal l.prog w K mg base "places_gone" 3 ["house", "place", "walk"] (sp_places_gone K) := ok_places_gone D4 T C1 C3
  have C5 : Cal l.prog w K mg base "refuse_long_walk" 1 ["walk"] (sp_refuse_long_walk K) := ok_refuse_long_walk D5 T ⟨_, PySem.W.mg_of X G v0⟩
  have C6 : Cal l.prog w K mg base "is_whole" 1 ["thing"] (sp_is_whole K) := ok_is_whole D6 T
  have C7 : Cal l.prog w K mg base "is_room" 2 ["thing", "many"] (sp_is_room K) := ok_is_room D7 T C6
  have C8 : Cal l.prog w K mg base "refuse_bad_places" 3 ["house", "places"] (sp_refuse_bad_places K) := ok_refuse_bad_places D8 T ⟨_, PySem.W.mg_of X G v1⟩ C7
  have C9 : Cal l.prog w K mg base "is_sign" 1 ["thing"] (sp_is_sign K) := ok_is_sign D9 T
  have C10 : Cal l.prog w K mg base "is_deed" 1 ["thing"] (sp_is_deed K) := ok_is_deed D10 T ⟨_, PySem.W.mg_of X G x1, gdk_TURNED y1 w1⟩
  have C11 : Cal l.prog w K mg base "is_way" 3 ["thing", "many"] (sp_is_way K) := ok_is_way D11 T C9 C10 C7
  have C12 : Cal l.prog w K mg base "are_ways" 4 ["thing", "many"] (sp_are_ways K) := ok_are_ways D12 T ⟨_, PySem.W.mg_of X G v2⟩ C11
  have C13 : Cal l.prog w K mg base "is_house" 5 ["thing"] (sp_is_house K) := ok_is_house D13 T ⟨_, PySem.W.mg_of X G v3⟩ C12 C6
  have C14 : Cal l.prog w K mg base "refuse_no_house" 6 ["thing"] (sp_refuse_no_house K) := ok_refuse_no_house D14 T C13
  have C15 : Cal l.prog w K mg base "walked" 7 ["house", "place", "walk"] (sp_walked K) := ok_walked D15 T C4 C5 C8 C14
  have C16 : Cal l.prog w K mg base "_law_behind" 1 ["_law_house", "_law_place"] (sp__law_behind K) := ok__law_behind D16 T
  have C17 : Cal l.prog w K mg base "_law_gone" 2 ["_law_house", "_law_place", "_law_walk_here"] (sp__law_gone K) := ok__law_gone D17 T C16
  have C18 : Cal l.prog w K mg base "_law_whole" 1 ["_law_found"] (sp__law_whole K) := ok__law_whole D18 T
  have C19 : Cal l.prog w K mg base "_law_walk" 2 ["_law_found", "_law_most"] (sp__law_walk K) := ok__law_walk D19 T C18
  have C20 : Cal l.prog w K mg base "walk_back" 1 ["found", "goal"] (sp_walk_back K) := ok_walk_back D20 T
  have C21 : Cal l.prog w K mg base "counts_by_room" 1 ["house"] (sp_counts_by_room K) := ok_counts_by_room D21 T
  have C22 : Cal l.prog w K mg base "greatest_met" 1 ["house", "place", "goal"] (sp_greatest_met K) := ok_greatest_met D22 T
  have C23 : Cal l.prog w K mg base "found_from" 3 ["house", "place", "goal"] (sp_found_from K) := ok_found_from D23 T C2 C1 C21 C22
  have C24 : Cal l.prog w K mg base "sought_walk" 4 ["house", "place", "goal"] (sp_sought_walk K) := ok_sought_walk D24 T C20 C23
  have C25 : Cal l.prog w K mg base "shortest" 7 ["house", "place", "goal"] (sp_shortest K) := ok_shortest D25 T C24 C8 C14
  have C26 : Cal l.prog w K mg base "_law_right" 8 ["_law_house", "_law_place", "_law_goal", "_law_length"] (sp__law_right K) := ok__law_right D26 T C15 C17 C19 C25
  have C27 : Cal l.prog w K mg base "_law_idle" 1 ["_law_many", "_law_often"] (sp__law_idle K) := ok__law_idle D27 T
  have C28 : Cal l.prog w K mg base "_law_clocks" 1 ["_law_which", "_law_t"] (sp__law_clocks K) := ok__law_clocks D28 T
  have C29 : Cal l.prog w K mg base "_law_known" 1 ["_law_way", "_law_many", "_law_x", "_law_y", "_law_room"] (sp__law_known K) := ok__law_known D29 T
  have C30 : Cal l.prog w K mg base "_law_mixed" 1 ["_law_cell_here", "_law_k", "_law_prime"] (sp__law_mixed K) := ok__law_mixed D30 T
  have C31 : Cal l.prog w K mg base "_law_draws" 2 ["_law_cell_here", "_law_widths", "_law_prime"] (sp__law_draws K) := ok__law_draws D31 T C30
  have C32 : Cal l.prog w K mg base "_law_number" 3 ["_law_cell_here", "_law_prime"] (sp__law_number K) := ok__law_number D32 T C31
  have C33 : Cal l.prog w K mg base "_law_cell" 1 ["_law_script", "_law_k"] (sp__law_cell K) := ok__law_cell D33 T
  exact ok_law (fun_mk (st := s_law) l34 c34 k34) T C26 C27 C28 C29 C32 C33 C31
theorem walk {l : PySem.W.OpenLaw} {q : Program} {loose : List Str} {XP : (Str → Option Value) → Heap → Prop} {YP : World → Heap → Prop} {d : DefRec} {K : Params → PySem.W.Frag} (hn : l.most = some 63) (hdf : d.params.defaults = [])
    (hY : ∀ (w : World) (h : Heap), YP w h → (K w.params).In h)
    (F : ∀ (w : World) (mg : Str → Option Value) (fa : Addr) (h : Heap), (K w.params).In h → h.Ns mainGlobals mg → mg d.name = some (.ref fa) →
      ∃ fd : FuncData, (∀ (s : Shared) (u : Value), BindsTo s fd ⟨[u], []⟩ [("_law_script", u)]) ∧ ∀ base : Heap, (K w.params).In base → base.Ns mainGlobals mg → FnOk l.prog w (K w.params) mg base CX0 9 fa fd ["_law_script"] (sp_law (K w.params))) :
    PySem.W.WalkO q loose XP YP l.row.toRowW d [] (fun f vs => PySem.call f vs) :=
  L2.walk_of (n := 63) (k := 9) (x := "_law_script") (CX := fun _ => CX0) (sp := fun w => sp_law (K w.params)) hn (by decide) hdf ⟨rfl, by decide, by decide⟩ hY F (fun _ _ a ns hl _ hS => ⟨a, ns, rfl, hS, hl, fun _ => rfl⟩) fun _ _ _ _ _ z => z
end My
open PySem PySem.W PyProof.Rows
set_option maxRecDepth 100000 in
set_option maxHeartbeats 0 in
theorem PySem.Challenge.cw_stairrooms_k21_known_walks_holds : PySem.Challenge.rw_stairrooms_k21_known_walks.Holds := by
  w_on; o_law; k_head; (case hw => w_witness2)
  k_fill
  refine My.walk (l := PySem.Challenge.rw_stairrooms_k21_known_walks) rfl rfl (fun w h Y => PySem.W.kIn_of Y) ?F
  case F =>
    intro w mg fa h KX G hmg
    refine' My.all_mk KX G hmg ?a0 ?l0 ?c0 ?k0 ?a1 ?l1 ?c1 ?k1 ?a2 ?l2 ?c2 ?k2 ?a3 ?l3 ?c3 ?k3 ?a4 ?l4 ?c4 ?k4 ?a5 ?l5 ?c5 ?k5 ?a6 ?l6 ?c6 ?k6 ?a7 ?l7 ?c7 ?k7 ?a8 ?l8 ?c8 ?k8 ?a9 ?l9 ?c9 ?k9 ?a10 ?l10 ?c10 ?k10 ?a11 ?l11 ?c11 ?k11 ?a12 ?l12 ?c12 ?k12 ?a13 ?l13 ?c13 ?k13 ?a14 ?l14 ?c14 ?k14 ?a15 ?l15 ?c15 ?k15 ?a16 ?l16 ?c16 ?k16 ?a17 ?l17 ?c17 ?k17 ?a18 ?l18 ?c18 ?k18 ?a19 ?l19 ?c19 ?k19 ?a20 ?l20 ?c20 ?k20 ?a21 ?l21 ?c21 ?k21 ?a22 ?l22 ?c22 ?k22 ?a23 ?l23 ?c23 ?k23 ?a24 ?l24 ?c24 ?k24 ?a25 ?l25 ?c25 ?k25 ?a26 ?l26 ?c26 ?k26 ?a27 ?l27 ?c27 ?k27 ?a28 ?l28 ?c28 ?k28 ?a29 ?l29 ?c29 ?k29 ?a30 ?l30 ?c30 ?k30 ?a31 ?l31 ?c31 ?k31 ?a32 ?l32 ?c32 ?k32 ?a33 ?l33 ?c33 ?k33 ?a34 ?l34 ?c34 ?k34 ?z0 ?z1 ?z2 ?z3 ?z4 ?z5 ?z6 ?z7 ?z8 ?z9 ?z10 ?z11 ?z12 ?z13 ?z14 ?z15 ?v0 ?v1 ?v2 ?v3 ?x0 ?y0 ?w0 ?x1 ?y1 ?w1
    (case a0 => k_is); (case l0 => k_is); (case c0 => k_is); (case k0 => k_is)
    (case a1 => k_is); (case l1 => k_is); (case c1 => k_is); (case k1 => k_is)
    (case a2 => k_is); (case l2 => k_is); (case c2 => k_is); (case k2 => k_is)
    (case a3 => k_is); (case l3 => k_is); (case c3 => k_is); (case k3 => k_is)
    (case a4 => k_is); (case l4 => k_is); (case c4 => k_is); (case k4 => k_is)
    (case a5 => k_is); (case l5 => k_is); (case c5 => k_is); (case k5 => k_is)
    (case a6 => k_is); (case l6 => k_is); (case c6 => k_is); (case k6 => k_is)
    (case a7 => k_is); (case l7 => k_is); (case c7 => k_is); (case k7 => k_is)
    (case a8 => k_is); (case l8 => k_is); (case c8 => k_is); (case k8 => k_is)
    (case a9 => k_is); (case l9 => k_is); (case c9 => k_is); (case k9 => k_is)
    (case a10 => k_is); (case l10 => k_is); (case c10 => k_is); (case k10 => k_is)
    (case a11 => k_is); (case l11 => k_is); (case c11 => k_is); (case k11 => k_is)
    (case a12 => k_is); (case l12 => k_is); (case c12 => k_is); (case k12 => k_is)
    (case a13 => k_is); (case l13 => k_is); (case c13 => k_is); (case k13 => k_is)
    (case a14 => k_is); (case l14 => k_is); (case c14 => k_is); (case k14 => k_is)
    (case a15 => k_is); (case l15 => k_is); (case c15 => k_is); (case k15 => k_is)
    (case a16 => k_is); (case l16 => k_is); (case c16 => k_is); (case k16 => k_is)
    (case a17 => k_is); (case l17 => k_is); (case c17 => k_is); (case k17 => k_is)
    (case a18 => k_is); (case l18 => k_is); (case c18 => k_is); (case k18 => k_is)
    (case a19 => k_is); (case l19 => k_is); (case c19 => k_is); (case k19 => k_is)
    (case a20 => k_is); (case l20 => k_is); (case c20 => k_is); (case k20 => k_is)
    (case a21 => k_is); (case l21 => k_is); (case c21 => k_is); (case k21 => k_is)
    (case a22 => k_is); (case l22 => k_is); (case c22 => k_is); (case k22 => k_is)
    (case a23 => k_is); (case l23 => k_is); (case c23 => k_is); (case k23 => k_is)
    (case a24 => k_is); (case l24 => k_is); (case c24 => k_is); (case k24 => k_is)
    (case a25 => k_is); (case l25 => k_is); (case c25 => k_is); (case k25 => k_is)
    (case a26 => k_is); (case l26 => k_is); (case c26 => k_is); (case k26 => k_is)
    (case a27 => k_is); (case l27 => k_is); (case c27 => k_is); (case k27 => k_is)
    (case a28 => k_is); (case l28 => k_is); (case c28 => k_is); (case k28 => k_is)
    (case a29 => k_is); (case l29 => k_is); (case c29 => k_is); (case k29 => k_is)
    (case a30 => k_is); (case l30 => k_is); (case c30 => k_is); (case k30 => k_is)
    (case a31 => k_is); (case l31 => k_is); (case c31 => k_is); (case k31 => k_is)
    (case a32 => k_is); (case l32 => k_is); (case c32 => k_is); (case k32 => k_is)
    (case a33 => k_is); (case l33 => k_is); (case c33 => k_is); (case k33 => k_is)
    (case a34 => k_is); (case l34 => k_is); (case c34 => k_is); (case k34 => k_is)
    (case z0 => k_is)
    (case z1 => k_is)
    (case z2 => k_is)
    (case z3 => k_is)
    (case z4 => k_is)
    (case z5 => k_is)
    (case z6 => k_is)
    (case z7 => k_is)
    (case z8 => k_is)
    (case z9 => k_is)
    (case z10 => k_is)
    (case z11 => k_is)
    (case z12 => k_is)
    (case z13 => k_is)
    (case z14 => k_is)
    (case z15 => k_is)
    (case v0 => k_is)
    (case v1 => k_is)
    (case v2 => k_is)
    (case v3 => k_is)
    (case x0 => k_is); (case y0 => k_is); (case w0 => first | rfl | k_is)
    (case x1 => k_is); (case y1 => k_is); (case w1 => first | rfl | k_is)
