import PyProof.Rows.All
import Wide.All
import OpenK.AllK
import Wide.FinOn
import Lean
import PyProof.EqAt
import PyProof.EqKinds
import PyProof.TupleCall
import KE.KLam
import PySem.Challenge.RW_stairrooms_k08_moved
set_option Elab.async false
set_option linter.all false
set_option maxRecDepth 100000
namespace L2
open PySem PySem.Spec PyProof.Rows
noncomputable abbrev Key := Sum Int Str
noncomputable def keyIs : Key → Value → Bool
  | .inl k, v => Value.isInt k v
  | .inr x, v => Value.isStrOf x v
noncomputable def keyH (w : World) : Key → Int
  | .inl k => hashInt k
  | .inr x => hashStr w x
theorem keyIs_shape : ∀ {k : Key} {v : Value}, keyIs k v = true → (∃ i t, k = Sum.inl i ∧ v = Value.int i t) ∨ (∃ x t, k = Sum.inr x ∧ v = Value.str x t)
  | .inl i, v, h => by
    obtain ⟨t, e⟩ := Value.isInt_shape (k := i) (v := v) h
    exact .inl ⟨i, t, rfl, e⟩
  | .inr x, v, h => by
    obtain ⟨t, e⟩ := Value.isStrOf_shape (x := x) (v := v) h
    exact .inr ⟨x, t, rfl, e⟩
theorem key_ll (a b : Int) : decide ((Sum.inl a : Key) = Sum.inl b) = (a == b) := by
  by_cases e : a = b
  · subst e; simp
  · have h : ¬ (Sum.inl a : Key) = Sum.inl b := fun q => e (Sum.inl.inj q)
    rw [decide_eq_false h]
    exact (beq_eq_false_iff_ne.mpr e).symm
theorem key_rr (a b : Str) : decide ((Sum.inr a : Key) = Sum.inr b) = decide (a = b) := by
  by_cases e : a = b
  · subst e; simp
  · have h : ¬ (Sum.inr a : Key) = Sum.inr b := fun q => e (Sum.inr.inj q)
    rw [decide_eq_false h, decide_eq_false e]
theorem key_lr (a : Int) (b : Str) : decide ((Sum.inl a : Key) = Sum.inr b) = false := decide_eq_false (fun q => nomatch q)
theorem key_rl (a : Str) (b : Int) : decide ((Sum.inr a : Key) = Sum.inl b) = false := decide_eq_false (fun q => nomatch q)
noncomputable def mixKind (prog : Program) (w : World) : PySem.KeyKind prog w Key where
  is := keyIs
  hash := keyH w
  inj := fun v a b ha hb => by
    rcases keyIs_shape ha with ⟨i, t, rfl, rfl⟩ | ⟨x, t, rfl, rfl⟩
    · rcases keyIs_shape hb with ⟨j, u, rfl, e⟩ | ⟨y, u, rfl, e⟩
      · injection e with e1 _; rw [e1]
      · exact nomatch e
    · rcases keyIs_shape hb with ⟨j, u, rfl, e⟩ | ⟨y, u, rfl, e⟩
      · exact nomatch e
      · injection e with e1 _; rw [e1]
  byValue := fun k v h => by
    rcases keyIs_shape h with ⟨i, t, rfl, rfl⟩ | ⟨x, t, rfl, rfl⟩ <;> rfl
  pyHash := fun hv h => by
    rcases keyIs_shape hv with ⟨i, t, rfl, rfl⟩ | ⟨x, t, rfl, rfl⟩
    · exact wpAny_pyHash_int h
    · exact wpAny_pyHash_str h
  eqBool := fun hu hv h => by
    rcases keyIs_shape hu with ⟨i, t, rfl, rfl⟩ | ⟨x, t, rfl, rfl⟩
    · rcases keyIs_shape hv with ⟨j, u, rfl, rfl⟩ | ⟨y, u, rfl, rfl⟩
      · rw [key_ll] at h; exact wpAny_eqBool_int h
      · rw [key_lr] at h; exact SeqAt.EqAt.int_str i t y u _ _ _ _ h
    · rcases keyIs_shape hv with ⟨j, u, rfl, rfl⟩ | ⟨y, u, rfl, rfl⟩
      · rw [key_rl] at h; exact SeqAt.EqAt.str_int x t j u _ _ _ _ h
      · rw [key_rr] at h; exact wpAny_eqBool_str h
  «strs» := fun k x t v h => by
    rcases keyIs_shape h with ⟨i, u, rfl, e⟩ | ⟨y, u, rfl, e⟩
    · exact nomatch e
    · injection e with e1 _
      subst e1
      cases v <;> rfl
end L2
namespace L2
open PySem PySem.Spec PyProof.Rows
inductive V where
  | non | bl (b : Bool) | int (i : Int) | str (x : Str) | byt (b : Array UInt8) | flt (b : UInt64) | ref (a : Addr) | ty (n : String)
  deriving DecidableEq
noncomputable def RelV : V → Value → Prop
  | .non, u => u = Value.none
  | .bl b, u => u = Value.bool b
  | .int i, u => ∃ t, u = Value.int i t
  | .str x, u => ∃ t, u = Value.str x t
  | .byt b, u => ∃ t, u = Value.bytes b t
  | .flt b, u => ∃ t, u = Value.float b t
  | .ref a, u => u = Value.ref a
  | .ty n, u => u = Value.type n
noncomputable abbrev Vals : List V → List Value → Prop := Paired RelV
theorem Vals.length {xs : List V} {us : List Value} (r : Vals xs us) : xs.length = us.length := Paired.length r
theorem Vals.get : ∀ {xs : List V} {us : List Value} {i : Nat} {x : V}, Vals xs us → xs[i]? = some x → ∃ u, us[i]? = some u ∧ RelV x u
  | _, _, _, _, .nil, e => by simp at e
  | _, _, 0, _, .cons r _, e => by simp at e; subst e; exact ⟨_, rfl, r⟩
  | _, _, i + 1, x, .cons _ t, e => by
    obtain ⟨u, h1, h2⟩ := Vals.get (i := i) (x := x) t (by simpa using e)
    exact ⟨u, by simpa using h1, h2⟩
theorem Vals.set {x : V} {u : Value} (r : RelV x u) : ∀ {xs : List V} {us : List Value} (i : Nat), Vals xs us → Vals (xs.set i x) (us.set i u)
  | _, _, _, .nil => .nil
  | _, _, 0, .cons _ t => .cons r t
  | _, _, i + 1, .cons q t => .cons q (Vals.set r i t)
theorem Vals.append : ∀ {xs ys : List V} {us ws : List Value}, Vals xs us → Vals ys ws → Vals (xs ++ ys) (us ++ ws)
  | _, _, _, _, .nil, s => s
  | _, _, _, _, .cons r t, s => .cons r (Vals.append t s)
theorem Vals.take : ∀ {xs : List V} {us : List Value} (n : Nat), Vals xs us → Vals (xs.take n) (us.take n)
  | _, _, 0, _ => .nil
  | _, _, _ + 1, .nil => .nil
  | _, _, n + 1, .cons r t => .cons r (Vals.take n t)
theorem Vals.drop : ∀ {xs : List V} {us : List Value} (n : Nat), Vals xs us → Vals (xs.drop n) (us.drop n)
  | _, _, 0, r => r
  | _, _, _ + 1, .nil => .nil
  | _, _, n + 1, .cons _ t => Vals.drop n t
noncomputable def RelO : Option V → Option Value → Prop
  | some v, some u => RelV v u
  | none, none => True
  | _, _ => False
noncomputable def KV {κ : Type} : List (κ × V) → List (κ × Value) → Prop := Paired fun (p : κ × V) (q : κ × Value) => p.1 = q.1 ∧ RelV p.2 q.2
noncomputable def kV : Key → V
  | .inl i => .int i
  | .inr x => .str x
inductive HO where
  /-- a list -/
  | lst (xs : List V)
  /-- a tuple (never changes) -/
  | tup (xs : List V)
  /-- a dict whose keys are ints and texts; one whose keys are tuples of ints and texts (the empty one is both) -/
  | dK (kvs : List (Key × V)) | dT (kvs : List (List Key × V))
  /-- a set of ints: its members, its size -/
  | set (S : Int → Bool) (n : Nat)
  /-- an instance of the class at C, its dict at dx, its attributes -/
  | ins (C dx : Addr) (fs : List (Str × V))
  /-- the dict of the instance at x -/
  | own (x : Addr)
  /-- the dict of an exception -/
  | xd (fs : List (Str × V))
  /-- a bound method, f of x -/
  | met (f x : Addr)
  /-- a range object lo, lo + 1, .. below hi -/
  | rng (lo hi : Int)
  /-- a thing that is known to the object (the script; a dict while a loop walks it): read, never written while it is so -/
  | frz (o : Obj) (u : HO)
  /-- a code object's table -/
  | tbl (ps : Array Value)
  /-- any other thing, by what is true of its one object (a def of one's own: SetO a S n := HO.ext fun h => ..) -/
  | ext (φ : Heap → Prop)
noncomputable abbrev Hp := Addr → Option HO
noncomputable def upd (H : Hp) (a : Addr) (o : HO) : Hp := fun b => if b = a then some o else H b
theorem upd_same {H : Hp} {a : Addr} {o : HO} : upd H a o a = some o := by unfold upd; rw [if_pos rfl]
theorem upd_ne {H : Hp} {a b : Addr} {o : HO} (h : b ≠ a) : upd H a o b = H b := by unfold upd; rw [if_neg h]
theorem ne_of_none {H : Hp} {a b : Addr} {o : HO} (h : H a = some o) (h' : H b = none) : a ≠ b := by
  intro e; subst e; rw [h] at h'; cases h'
section
variable (P : Program) (w : World)
noncomputable def ObjOk (H : Hp) (h : Heap) (a : Addr) : HO → Prop
  | .lst xs => xs.length ≤ sizeLine ∧ ∃ (its : List Value) (n : Nat), Vals xs its ∧ h.get? a = some { cls := .type "list", data := .seq its.toArray n }
  | .tup xs => xs.length ≤ sizeLine ∧ ∃ its : List Value, Vals xs its ∧ IsTup h a its.toArray
  | .dK kvs => kvs.length ≤ sizeLine ∧ (a == sysModules) = false ∧ ∃ vs, KV kvs vs ∧ h.DictOf (mixKind P w) a vs
  | .dT kvs => kvs.length ≤ sizeLine ∧ (a == sysModules) = false ∧ ∃ xs : List (List Key × Addr × Value),
      Paired (fun (p : List Key × V) (q : List Key × Addr × Value) => p.1 = q.1 ∧ H q.2.1 = some (.tup (p.1.map kV)) ∧ RelV p.2 q.2.2) kvs xs ∧
      ∃ o es ep, h.get? a = some o ∧ o.ExactDict ∧ o.data = .dict es ep ∧ es.toList = xs.map (entryOfKey (tupleKind (mixKind P w))) ∧ (xs.map (·.1)).Nodup
  | .set S n => h.SetOf (intKind P w) a S n
  | .ins C dx fs => H dx = some (.own a) ∧ fs.length ≤ 1000 ∧ dx ≠ a ∧ h.get? a = some (PySem.W.instObj C dx) ∧
      ∃ mA, h.Ns1 dx mA ∧ (∀ f, RelO (fs.lookup f) (mA f)) ∧ PySem.Within mA (fs.map (·.1))
  | .own _ => ∃ o, h.get? a = some o
  | .xd fs => ∃ mA, h.Ns1 a mA ∧ ∀ f, RelO (fs.lookup f) (mA f)
  | .rng lo hi => ∃ t u v, h.get? a = some { cls := .type "range", data := .fields #[.int lo t, .int hi u, .int 1 v] }
  | .frz o u => h.get? a = some o ∧ ObjOk H h a u
  | .tbl ps => h.get? a = some { cls := .none, data := .fields ps }
  | .met f x => h.get? a = some (PySem.W.methodObj (.ref f) (.ref x))
  | .ext φ => φ h ∧ (∃ o, h.get? a = some o) ∧ ∀ h1 h2 : Heap, φ h1 → (∀ o, h1.get? a = some o → h2.get? a = some o) → φ h2
noncomputable def HOk (H : Hp) (h : Heap) : Prop := ∀ a o, H a = some o → ObjOk P w H h a o
end
section
variable {P : Program} {w : World} {H H' : Hp} {h h' : Heap} {a : Addr} {o : HO}
theorem ObjOk.lt (x : ObjOk P w H h a o) : a < h.objs.size := by
  cases o with
  | lst xs => obtain ⟨_, _, _, _, e⟩ := x; exact Heap.lt_size e
  | tup xs => obtain ⟨_, _, _, p⟩ := x; exact p.lt
  | dK kvs => obtain ⟨_, _, _, _, o, _, _, e, _⟩ := x; exact Heap.lt_size e
  | dT kvs => obtain ⟨_, _, _, _, o, _, _, e, _⟩ := x; exact Heap.lt_size e
  | set S n => obtain ⟨o, _, _, _, e, _⟩ := x; exact Heap.lt_size e
  | ins C dx fs => obtain ⟨_, _, _, e, _⟩ := x; exact Heap.lt_size e
  | own y => obtain ⟨_, e⟩ := x; exact Heap.lt_size e
  | xd fs => obtain ⟨_, ⟨_, _, _, e, _⟩, _⟩ := x; exact Heap.lt_size e
  | rng lo hi => obtain ⟨_, _, _, e⟩ := x; exact Heap.lt_size e
  | frz ob u => obtain ⟨e, _⟩ := x; exact Heap.lt_size e
  | tbl ps => exact Heap.lt_size (show h.get? a = some _ from x)
  | met f y => exact Heap.lt_size (show h.get? a = some _ from x)
  | ext φ => obtain ⟨_, ⟨_, e⟩, _⟩ := x; exact Heap.lt_size e
theorem Paired.mapP {α β : Type} {F G : α → β → Prop} : ∀ {l₁ : List α} {l₂ : List β}, Paired F l₁ l₂ → (∀ a b, F a b → G a b) → Paired G l₁ l₂
  | _, _, .nil, _ => .nil
  | _, _, .cons r t, f => .cons (f _ _ r) (Paired.mapP t f)
theorem ObjOk.stay (x : ObjOk P w H h a o) (k : ∀ b u, (b = a ∨ H b = some (.own a)) → h.get? b = some u → h'.get? b = some u)
    (ho : ∀ b, H b = some (.own a) → H' b = some (.own a)) (ht : ∀ b xs, H b = some (.tup xs) → H' b = some (.tup xs)) : ObjOk P w H' h' a o := by
  induction o with
  | lst xs => obtain ⟨z, its, n, r, e⟩ := x; exact ⟨z, its, n, r, k _ _ (.inl rfl) e⟩
  | tup xs => obtain ⟨z, its, r, ob, e, c⟩ := x; exact ⟨z, its, r, ob, k _ _ (.inl rfl) e, c⟩
  | dK kvs => obtain ⟨z, y, vs, r, ob, es, ep, e, c⟩ := x; exact ⟨z, y, vs, r, ob, es, ep, k _ _ (.inl rfl) e, c⟩
  | dT kvs =>
    obtain ⟨z, y, xs, r, ob, es, ep, e, c⟩ := x
    exact ⟨z, y, xs, Paired.mapP r fun p q z => ⟨z.1, ht _ _ z.2.1, z.2.2⟩, ob, es, ep, k _ _ (.inl rfl) e, c⟩
  | set S n => obtain ⟨ob, es, ep, t, e, c⟩ := x; exact ⟨ob, es, ep, t, k _ _ (.inl rfl) e, c⟩
  | ins C dx fs =>
    obtain ⟨d, z, ne, e, mA, ⟨od, es, ep, e2, c⟩, r⟩ := x
    exact ⟨ho _ d, z, ne, k _ _ (.inl rfl) e, mA, ⟨od, es, ep, k _ _ (.inr d) e2, c⟩, r⟩
  | own y => obtain ⟨ob, e⟩ := x; exact ⟨ob, k _ _ (.inl rfl) e⟩
  | xd fs => obtain ⟨mA, ⟨od, es, ep, e, c⟩, r⟩ := x; exact ⟨mA, ⟨od, es, ep, k _ _ (.inl rfl) e, c⟩, r⟩
  | rng lo hi => obtain ⟨t, u, v, e⟩ := x; exact ⟨t, u, v, k _ _ (.inl rfl) e⟩
  | frz ob u ih => obtain ⟨e, q⟩ := x; exact ⟨k _ _ (.inl rfl) e, ih q⟩
  | tbl ps =>
    have e : h.get? a = some { cls := .none, data := .fields ps } := x
    show h'.get? a = some { cls := .none, data := .fields ps }
    exact k a _ (.inl rfl) e
  | met f y =>
    have e : h.get? a = some (PySem.W.methodObj (.ref f) (.ref y)) := x
    show h'.get? a = some (PySem.W.methodObj (.ref f) (.ref y))
    exact k a _ (.inl rfl) e
  | ext φ => obtain ⟨p, ⟨o, e⟩, st⟩ := x; exact ⟨st _ _ p fun o q => k _ _ (.inl rfl) q, ⟨o, k _ _ (.inl rfl) e⟩, st⟩
theorem HOk.lt (x : HOk P w H h) (e : H a = some o) : a < h.objs.size := (x a o e).lt
theorem HOk.fresh (x : HOk P w H h) (e : h.objs.size ≤ a) : H a = none := by
  cases q : H a with
  | none => rfl
  | some u => exact absurd (Nat.lt_of_lt_of_le (x.lt q) e) (Nat.lt_irrefl _)
theorem HOk.kept (x : HOk P w H h) (k : ∀ b u, h.get? b = some u → h'.get? b = some u) : HOk P w H h' := fun a o e =>
  (x a o e).stay (fun b u _ q => k b u q) (fun _ q => q) fun _ _ q => q
theorem HOk.laid (x : HOk P w H h) (k : ∀ b u, h.get? b = some u → h'.get? b = some u) (hp : h.objs.size ≤ a) (new : ObjOk P w (upd H a o) h' a o) : HOk P w (upd H a o) h' := fun b u e => by
  have hn := x.fresh hp
  by_cases hb : b = a
  · subst hb; rw [upd_same] at e; cases e; exact new
  · rw [upd_ne hb] at e
    exact (x b u e).stay (fun c v _ q => k c v q) (fun c q => by rw [upd_ne (ne_of_none q hn)]; exact q) fun c xs q => by rw [upd_ne (ne_of_none q hn)]; exact q
end
noncomputable def Rd (H : Hp) (a : Addr) (u : HO) : Prop := H a = some u ∨ ∃ o, H a = some (.frz o u)
theorem Rd.ok {P : Program} {w : World} {H : Hp} {h : Heap} {a : Addr} {u : HO} (r : Rd H a u) (x : HOk P w H h) : ObjOk P w H h a u := by
  rcases r with r | ⟨o, r⟩
  · exact x a u r
  · obtain ⟨_, q⟩ := x a _ r
    exact q
noncomputable def Mut : Option HO → Prop
  | some (.lst _) => True
  | some (.dK _) => True
  | some (.dT _) => True
  | some (.set _ _) => True
  | some (.ins _ _ _) => True
  | some (.ext _) => True
  | _ => False
section
variable {P : Program} {w : World} {H : Hp} {h h' : Heap} {x e : Addr} {o' : HO}
theorem HOk.write (ok : HOk P w H h) (mu : Mut (H x)) (he : e = x ∨ H e = some (.own x)) (k : ∀ b u, b ≠ e → h.get? b = some u → h'.get? b = some u) (heo : ∃ u, h'.get? e = some u)
    (new : ObjOk P w (upd H x o') h' x o') : HOk P w (upd H x o') h' := fun b u q => by
  have nown : ∀ c y, H c = some (.own y) → c ≠ x := fun c y r z => by subst z; rw [r] at mu; exact mu
  have ntup : ∀ c xs, H c = some (.tup xs) → c ≠ x := fun c xs r z => by subst z; rw [r] at mu; exact mu
  by_cases hb : b = x
  · subst hb; rw [upd_same] at q; cases q; exact new
  · rw [upd_ne hb] at q
    by_cases hbe : b = e
    · have q' : H b = some (.own x) := by
        rcases he with z | z
        · exact absurd (hbe.trans z) hb
        · rw [hbe]; exact z
      rw [q] at q'; cases q'
      obtain ⟨v, hv⟩ := heo
      exact ⟨v, by rw [hbe]; exact hv⟩
    · refine (ok b u q).stay (fun c v hc r => k c v ?_ r) (fun c r => by rw [upd_ne (nown c b r)]; exact r) fun c xs r => by rw [upd_ne (ntup c xs r)]; exact r
      rcases hc with rfl | hc
      · exact hbe
      · rintro rfl
        rcases he with z | z
        · exact nown c b hc z
        · rw [hc] at z; cases z; exact hb rfl
end
structure Un (fs ex : List Addr) (H H' : Hp) (h h' : Heap) : Prop where
  keep : ∀ b o, h.get? b = some o → H b = none → b ∉ fs → b ∉ ex → h'.get? b = some o
  slot : ∀ b o, h.get? b = some o → H b = none → b ∈ fs → b ∉ ex → ∃ sl, h'.get? b = some { o with slots := sl }
  free : ∀ b o, h.get? b = some o → H b = none → b ∉ ex → H' b = none
  there : ∀ b o, h.get? b = some o → b ∉ ex → ∃ o', h'.get? b = some o'
  tups : ∀ b xs, H b = some (.tup xs) → H' b = some (.tup xs)
  frzs : ∀ b o u, H b = some (.frz o u) → H' b = some (.frz o u)
  tbls : ∀ b ps, H b = some (.tbl ps) → ∃ more, H' b = some (.tbl (ps ++ more))
section
variable {fs fs' ex ex' : List Addr} {H H1 H2 : Hp} {h h1 h2 h' : Heap} {a x e : Addr} {o : HO}
theorem Un.any (u : Un fs ex H H1 h h1) {b : Addr} {ob : Obj} (q : h.get? b = some ob) (n : H b = none) (hx : b ∉ ex) : ∃ sl, h1.get? b = some { ob with slots := sl } := by
  by_cases hb : b ∈ fs
  · exact u.slot b ob q n hb hx
  · exact ⟨ob.slots, u.keep b ob q n hb hx⟩
theorem Un.kept (k : ∀ b u, h.get? b = some u → h'.get? b = some u) : Un fs ex H H h h' :=
  ⟨fun b ob q _ _ _ => k b ob q, fun b ob q _ _ _ => ⟨ob.slots, k b ob q⟩, fun _ _ _ n _ => n, fun b ob q _ => ⟨ob, k b ob q⟩, fun _ _ q => q, fun _ _ _ q => q, fun _ ps q => ⟨#[], by rw [q]; simp⟩⟩
theorem Un.refl : Un fs ex H H h h := Un.kept fun _ _ q => q
theorem Un.laid (k : ∀ b u, h.get? b = some u → h'.get? b = some u) (hp : h.objs.size ≤ a) (hn : H a = none) : Un fs ex H (upd H a o) h h' where
  keep := fun b u q _ _ _ => k b u q
  slot := fun b u q _ _ _ => ⟨u.slots, k b u q⟩
  free := fun b u q n _ => by rw [upd_ne (Nat.ne_of_lt (Nat.lt_of_lt_of_le (Heap.lt_size q) hp))]; exact n
  there := fun b u q _ => ⟨u, k b u q⟩
  tups := fun b xs q => by rw [upd_ne (ne_of_none q hn)]; exact q
  frzs := fun b u xs q => by rw [upd_ne (ne_of_none q hn)]; exact q
  tbls := fun b ps q => ⟨#[], by rw [upd_ne (ne_of_none q hn), q]; simp⟩
theorem Un.write (mu : Mut (H x)) (he : e = x ∨ H e = some (.own x)) (k : ∀ b u, b ≠ e → h.get? b = some u → h'.get? b = some u) (heo : ∃ u, h'.get? e = some u) : Un fs ex H (upd H x o) h h' := by
  have hx : ∀ b, H b = none → b ≠ x := fun b n z => by subst z; rw [n] at mu; exact mu
  have hb : ∀ b, H b = none → b ≠ e := fun b n z => by
    subst z
    rcases he with r | r
    · exact hx b n r
    · rw [n] at r; cases r
  have hm : ∀ b u, H b = some u → ¬ Mut (some u) → b ≠ x := fun b u q nm z => by subst z; rw [q] at mu; exact nm mu
  refine ⟨fun b u q n _ _ => k b u (hb b n) q, fun b u q n _ _ => ⟨u.slots, k b u (hb b n) q⟩, fun b u q n _ => by rw [upd_ne (hx b n)]; exact n, fun b u q _ => ?_,
    fun b xs q => by rw [upd_ne (hm b _ q fun z => z)]; exact q, fun b u xs q => by rw [upd_ne (hm b _ q fun z => z)]; exact q, fun b ps q => ⟨#[], by rw [upd_ne (hm b _ q fun z => z), q]; simp⟩⟩
  by_cases hbe : b = e
  · subst hbe; exact heo
  · exact ⟨u, k b u hbe q⟩
end
noncomputable def trk (h : Heap) (H : Hp) : List Addr := (List.range h.objs.size).filter fun a => (H a).isSome
noncomputable def hidT (h : Heap) (H : Hp) : Heap := PySem.W.hideAll h (trk h H)
theorem hidT_size (h : Heap) (H : Hp) : (hidT h H).objs.size = h.objs.size := PySem.W.hideAll_size _ _
theorem hidT_get {h : Heap} {H : Hp} {b : Addr} {o : Obj} (e : h.get? b = some o) (n : H b = none) : (hidT h H).get? b = some o :=
  PySem.W.hideAll_get _ e fun hm => by
    have q : (H b).isSome = true := (List.mem_filter.mp hm).2
    rw [n] at q; simp at q
theorem of_hidT {h : Heap} {H : Hp} {b : Addr} {o : Obj} (e : (hidT h H).get? b = some o) : h.get? b = some o ∧ H b = none := by
  have e' : h.get? b = some o := PySem.W.of_hideAll (trk h H) e
  refine ⟨e', ?_⟩
  cases q : H b with
  | none => rfl
  | some x =>
    have hm : b ∈ trk h H := List.mem_filter.mpr ⟨List.mem_range.mpr (Heap.lt_size e'), by simp [q]⟩
    have z : (hidT h H).get? b = none := PySem.W.hideAll_none (trk h H) hm
    rw [z] at e; cases e
end L2
namespace L2
open PySem PySem.Spec PyProof.Rows
structure Mod (K : PySem.W.Frag) (mg : Str → Option Value) (base : Heap) : Prop where
  kin : K.In base
  glob : base.Ns mainGlobals mg
  blt : ∃ mb, base.Ns builtinsNs mb ∧ ∀ x : Str, x ≠ "__name__" → mb x = bootBuiltins x
  nolimit : base.NoLimit
structure Cx where
  prog : Program
  w : World
  K : PySem.W.Frag
  mg : Str → Option Value
  base : Heap
  A : Around
  N : List Str
  s₀ : Shared
  H₀ : Hp
  env : Env
  outer : List Env
  stack : List Env
  ex : List Addr
  fn : Str → Bool
  calm : Bool
  pn : List (Addr × Obj)
  xe : Value → Shared → Prop
noncomputable def frs (l : List Env) : List Addr := l.filterMap (·.frame)
noncomputable abbrev Cx.fs (X : Cx) : List Addr := frs X.outer
noncomputable def Vis (sc : Scope) (x : Str) : Prop := sc.names.lookup x = some .local ∨ sc.names.lookup x = some .cell ∨ sc.names.lookup x = some .free
noncomputable def Loc (sc : Scope) (x : Str) : Prop := sc.names.lookup x = some .local ∨ sc.names.lookup x = some .cell
noncomputable def Look (env : Env) (h : Heap) (m : Str → Option Value) (x : Str) (u : Value) : Prop :=
  (env.kindOf x = some .local ∧ m x = some u) ∨ ((env.kindOf x = some .cell ∨ env.kindOf x = some .free) ∧ ∃ c, env.cells.lookup x = some c ∧ h.IsCell c (some u))
structure Cx.Ok (X : Cx) : Prop where
  mod : Mod X.K X.mg X.base
  kind : X.env.scope.kind = .function
  glob : X.env.globals = mainGlobals
  blt : X.env.builtins = builtinsNs
  above : X.s₀.heap.objs.size ≤ X.env.locals
  inj : ∀ x y c, X.env.cells.lookup x = some c → X.env.cells.lookup y = some c → x = y
  has : ∀ x, (X.env.kindOf x = some .cell ∨ X.env.kindOf x = some .free) → ∃ c, X.env.cells.lookup x = some c
  cab : ∀ x c, X.fn x = true → X.env.cells.lookup x = some c → X.s₀.heap.objs.size ≤ c
  hd : X.calm = true → X.A.handled = none
  frames : X.A.frames = some X.stack
  stk : X.stack = X.outer ∨ (X.stack = X.env :: X.outer ∧ X.env.frame = some X.env.locals)
  exf : ∀ b ∈ X.ex, b ≠ X.env.locals ∧ ∀ x c, X.env.cells.lookup x = some c → c ≠ b
  bs : ∀ b o, X.base.get? b = some o → X.s₀.heap.get? b = some o ∧ X.H₀ b = none
  bsz : X.base.objs.size ≤ X.s₀.heap.objs.size
  noex : ∀ b o, X.base.get? b = some o → b ∉ X.ex
  exfs : ∀ b ∈ X.ex, b ∉ X.fs
  funs : X.s₀.heap.FunFrames X.base X.outer
  frf : ∀ b ∈ X.fs, X.H₀ b = none
structure Inv (X : Cx) (pins : List (Addr × Obj)) (σ : List (Option V)) (H : Hp) (s : Shared) : Prop where
  ok : X.Ok
  os : s.os = X.s₀.os
  bare : AllBare s.gens
  base : Un X.fs X.ex X.H₀ H X.s₀.heap s.heap
  loc : ∃ m, s.heap.Ns X.env.locals m ∧ ∀ (i : Nat) (x : Str) (v : V), X.N[i]? = some x → σ[i]? = some (some v) → Vis X.env.scope x → ∃ u, RelV v u ∧ Look X.env s.heap m x u
  cell : ∀ x c, X.env.cells.lookup x = some c → ∃ v, s.heap.IsCell c v
  free : H X.env.locals = none
  freeC : ∀ x c, X.env.cells.lookup x = some c → H c = none
  pin : ∀ p ∈ X.pn ++ pins, s.heap.get? p.1 = some p.2 ∧ H p.1 = none ∧ p.1 ≠ X.env.locals ∧ p.1 ∉ X.fs ∧ ∀ v, p.2.data ≠ .cell v
  hok : HOk X.prog X.w H s.heap
  len : σ.length = X.N.length
section
variable {X : Cx} {pins : List (Addr × Obj)} {σ : List (Option V)} {H H' : Hp} {s : Shared} {h' : Heap}
theorem Cx.Ok.nofr (ok : X.Ok) {b : Addr} {o : Obj} (e : X.base.get? b = some o) : b ∉ X.fs := fun hb => by
  have := (ok.funs.mem hb).1
  rw [e] at this; cases this
theorem Inv.bs (I : Inv X pins σ H s) : ∀ b o, X.base.get? b = some o → s.heap.get? b = some o ∧ H b = none := fun b o e =>
  ⟨I.base.keep b o (I.ok.bs b o e).1 (I.ok.bs b o e).2 (I.ok.nofr e) (I.ok.noex b o e), I.base.free b o (I.ok.bs b o e).1 (I.ok.bs b o e).2 (I.ok.noex b o e)⟩
theorem Inv.bk (I : Inv X pins σ H s) : ∀ b o, X.base.get? b = some o → s.heap.get? b = some o := fun b o e => (I.bs b o e).1
theorem Inv.mod (I : Inv X pins σ H s) : Mod X.K X.mg X.base := I.ok.mod
theorem Inv.kIn (I : Inv X pins σ H s) : X.K.In s.heap := I.ok.mod.kin.keeps I.bk
theorem Inv.lt (I : Inv X pins σ H s) : X.env.locals < s.heap.objs.size := let ⟨_, hn, _⟩ := I.loc; hn.lt
theorem Inv.sz (I : Inv X pins σ H s) : X.s₀.heap.objs.size ≤ s.heap.objs.size := Nat.le_trans I.ok.above (Nat.le_of_lt I.lt)
theorem Inv.nofs (I : Inv X pins σ H s) {a : Addr} (h : s.heap.objs.size ≤ a) : a ∉ X.fs := fun hb => by
  obtain ⟨_, o, ho, _⟩ := I.ok.funs.mem hb
  exact absurd (Nat.lt_of_lt_of_le (Heap.lt_size ho) (Nat.le_trans I.sz h)) (Nat.lt_irrefl _)
theorem Inv.cne (I : Inv X pins σ H s) : ∀ x c, X.env.cells.lookup x = some c → c ≠ X.env.locals := fun x c e z => by
  obtain ⟨v, o, ho, hd⟩ := I.cell x c e
  obtain ⟨m, ⟨o', es, ep, ho', hd', _⟩, _⟩ := I.loc
  rw [z, ho'] at ho; cases ho; rw [hd'] at hd; cases hd
theorem Inv.funs (I : Inv X pins σ H s) : s.heap.FunFrames X.base X.outer := by
  have all : ∀ (l : List Env), (∀ b ∈ frs l, b ∈ X.fs) → X.s₀.heap.FunFrames X.base l → s.heap.FunFrames X.base l := by
    intro l
    induction l with
    | nil => intro _ _; trivial
    | cons env r ih =>
      intro hs hl
      obtain ⟨hk, ⟨L, o, hf, hn, ho, hd⟩, hr⟩ := hl
      have hL : L ∈ X.fs := hs L (by unfold frs; rw [List.filterMap_cons, hf]; exact List.mem_cons_self)
      obtain ⟨sl, e⟩ := I.base.slot L o ho (I.ok.frf L hL) hL fun z => I.ok.exfs L z hL
      exact ⟨hk, ⟨L, _, hf, hn, e, hd⟩, ih (fun b hb => hs b (by unfold frs; rw [List.filterMap_cons, hf]; exact List.mem_cons_of_mem _ hb)) hr⟩
  exact all X.outer (fun _ hb => hb) I.ok.funs
theorem Inv.stack (I : Inv X pins σ H s) : s.heap.FunFrames X.base X.stack := by
  rcases I.ok.stk with e | ⟨e, hf⟩
  · rw [e]; exact I.funs
  · rw [e]
    obtain ⟨m, hn, _⟩ := I.loc
    refine .cons (by rw [I.ok.kind]; decide) hf hn ?_ I.funs
    exact Heap.get?_none_of_le (Nat.le_trans I.ok.bsz I.ok.above)
theorem Inv.stkSub (I : Inv X pins σ H s) : ∀ b ∈ frs X.stack, b ∈ X.env.locals :: X.fs := fun b hb => by
  rcases I.ok.stk with e | ⟨e, hf⟩
  · rw [e] at hb; exact List.mem_cons_of_mem _ hb
  · rw [e] at hb
    unfold frs at hb
    rw [List.filterMap_cons, hf] at hb
    exact hb
theorem Inv.stkFree (I : Inv X pins σ H s) : ∀ b ∈ frs X.stack, H b = none := fun b hb => by
  rcases List.mem_cons.mp (I.stkSub b hb) with e | hb
  · rw [e]; exact I.free
  · obtain ⟨_, o, ho, _⟩ := I.ok.funs.mem hb
    exact I.base.free b o ho (I.ok.frf b hb) fun z => I.ok.exfs b z hb
theorem Inv.step {g' : Array GenState} {t' : Nat} {d' : Drawn} {ch : List Addr} (I : Inv X pins σ H s)
    (hch : ∀ b ∈ ch, (b ∈ X.ex ∨ X.s₀.heap.objs.size ≤ b) ∧ b ≠ X.env.locals ∧ (∀ x c, X.env.cells.lookup x = some c → c ≠ b) ∧ ∀ p ∈ X.pn ++ pins, p.1 ≠ b)
    (keep : ∀ b o, b ≠ X.env.locals → b ∉ X.fs → b ∉ ch → s.heap.get? b = some o → H b = none → h'.get? b = some o)
    (slot : ∀ b o, b ≠ X.env.locals → b ∈ X.fs → b ∉ ch → s.heap.get? b = some o → H b = none → ∃ sl, h'.get? b = some { o with slots := sl }) (free : ∀ b o, b ∉ ch → s.heap.get? b = some o → H b = none → H' b = none)
    (there : ∀ b o, b ∉ ch → s.heap.get? b = some o → ∃ o', h'.get? b = some o')
    (tups : ∀ b xs, H b = some (.tup xs) → H' b = some (.tup xs)) (frzs : ∀ b o u, H b = some (.frz o u) → H' b = some (.frz o u)) (tbls : ∀ b ps, H b = some (.tbl ps) → ∃ more, H' b = some (.tbl (ps ++ more)))
    (ns : ∀ m, s.heap.Ns X.env.locals m → h'.Ns X.env.locals m) (hok : HOk X.prog X.w H' h') (hg : AllBare g') :
    Inv X pins σ H' { s with heap := h', gens := g', drawn := d', toks := t' } := by
  have neL : ∀ b o, X.s₀.heap.get? b = some o → b ≠ X.env.locals := fun b o e => Nat.ne_of_lt (Nat.lt_of_lt_of_le (Heap.lt_size e) I.ok.above)
  have neC : ∀ b o, X.s₀.heap.get? b = some o → b ∉ X.ex → b ∉ ch := fun b o e hx hb => by
    rcases (hch b hb).1 with z | z
    · exact hx z
    · exact absurd (Nat.lt_of_lt_of_le (Heap.lt_size e) z) (Nat.lt_irrefl _)
  have cellK : ∀ x c, X.env.cells.lookup x = some c → ∀ v, s.heap.IsCell c v → h'.IsCell c v := fun x c e v ⟨o, ho, hd⟩ => by
    have nch : c ∉ ch := fun z => (hch c z).2.2.1 x c e rfl
    by_cases hc : c ∈ X.fs
    · obtain ⟨sl, q⟩ := slot c o (I.cne x c e) hc nch ho (I.freeC x c e)
      exact ⟨_, q, hd⟩
    · exact ⟨o, keep c o (I.cne x c e) hc nch ho (I.freeC x c e), hd⟩
  refine ⟨I.ok, I.os, hg, ⟨fun b o e n hb hx => ?_, fun b o e n hb hx => ?_, fun b o e n hx => ?_, fun b o e hx => ?_, fun b xs e => tups b xs (I.base.tups b xs e), fun b o xs e => frzs b o xs (I.base.frzs b o xs e), fun b ps e => ?_⟩, ?_, fun x c e => ?_, ?_, fun x c e => ?_, fun p hp => ?_, hok, I.len⟩
  · exact keep b o (neL b o e) hb (neC b o e hx) (I.base.keep b o e n hb hx) (I.base.free b o e n hx)
  · obtain ⟨sl, e1⟩ := I.base.slot b o e n hb hx
    obtain ⟨sl', e2⟩ := slot b _ (neL b o e) hb (neC b o e hx) e1 (I.base.free b o e n hx)
    exact ⟨sl', e2⟩
  · obtain ⟨o', e1⟩ := I.base.there b o e hx
    exact free b o' (neC b o e hx) e1 (I.base.free b o e n hx)
  · obtain ⟨o', e1⟩ := I.base.there b o e hx
    exact there b o' (neC b o e hx) e1
  · obtain ⟨m1, e1⟩ := I.base.tbls b ps e
    obtain ⟨m2, e2⟩ := tbls b _ e1
    exact ⟨m1 ++ m2, by rw [e2, Array.append_assoc]⟩
  · obtain ⟨m, hn, hl⟩ := I.loc
    refine ⟨m, ns m hn, fun i x v e1 e2 e3 => ?_⟩
    obtain ⟨u, r, l⟩ := hl i x v e1 e2 e3
    refine ⟨u, r, ?_⟩
    rcases l with l | ⟨k, c, e, z⟩
    · exact .inl l
    · exact .inr ⟨k, c, e, cellK x c e _ z⟩
  · obtain ⟨v, z⟩ := I.cell x c e
    exact ⟨v, cellK x c e v z⟩
  · obtain ⟨m, ⟨o, _, _, ho, _⟩, _⟩ := I.loc
    exact free _ o (fun z => (hch _ z).2.1 rfl) ho I.free
  · obtain ⟨v, o, ho, hd⟩ := I.cell x c e
    exact free c o (fun z => (hch c z).2.2.1 x c e rfl) ho (I.freeC x c e)
  · obtain ⟨e, n, ne, nf, d⟩ := I.pin p hp
    have nch : p.1 ∉ ch := fun z => (hch p.1 z).2.2.2 p hp rfl
    exact ⟨keep p.1 p.2 ne nf nch e n, free p.1 p.2 nch e n, ne, nf, d⟩
theorem Inv.un {t' : Nat} (I : Inv X pins σ H s) (u : Un X.fs [] H H' s.heap h') (hok : HOk X.prog X.w H' h') : Inv X pins σ H' { s with heap := h', toks := t' } := by
  obtain ⟨m, ⟨o, es, ep, ho, r⟩, _⟩ := id I.loc
  obtain ⟨sl, hL⟩ := u.any ho I.free (by simp)
  exact I.step (g' := s.gens) (d' := s.drawn) (ch := []) (fun _ z => nomatch z) (fun b o _ hb _ e n => u.keep b o e n hb (by simp)) (fun b o _ hb _ e n => u.slot b o e n hb (by simp)) (fun b o _ e n => u.free b o e n (by simp)) (fun b o _ e => u.there b o e (by simp)) u.tups u.frzs u.tbls (fun m' hm => by
    obtain ⟨o', es', ep', ho', r'⟩ := hm
    rw [ho] at ho'; cases ho'
    exact ⟨_, es', ep', hL, r'⟩) hok I.bare
theorem Inv.call {g' : Array GenState} {t' : Nat} {d' : Drawn} {ch : List Addr} (I : Inv X pins σ H s) (u : Un (frs X.stack) ch H H' s.heap h') (hok : HOk X.prog X.w H' h') (hg : AllBare g')
    (hch : ∀ b ∈ ch, (b ∈ X.ex ∨ X.s₀.heap.objs.size ≤ b) ∧ b ≠ X.env.locals ∧ (∀ x c, X.env.cells.lookup x = some c → c ≠ b) ∧ ∀ p ∈ X.pn ++ pins, p.1 ≠ b) :
    Inv X pins σ H' { s with heap := h', gens := g', drawn := d', toks := t' } := by
  obtain ⟨m, ⟨o, es, ep, ho, r⟩, _⟩ := id I.loc
  obtain ⟨sl, hL⟩ := u.any ho I.free fun z => (hch _ z).2.1 rfl
  exact I.step (ch := ch) hch (fun b o hL hb hc e n => u.keep b o e n (fun z => (List.mem_cons.mp (I.stkSub b z)).elim hL hb) hc) (fun b o _ _ hc e n => u.any e n hc) (fun b o hc e n => u.free b o e n hc) (fun b o hc e => u.there b o e hc) u.tups u.frzs u.tbls (fun m' hm => by
    obtain ⟨o', es', ep', ho', r'⟩ := hm
    rw [ho] at ho'; cases ho'
    exact ⟨_, es', ep', hL, r'⟩) hok hg
theorem Inv.turned {t' : Nat} {it : Addr} (I : Inv X pins σ H s) (k : ∀ b o, b ≠ it → s.heap.get? b = some o → h'.get? b = some o) (hn : H it = none) (hL : it ≠ X.env.locals)
    (h1 : it ∈ X.ex ∨ X.s₀.heap.objs.size ≤ it) (h2 : ∀ x c, X.env.cells.lookup x = some c → c ≠ it) (h3 : ∀ p ∈ X.pn ++ pins, p.1 ≠ it) : Inv X pins σ H { s with heap := h', toks := t' } := by
  have nit : ∀ b u, H b = some u → b ≠ it := fun b u e z => by rw [z, hn] at e; cases e
  refine I.step (g' := s.gens) (d' := s.drawn) (ch := [it]) (fun b hb => ?_) (fun b o _ _ hc e _ => k b o (fun z => hc (by simp [z])) e) (fun b o _ _ hc e _ => ⟨o.slots, k b o (fun z => hc (by simp [z])) e⟩) (fun _ _ _ _ n => n)
    (fun b o hc e => ⟨o, k b o (fun z => hc (by simp [z])) e⟩) (fun _ _ e => e) (fun _ _ _ e => e) (fun b ps e => ⟨#[], by rw [e]; simp⟩) (fun m hm => ?_) (fun b u e => ?_) I.bare
  · have e : b = it := by simpa using hb
    subst e
    exact ⟨h1, hL, h2, h3⟩
  · obtain ⟨o, es, ep, ho, r⟩ := hm
    exact ⟨o, es, ep, k _ o (Ne.symm hL) ho, r⟩
  · refine (I.hok b u e).stay (fun c v hc q => k c v ?_ q) (fun _ q => q) fun _ _ q => q
    rcases hc with z | z
    · rw [z]; exact nit b u e
    · exact nit c _ z
theorem Inv.tok (I : Inv X pins σ H s) (t : Nat) : Inv X pins σ H { s with toks := t } := I.un (h' := s.heap) (t' := t) Un.refl I.hok
theorem Inv.kept {t' : Nat} (I : Inv X pins σ H s) (k : ∀ b u, s.heap.get? b = some u → h'.get? b = some u) : Inv X pins σ H { s with heap := h', toks := t' } := I.un (Un.kept k) (I.hok.kept k)
theorem Inv.laid {a : Addr} {o : HO} {t' : Nat} (I : Inv X pins σ H s) (k : ∀ b u, s.heap.get? b = some u → h'.get? b = some u) (hp : s.heap.objs.size ≤ a) (new : ObjOk X.prog X.w (upd H a o) h' a o) :
    Inv X pins σ (upd H a o) { s with heap := h', toks := t' } := I.un (Un.laid k hp (I.hok.fresh hp)) (I.hok.laid k hp new)
theorem Inv.write {x e : Addr} {o : HO} {t' : Nat} (I : Inv X pins σ H s) (mu : Mut (H x)) (he : e = x ∨ H e = some (.own x)) (k : ∀ b u, b ≠ e → s.heap.get? b = some u → h'.get? b = some u) (heo : ∃ u, h'.get? e = some u)
    (new : ObjOk X.prog X.w (upd H x o) h' x o) : Inv X pins σ (upd H x o) { s with heap := h', toks := t' } := I.un (Un.write mu he k heo) (I.hok.write mu he k heo new)
theorem Inv.pins_of {pins' : List (Addr × Obj)} (I : Inv X pins σ H s) (h : ∀ p ∈ pins', s.heap.get? p.1 = some p.2 ∧ H p.1 = none ∧ p.1 ≠ X.env.locals ∧ p.1 ∉ X.fs ∧ ∀ v, p.2.data ≠ .cell v) : Inv X pins' σ H s :=
  ⟨I.ok, I.os, I.bare, I.base, I.loc, I.cell, I.free, I.freeC, fun p hp => (List.mem_append.mp hp).elim (fun z => I.pin p (List.mem_append_left _ z)) (h p), I.hok, I.len⟩
theorem nodup_ix {N : List Str} (hN : N.Nodup) {i j : Nat} {x : Str} (a : N[i]? = some x) (b : N[j]? = some x) : i = j := by
  obtain ⟨h1, e1⟩ := List.getElem?_eq_some_iff.mp a
  obtain ⟨h2, e2⟩ := List.getElem?_eq_some_iff.mp b
  exact (List.getElem_inj hN).mp (e1.trans e2.symm)
theorem store_ok2 {M : Model} {A : Around} {E : Value → Shared → Prop} {i : Nat} {x : Str} {v : V} {u : Value} {Q : Unit → Shared → Prop} (I : Inv X pins σ H s) (hN : X.N.Nodup) (hi : X.N[i]? = some x) (hx : Loc X.env.scope x) (r : RelV v u)
    (h : ∀ s', Inv X pins (σ.set i (some v)) H s' → (∃ a, Heap.SameBut a s.heap s'.heap ∧ (a = X.env.locals ∨ X.env.cells.lookup x = some a)) → Q () s') (hf : X.fn x = true ∨ X.env.scope.names.lookup x = some .local := by first | exact .inl rfl | exact .inr rfl | assumption) : wpAny M A (storeName X.env x u) Q E s := by
  obtain ⟨m, hn, hl⟩ := id I.loc
  have hcls : (X.env.scope.kind == .class || (X.env.scope.kind == .module && X.env.locals != X.env.globals)) = false := by rw [I.ok.kind]; rfl
  have hiσ : i < σ.length := by rw [I.len]; exact (List.getElem?_eq_some_iff.mp hi).1
  have cne := I.cne
  have tracked : ∀ {a : Addr} {h' : Heap}, (∃ o, s.heap.get? a = some o ∧ H a = none) → Heap.SameBut a s.heap h' → HOk X.prog X.w H h' := fun {a h'} ha hs b ob e => by
    obtain ⟨_, _, hfree⟩ := ha
    refine (I.hok b ob e).stay (fun c w' hc q => (hs.2 c ?_).trans q) (fun _ q => q) fun _ _ q => q
    rintro rfl
    rcases hc with rfl | hc
    · rw [hfree] at e; cases e
    · rw [hfree] at hc; cases hc
  rcases hx with hk | hk
  · refine wpAny_storeName_local hk hn (fun h' hn' hs => ?_) hcls
    obtain ⟨oL, _, _, hoL, _⟩ := id hn
    refine h _ ⟨I.ok, I.os, I.bare, ⟨fun b o e n hb hx => ?_, fun b o e n hb hx => ?_, I.base.free, fun b o e hx => ?_, I.base.tups, I.base.frzs, I.base.tbls⟩, ⟨_, hn', fun j y v' e1 e2 e3 => ?_⟩, fun y c e => ?_, I.free, I.freeC, fun p hp => ?_, tracked ⟨oL, hoL, I.free⟩ hs, by simpa using I.len⟩ ⟨_, hs, .inl rfl⟩
    · exact (hs.2 b (Nat.ne_of_lt (Nat.lt_of_lt_of_le (Heap.lt_size e) I.ok.above))).trans (I.base.keep b o e n hb hx)
    · obtain ⟨sl, e1⟩ := I.base.slot b o e n hb hx
      exact ⟨sl, (hs.2 b (Nat.ne_of_lt (Nat.lt_of_lt_of_le (Heap.lt_size e) I.ok.above))).trans e1⟩
    · obtain ⟨o', e1⟩ := I.base.there b o e hx
      exact ⟨o', (hs.2 b (Nat.ne_of_lt (Nat.lt_of_lt_of_le (Heap.lt_size e) I.ok.above))).trans e1⟩
    · by_cases hj : j = i
      · subst hj
        rw [hi] at e1; cases e1
        rw [List.getElem?_set_self hiσ] at e2
        cases e2
        exact ⟨u, r, .inl ⟨hk, by simp⟩⟩
      · rw [List.getElem?_set_ne (Ne.symm hj)] at e2
        obtain ⟨u', r', q⟩ := hl j y v' e1 e2 e3
        refine ⟨u', r', ?_⟩
        rcases q with ⟨k, e⟩ | ⟨k, c, e, z⟩
        · refine .inl ⟨k, ?_⟩
          have : y ≠ x := fun e => hj (nodup_ix hN e1 (e ▸ hi))
          simp [this, e]
        · exact .inr ⟨k, c, e, z.sameBut hs (cne y c e)⟩
    · obtain ⟨w', z⟩ := I.cell y c e
      exact ⟨w', z.sameBut hs (cne y c e)⟩
    · obtain ⟨e, n, ne, nf, d⟩ := I.pin p hp
      exact ⟨(hs.2 p.1 ne).trans e, n, ne, nf, d⟩
  · have hfn : X.fn x = true := by
      rcases hf with z | z
      · exact z
      · rw [z] at hk; cases hk
    obtain ⟨c, hc⟩ := I.ok.has x (.inl hk)
    obtain ⟨w', z⟩ := I.cell x c hc
    refine wpAny_storeName_cell I.ok.kind hk hc z (fun h' hc' hs => ?_)
    obtain ⟨oc, hoc, hocd⟩ := id z
    refine h { s with heap := h' } ⟨I.ok, I.os, I.bare, ⟨fun b o e n hb hx => ?_, fun b o e n hb hx => ?_, I.base.free, fun b o e hx => ?_, I.base.tups, I.base.frzs, I.base.tbls⟩, ⟨m, hn.sameBut hs (Ne.symm (cne x c hc)), fun j y v' e1 e2 e3 => ?_⟩, fun y c' e => ?_, I.free, I.freeC, fun p hp => ?_, tracked ⟨oc, hoc, I.freeC x c hc⟩ hs, by simpa using I.len⟩ ⟨c, hs, .inr hc⟩
    · exact (hs.2 b (Nat.ne_of_lt (Nat.lt_of_lt_of_le (Heap.lt_size e) (I.ok.cab x c hfn hc)))).trans (I.base.keep b o e n hb hx)
    · obtain ⟨sl, e1⟩ := I.base.slot b o e n hb hx
      exact ⟨sl, (hs.2 b (Nat.ne_of_lt (Nat.lt_of_lt_of_le (Heap.lt_size e) (I.ok.cab x c hfn hc)))).trans e1⟩
    · obtain ⟨o', e1⟩ := I.base.there b o e hx
      exact ⟨o', (hs.2 b (Nat.ne_of_lt (Nat.lt_of_lt_of_le (Heap.lt_size e) (I.ok.cab x c hfn hc)))).trans e1⟩
    · by_cases hj : j = i
      · subst hj
        rw [hi] at e1; cases e1
        rw [List.getElem?_set_self hiσ] at e2
        cases e2
        exact ⟨u, r, .inr ⟨.inl hk, c, hc, hc'⟩⟩
      · rw [List.getElem?_set_ne (Ne.symm hj)] at e2
        obtain ⟨u', r', q⟩ := hl j y v' e1 e2 e3
        refine ⟨u', r', ?_⟩
        rcases q with q | ⟨k, c', e, z'⟩
        · exact .inl q
        · refine .inr ⟨k, c', e, z'.sameBut hs ?_⟩
          rintro rfl
          exact hj (nodup_ix hN e1 (I.ok.inj _ _ _ e hc ▸ hi))
    · by_cases hcc : c' = c
      · subst hcc; exact ⟨_, hc'⟩
      · obtain ⟨w2, z2⟩ := I.cell y c' e
        exact ⟨w2, z2.sameBut hs hcc⟩
    · obtain ⟨e, n, ne, nf, d⟩ := I.pin p hp
      refine ⟨(hs.2 p.1 ?_).trans e, n, ne, nf, d⟩
      intro q
      rw [q, hoc] at e
      have q' : oc = p.2 := Option.some.inj e
      exact d w' (by rw [← q']; exact hocd)
theorem store_ok {M : Model} {A : Around} {E : Value → Shared → Prop} {i : Nat} {x : Str} {v : V} {u : Value} {Q : Unit → Shared → Prop} (I : Inv X pins σ H s) (hN : X.N.Nodup) (hi : X.N[i]? = some x) (hx : Loc X.env.scope x) (r : RelV v u)
    (h : ∀ s', Inv X pins (σ.set i (some v)) H s' → Q () s') (hf : X.fn x = true ∨ X.env.scope.names.lookup x = some .local := by first | exact .inl rfl | exact .inr rfl | assumption) : wpAny M A (storeName X.env x u) Q E s :=
  store_ok2 I hN hi hx r (fun s' I' _ => h s' I') hf
theorem Inv.call' {s' : Shared} {ch : List Addr} (I : Inv X pins σ H s) (ho : s'.os = s.os) (u : Un (frs X.stack) ch H H' s.heap s'.heap) (hok : HOk X.prog X.w H' s'.heap) (hg : AllBare s'.gens)
    (hch : ∀ b ∈ ch, (b ∈ X.ex ∨ X.s₀.heap.objs.size ≤ b) ∧ b ≠ X.env.locals ∧ (∀ x c, X.env.cells.lookup x = some c → c ≠ b) ∧ ∀ p ∈ X.pn ++ pins, p.1 ≠ b) : Inv X pins σ H' s' := by
  obtain ⟨h', g', d', t', o'⟩ := s'
  have e : o' = s.os := ho
  subst e
  exact I.call (g' := g') (t' := t') (d' := d') u hok hg hch
end
noncomputable abbrev XK := Value → Option Addr → Hp → Prop
noncomputable abbrev St := List (Option V)
noncomputable abbrev VK := V → Hp → Prop
noncomputable abbrev TE := St → Hp → VK → Prop
noncomputable abbrev TT := St → Hp → (Bool → Hp → Prop) → Prop
noncomputable abbrev TA := St → Hp → (List V → Hp → Prop) → Prop
structure Ends where
  nx : St → Hp → Prop
  rt : VK
  bk : St → Hp → Prop := fun _ _ => False
  ct : St → Hp → Prop := fun _ _ => False
noncomputable abbrev TS := Ends → St → Hp → Prop
noncomputable def EP (X : Cx) (pins : List (Addr × Obj)) (σ : St) (Q : VK) (u : Value) (s' : Shared) : Prop := ∃ v H', Inv X pins σ H' s' ∧ RelV v u ∧ Q v H'
noncomputable def TP (X : Cx) (pins : List (Addr × Obj)) (σ : St) (Q : Bool → Hp → Prop) (b : Bool) (s' : Shared) : Prop := ∃ H', Inv X pins σ H' s' ∧ Q b H'
noncomputable def AP (X : Cx) (pins : List (Addr × Obj)) (σ : St) (Q : List V → Hp → Prop) (us : List Value) (s' : Shared) : Prop := ∃ vs H', Inv X pins σ H' s' ∧ Vals vs us ∧ Q vs H'
noncomputable def SP (X : Cx) (pins : List (Addr × Obj)) (D : Ends) (f : Flow) (s' : Shared) : Prop :=
  match f with
  | .next => ∃ σ' H', Inv X pins σ' H' s' ∧ D.nx σ' H'
  | .brk => ∃ σ' H', Inv X pins σ' H' s' ∧ D.bk σ' H'
  | .cont => ∃ σ' H', Inv X pins σ' H' s' ∧ D.ct σ' H'
  | .ret u => ∃ v σ' H', Inv X pins σ' H' s' ∧ RelV v u ∧ D.rt v H'
noncomputable def PE (X : Cx) (e : Expr) (t : TE) : Prop :=
  ∀ (pins : List (Addr × Obj)) (s : Shared) (σ : St) (H : Hp) (Q : VK), Inv X pins σ H s → t σ H Q → wpAny (model X.prog X.w) X.A (eval e X.env) (EP X pins σ Q) X.xe s
noncomputable def PT (X : Cx) (e : Expr) (t : TT) : Prop :=
  ∀ (pins : List (Addr × Obj)) (s : Shared) (σ : St) (H : Hp) (Q : Bool → Hp → Prop), Inv X pins σ H s → t σ H Q → wpAny (model X.prog X.w) X.A (isTrue e X.env (eval e X.env)) (TP X pins σ Q) X.xe s
noncomputable def PW (X : Cx) (e : Expr) (t : TT) : Prop :=
  ∀ (whole : Sem Value) (pins : List (Addr × Obj)) (s : Shared) (σ : St) (H : Hp) (Q : Bool → Hp → Prop), Inv X pins σ H s → t σ H Q → wpAny (model X.prog X.w) X.A (isTrue e X.env whole) (TP X pins σ Q) X.xe s
theorem PW.pt {X : Cx} {e : Expr} {t : TT} (h : PW X e t) : PT X e t := h _
noncomputable def PA (X : Cx) (es : List Expr) (t : TA) : Prop :=
  ∀ (pos : Pos) (pins : List (Addr × Obj)) (s : Shared) (σ : St) (H : Hp) (Q : List V → Hp → Prop), Inv X pins σ H s → t σ H Q → wpAny (model X.prog X.w) X.A (spliced (backTo pos (starEach es X.env))) (AP X pins σ Q) X.xe s
noncomputable def PS (X : Cx) (st : Stmt) (t : TS) : Prop :=
  ∀ (pins : List (Addr × Obj)) (s : Shared) (σ : St) (H : Hp) (D : Ends), Inv X pins σ H s → t D σ H → wpAny (model X.prog X.w) X.A (exec st X.env) (SP X pins D) X.xe s
noncomputable def PSs (X : Cx) (st : List Stmt) (t : TS) : Prop :=
  ∀ (pins : List (Addr × Obj)) (s : Shared) (σ : St) (H : Hp) (D : Ends), Inv X pins σ H s → t D σ H → wpAny (model X.prog X.w) X.A (execs st X.env) (SP X pins D) X.xe s
theorem thn {α : Type} {t : Sem α} {Q Q' : α → Shared → Prop} {M : Model} {A : Around} {E : Value → Shared → Prop} {s : Shared} (h : wpAny M A t Q E s) (hQ : ∀ a s, Q a s → Q' a s) : wpAny M A t Q' E s := wpAny_mono h hQ fun _ _ x => x
end L2
namespace L2
open PySem PySem.Spec PyProof.Rows
section
variable {X : Cx}
theorem bin {a b : Expr} {ta tb : TE} (ha : PE X a ta) (hb : PE X b tb) {pins : List (Addr × Obj)} {s : Shared} {σ : St} {H : Hp} {R : V → V → Hp → Prop} (I : Inv X pins σ H s) (h : ta σ H fun x H1 => tb σ H1 fun y H2 => R x y H2)
    {α : Type} {Q : α → Shared → Prop} {f : Value → Value → Sem α}
    (hf : ∀ v u s2 x y H2, Inv X pins σ H2 s2 → RelV x v → RelV y u → R x y H2 → wpAny (model X.prog X.w) X.A (f v u) Q X.xe s2) :
    wpAny (model X.prog X.w) X.A (eval a X.env) (fun v s₁ => wpAny (model X.prog X.w) X.A (eval b X.env) (fun u s₂ => wpAny (model X.prog X.w) X.A (f v u) Q X.xe s₂) X.xe s₁) X.xe s := by
  refine thn (ha pins s σ H _ I h) fun v s1 ⟨x, H1, I1, r1, q1⟩ => ?_
  refine thn (hb pins s1 σ H1 _ I1 q1) fun u s2 ⟨y, H2, I2, r2, q2⟩ => ?_
  exact hf v u s2 x y H2 I2 r1 r2 q2
noncomputable def tVar (i : Nat) : TE := fun σ H Q => ∃ v, σ[i]? = some (some v) ∧ Q v H
noncomputable def tC (v : V) : TE := fun _ H Q => Q v H
theorem pe_var {i : Nat} {x : Str} {pos : Pos} (hN : X.N[i]? = some x) (hv : Vis X.env.scope x) (hd : (x == ("__debug__" : Str)) = false := by decide) (hcd : (x == ("__classdict__" : Str)) = false := by decide) : PE X (.Name x pos) (tVar i) := by
  intro pins s σ H Q I h
  obtain ⟨v, e, h⟩ := h
  obtain ⟨m, hn, hl⟩ := I.loc
  obtain ⟨u, r, l⟩ := hl i x v hN e hv
  have fin : EP X pins σ Q u s := ⟨v, H, I, r, h⟩
  rcases l with ⟨hk, hm⟩ | ⟨hk, c, hc, hcell⟩
  · exact wpAny_Name (wpAny_loadName_local I.ok.kind hk hn hm fin) hd
  · rcases hk with hk | hk
    · exact wpAny_Name (wpAny_loadName_cell I.ok.kind hk hc hcell fin) hd
    · exact wpAny_Name (wpAny_loadName_free I.ok.kind hk hc hcell fin hcd) hd
theorem pe_int {i j pos} : PE X (.Constant (.int i) j pos) (tC (.int i)) := fun _ _ _ H _ I h => wpAny_Constant_int ⟨.int i, H, I.tok _, ⟨_, rfl⟩, h⟩
theorem pe_bl {b j pos} : PE X (.Constant (.bool b) j pos) (tC (.bl b)) := fun _ _ _ H _ I h => Constant_bool ⟨.bl b, H, I, rfl, h⟩
theorem pe_str {x j pos} : PE X (.Constant (.str x) j pos) (tC (.str x)) := fun _ _ _ H _ I h => Calls.Constant_str ⟨.str x, H, I.tok _, ⟨_, rfl⟩, h⟩
noncomputable def Gl (X : Cx) (x : Str) : Prop := X.env.kindOf x = some .globalImplicit
theorem ld_glob {E : Value → Shared → Prop} {pins : List (Addr × Obj)} {s : Shared} {σ : St} {H : Hp} {x : Str} {u : Value} {pos : Pos} {Q : Value → Shared → Prop} (I : Inv X pins σ H s) (hg : Gl X x) (hm : X.mg x = some u) (h : Q u s)
    (hd : (x == ("__debug__" : Str)) = false := by decide) : wpAny (model X.prog X.w) X.A (eval (.Name x pos) X.env) Q E s :=
  Calls.Name_function_global I.ok.kind hg (Calls.loadGlobal_global (by rw [I.ok.glob]; exact I.mod.glob.keeps I.bk) hm h) hd
theorem ld_blt {E : Value → Shared → Prop} {pins : List (Addr × Obj)} {s : Shared} {σ : St} {H : Hp} {x : Str} {u : Value} {pos : Pos} {Q : Value → Shared → Prop} (I : Inv X pins σ H s) (hg : Gl X x) (hm : X.mg x = none) (hv : bootBuiltins x = some u) (h : Q u s)
    (hn : x ≠ "__name__" := by decide) (hd : (x == ("__debug__" : Str)) = false := by decide) : wpAny (model X.prog X.w) X.A (eval (.Name x pos) X.env) Q E s := by
  obtain ⟨mb, h1, h2⟩ := I.mod.blt
  exact Calls.Name_function_global I.ok.kind hg (Calls.loadGlobal_builtin (by rw [I.ok.glob]; exact I.mod.glob.keeps I.bk) hm (by rw [I.ok.blt]; exact h1.keeps I.bk) ((h2 x hn).trans hv) h) hd
theorem pe_glob {x : Str} {v : V} {u : Value} {pos : Pos} (hg : Gl X x) (hm : X.mg x = some u) (r : RelV v u) (hd : (x == ("__debug__" : Str)) = false := by decide) : PE X (.Name x pos) (tC v) :=
  fun _ _ _ H _ I h => ld_glob I hg hm ⟨v, H, I, r, h⟩ hd
theorem pe_bltn {x : Str} {v : V} {u : Value} {pos : Pos} (hg : Gl X x) (hm : X.mg x = none) (hv : bootBuiltins x = some u) (r : RelV v u) (hn : x ≠ "__name__" := by decide) (hd : (x == ("__debug__" : Str)) = false := by decide) : PE X (.Name x pos) (tC v) :=
  fun _ _ _ H _ I h => ld_blt I hg hm hv ⟨v, H, I, r, h⟩ hn hd
variable {a b : Expr} {ta tb : TE} {pos : Pos}
noncomputable def PC (X : Cx) (op : CmpOp) (a b : Expr) (t : TE) : Prop :=
  ∀ (pins : List (Addr × Obj)) (s : Shared) (σ : St) (H : Hp) (Q : VK), Inv X pins σ H s → t σ H Q →
    wpAny (model X.prog X.w) X.A (eval a X.env) (fun v s₁ => wpAny (model X.prog X.w) X.A (eval b X.env) (fun u s₂ => wpAny (model X.prog X.w) X.A (compareOp op v u) (EP X pins σ Q) X.xe s₂) X.xe s₁) X.xe s
noncomputable def tB (t : TE) : TT := fun σ H Q => t σ H fun x H1 => ∃ c, x = .bl c ∧ Q c H1
theorem pt_cmp {op : CmpOp} {t : TE} (h : PC X op a b t) (h1 : behindInMarks op b = false := by first | exact nobehind _ (by decide) (by decide) | rfl) : PT X (.Compare a [op] [b] pos) (tB t) := by
  intro pins s σ H Q I hw
  refine wpAny_isTrue_Compare1 (thn (h pins s σ H _ I hw) fun v s1 h1 => thn h1 fun u s2 h2 => thn h2 fun c s3 ⟨x, H1, I1, r1, q1⟩ => ?_) h1
  obtain ⟨d, rfl, q⟩ := q1
  cases r1
  exact wpAny_truthy_bool ⟨H1, I1, q⟩
theorem pt_val {e : Expr} {t : TE} (h : PE X e t) (he : ∀ whole, isTrue e X.env whole = (do let v ← whole; standAt e.pos; holding [v] (truthy v)) := by intro _; rfl) : PT X e (tB t) := by
  intro pins s σ H Q I hw
  refine isTrue_plain (thn (h pins s σ H _ I hw) fun v s1 ⟨x, H1, I1, r1, q1⟩ => ?_) (he _)
  obtain ⟨d, rfl, q⟩ := q1
  cases r1
  exact wpAny_truthy_bool ⟨H1, I1, q⟩
variable {tA tB' : TT} {rest : List Expr}
noncomputable def tAnd (t u : TT) : TT := fun σ H Q => t σ H fun c H1 => if c = true then u σ H1 Q else Q false H1
noncomputable def tOr (t u : TT) : TT := fun σ H Q => t σ H fun c H1 => if c = true then Q true H1 else u σ H1 Q
noncomputable def tNot (t : TT) : TT := fun σ H Q => t σ H fun c H1 => Q (!c) H1
theorem pw_and1 (ha : PT X a tA) : PW X (.BoolOp .And [a] pos) tA := by
  intro wh pins s σ H Q I h
  refine isTrue_and (thn (ha pins s σ H Q I h) fun c s1 e => ?_)
  cases c with
  | true => exact isTrue_and_nil e
  | false => exact e
theorem pw_or1 (ha : PT X a tA) : PW X (.BoolOp .Or [a] pos) tA := by
  intro wh pins s σ H Q I h
  refine isTrue_or (thn (ha pins s σ H Q I h) fun c s1 e => ?_)
  cases c with
  | false => exact isTrue_or_nil e
  | true => exact e
theorem pw_and (ha : PT X a tA) (hb : PW X (.BoolOp .And (b :: rest) pos) tB') : PW X (.BoolOp .And (a :: b :: rest) pos) (tAnd tA tB') := by
  intro wh pins s σ H Q I h
  refine isTrue_and (thn (ha pins s σ H _ I h) fun c s1 ⟨H1, I1, q1⟩ => ?_)
  cases c with
  | true => exact hb wh pins s1 σ H1 Q I1 q1
  | false => exact ⟨H1, I1, q1⟩
theorem pw_or (ha : PT X a tA) (hb : PW X (.BoolOp .Or (b :: rest) pos) tB') : PW X (.BoolOp .Or (a :: b :: rest) pos) (tOr tA tB') := by
  intro wh pins s σ H Q I h
  refine isTrue_or (thn (ha pins s σ H _ I h) fun c s1 ⟨H1, I1, q1⟩ => ?_)
  cases c with
  | true => exact ⟨H1, I1, q1⟩
  | false => exact hb wh pins s1 σ H1 Q I1 q1
theorem pt_not (ha : PT X a tA) : PT X (.UnaryOp .Not a pos) (tNot tA) := by
  intro pins s σ H Q I h
  exact isTrue_not (ha pins s σ H (fun c H1 => Q (!c) H1) I h)
noncomputable def tAndV (ta tb : TE) : TE := fun σ H Q => ta σ H fun x H1 => ∃ c, x = .bl c ∧ if c = true then tb σ H1 Q else Q (.bl false) H1
noncomputable def tNotV (ta : TE) : TE := fun σ H Q => ta σ H fun x H1 => ∃ c, x = .bl c ∧ Q (.bl (!c)) H1
theorem pe_one {op} {t : TE} (h : PE X a t) : PE X (.BoolOp op [a] pos) t := fun pins s σ H Q I hw => BoolOp_one (h pins s σ H Q I hw)
theorem pe_and (ha : PE X a ta) (hb : PE X (.BoolOp .And (b :: rest) pos) tb) : PE X (.BoolOp .And (a :: b :: rest) pos) (tAndV ta tb) := by
  intro pins s σ H Q I h
  refine BoolOp_and (thn (ha pins s σ H _ I h) fun v s1 ⟨x, H1, I1, r1, q1⟩ => ?_)
  obtain ⟨c, rfl, q1⟩ := q1
  cases r1
  refine wpAny_truthy_bool ?_
  cases c with
  | true => exact hb pins s1 σ H1 Q I1 q1
  | false => exact ⟨.bl false, H1, I1, rfl, q1⟩
theorem pe_not (ha : PE X a ta) : PE X (.UnaryOp .Not a pos) (tNotV ta) := by
  intro pins s σ H Q I h
  refine UnaryOp_ (thn (ha pins s σ H _ I h) fun v s1 ⟨x, H1, I1, r1, q1⟩ => ?_)
  obtain ⟨c, rfl, q1⟩ := q1
  cases r1
  exact not_of (wpAny_truthy_bool ⟨.bl (!c), H1, I1, rfl, q1⟩)
end
end L2
namespace L2
open PySem PySem.Spec PyProof.Rows
noncomputable def SqL (K : PySem.W.Frag) (H : Hp) (a : Addr) (xs : List V) : Prop :=
  Rd H a (.lst xs) ∨
    ∃ (o : Obj) (its : Array Value) (n : Nat), K.lookup a = some o ∧ o.cls = .type "list" ∧ o.dict = none ∧ o.data = .seq its n ∧ its.size ≤ sizeLine ∧ Vals xs its.toList
noncomputable def SqT (K : PySem.W.Frag) (H : Hp) (a : Addr) (xs : List V) : Prop :=
  Rd H a (.tup xs) ∨
    ∃ (o : Obj) (its : Array Value) (n : Nat), K.lookup a = some o ∧ o.cls = .type "tuple" ∧ o.data = .seq its n ∧ its.size ≤ sizeLine ∧ Vals xs its.toList
noncomputable def absV : Value → Option V
  | .none => some .non
  | .bool b => some (.bl b)
  | .int i _ => some (.int i)
  | .str x _ => some (.str x)
  | .bytes b _ => some (.byt b)
  | .float b _ => some (.flt b)
  | .ref a => some (.ref a)
  | .type n => some (.ty n)
  | _ => none
theorem RelV.abs {x : V} {u : Value} (r : RelV x u) : absV u = some x := by
  cases x with
  | non => cases r; rfl
  | bl _ => cases r; rfl
  | int _ => obtain ⟨t, rfl⟩ := r; rfl
  | str _ => obtain ⟨t, rfl⟩ := r; rfl
  | byt _ => obtain ⟨t, rfl⟩ := r; rfl
  | flt _ => obtain ⟨t, rfl⟩ := r; rfl
  | ref _ => cases r; rfl
  | ty _ => cases r; rfl
theorem RelV.inj {x y : V} {u : Value} (r : RelV x u) (q : RelV y u) : x = y := Option.some.inj (r.abs.symm.trans q.abs)
theorem Vals.inj : ∀ {xs ys : List V} {us : List Value}, Vals xs us → Vals ys us → xs = ys := by
  intro xs ys us h
  induction h generalizing ys with
  | nil => intro q; cases q; rfl
  | cons r t ih =>
    intro q
    cases q with
    | cons r' t' => rw [r.inj r', ih t']
section
variable {X : Cx} {pins : List (Addr × Obj)} {σ : St} {H : Hp} {s : Shared} {a : Addr} {xs ys : List V}
theorem SqL.of {K : PySem.W.Frag} (h : H a = some (.lst xs)) : SqL K H a xs := .inl (.inl h)
theorem SqT.of {K : PySem.W.Frag} (h : H a = some (.tup xs)) : SqT K H a xs := .inl (.inl h)
theorem Inv.list (I : Inv X pins σ H s) (h : SqL X.K H a xs) : ∃ its : List Value, Vals xs its ∧ PlainL s.heap a its.toArray ∧ xs.length ≤ sizeLine := by
  rcases h with h | ⟨o, its, n, hk, hc, hd, hs, hz, r⟩
  · obtain ⟨z, its, n, r, e⟩ := h.ok I.hok
    exact ⟨its, r, ⟨_, n, e, rfl, rfl, rfl⟩, z⟩
  · refine ⟨its.toList, r, ⟨o, n, I.kIn a o hk, hc, hd, by simpa using hs⟩, ?_⟩
    have e := r.length
    simp only [Array.length_toList] at e
    omega
theorem Inv.tuple (I : Inv X pins σ H s) (h : SqT X.K H a xs) : ∃ its : List Value, Vals xs its ∧ IsTup s.heap a its.toArray ∧ xs.length ≤ sizeLine := by
  rcases h with h | ⟨o, its, n, hk, hc, hs, hz, r⟩
  · obtain ⟨z, its, r, p⟩ := h.ok I.hok
    exact ⟨its, r, p, z⟩
  · refine ⟨its.toList, r, ⟨o, I.kIn a o hk, hc, n, by simpa using hs⟩, ?_⟩
    have e := r.length
    simp only [Array.length_toList] at e
    omega
theorem Inv.list_inj (I : Inv X pins σ H s) (h : SqL X.K H a xs) (h' : SqL X.K H a ys) : xs = ys := by
  obtain ⟨its, r, ⟨o, n, e, _, _, d⟩, _⟩ := I.list h
  obtain ⟨its', r', ⟨o', n', e', _, _, d'⟩, _⟩ := I.list h'
  rw [e] at e'; cases e'
  rw [d] at d'
  injection d' with d1 _
  have : its = its' := by simpa using congrArg Array.toList d1
  subst this
  exact r.inj r'
theorem Inv.tuple_inj (I : Inv X pins σ H s) (h : SqT X.K H a xs) (h' : SqT X.K H a ys) : xs = ys := by
  obtain ⟨its, r, ⟨o, e, _, n, d⟩, _⟩ := I.tuple h
  obtain ⟨its', r', ⟨o', e', _, n', d'⟩, _⟩ := I.tuple h'
  rw [e] at e'; cases e'
  rw [d] at d'
  injection d' with d1 _
  have : its = its' := by simpa using congrArg Array.toList d1
  subst this
  exact r.inj r'
end
noncomputable abbrev Cx.wish (X : Cx) (E : Value → Shared → Prop) : Cx := { X with xe := E }
noncomputable abbrev Cx.nox (X : Cx) : Cx := X.wish fun _ _ => False
theorem Cx.Ok.wish {X : Cx} (ok : X.Ok) (E : Value → Shared → Prop) : (X.wish E).Ok :=
  ⟨ok.mod, ok.kind, ok.glob, ok.blt, ok.above, ok.inj, ok.has, ok.cab, ok.hd, ok.frames, ok.stk, ok.exf, ok.bs, ok.bsz, ok.noex, ok.exfs, ok.funs, ok.frf⟩
theorem Cx.Ok.unwish {X : Cx} {E : Value → Shared → Prop} (ok : (X.wish E).Ok) : X.Ok :=
  ⟨ok.mod, ok.kind, ok.glob, ok.blt, ok.above, ok.inj, ok.has, ok.cab, ok.hd, ok.frames, ok.stk, ok.exf, ok.bs, ok.bsz, ok.noex, ok.exfs, ok.funs, ok.frf⟩
section
variable {X : Cx} {pins : List (Addr × Obj)} {σ : St} {H : Hp} {s : Shared} {E : Value → Shared → Prop}
theorem Inv.wish (I : Inv X pins σ H s) (E : Value → Shared → Prop) : Inv (X.wish E) pins σ H s := ⟨I.ok.wish E, I.os, I.bare, I.base, I.loc, I.cell, I.free, I.freeC, I.pin, I.hok, I.len⟩
theorem Inv.unwish (I : Inv (X.wish E) pins σ H s) : Inv X pins σ H s := ⟨I.ok.unwish, I.os, I.bare, I.base, I.loc, I.cell, I.free, I.freeC, I.pin, I.hok, I.len⟩
theorem SP.unwish {D : Ends} {f : Flow} {s' : Shared} (h : SP (X.wish E) pins D f s') : SP X pins D f s' := by
  cases f with
  | next => obtain ⟨σ', H', I, q⟩ := h; exact ⟨σ', H', I.unwish, q⟩
  | brk => obtain ⟨σ', H', I, q⟩ := h; exact ⟨σ', H', I.unwish, q⟩
  | cont => obtain ⟨σ', H', I, q⟩ := h; exact ⟨σ', H', I.unwish, q⟩
  | ret u => obtain ⟨v, σ', H', I, r, q⟩ := h; exact ⟨v, σ', H', I.unwish, r, q⟩
theorem PSs.nox {st : List Stmt} {t : TS} (h : PSs X.nox st t) : PSs X st t := fun pins s σ H D I hw =>
  wpAny_mono (h pins s σ H D (I.wish _) hw) (fun _ _ q => q.unwish) fun _ _ z => False.elim z
end
section
variable {X : Cx} {st : Stmt} {rest : List Stmt} {t u : TS} {e : Expr} {te : TE} {pos : Pos}
noncomputable def tNext : TS := fun D σ H => D.nx σ H
noncomputable def tSeq (t u : TS) : TS := fun D σ H => t { D with nx := u D } σ H
theorem pss_nil : PSs X [] tNext := fun _ _ σ H _ I h => wpAny_execs_nil ⟨σ, H, I, h⟩
theorem pss_cons (h1 : PS X st t) (h2 : PSs X rest u) : PSs X (st :: rest) (tSeq t u) := by
  intro pins s σ H D I h
  refine wpAny_execs_cons (thn (h1 pins s σ H { D with nx := u D } I h) fun f s1 q => ?_)
  cases f with
  | next =>
    obtain ⟨σ', H', I', q⟩ := q
    exact h2 pins s1 σ' H' D I' q
  | ret v => exact q
  | brk => exact q
  | cont => exact q
theorem pss_one (h1 : PS X st t) : PSs X [st] t := by
  intro pins s σ H D I h
  refine wpAny_execs_cons (thn (h1 pins s σ H D I h) fun f s1 q => ?_)
  cases f with
  | next => exact wpAny_execs_nil q
  | ret v => exact q
  | brk => exact q
  | cont => exact q
theorem Inv.quiet {pins : List (Addr × Obj)} {σ : St} {H : Hp} {s : Shared} (I : Inv X pins σ H s) : interactive X.env = false := by simp [interactive, I.ok.kind]
noncomputable def tDrop (te : TE) : TS := fun D σ H => te σ H fun _ H1 => D.nx σ H1
theorem ps_expr (he : PE X e te) (hs : swapsWith e none pos.line X.env = pure false := by rfl) : PS X (.Expr e pos) (tDrop te) := by
  intro pins s σ H D I h
  exact wpAny_Expr_any (thn (he pins s σ H _ I h) fun v s1 ⟨x, H1, I1, r1, q1⟩ => ⟨σ, H1, I1, q1⟩) I.quiet hs
noncomputable def tRet (te : TE) : TS := fun D σ H => te σ H D.rt
theorem ps_ret (he : PE X e te) : PS X (.Return (some e) pos) (tRet te) := by
  intro pins s σ H D I h
  exact wpAny_Return_some (thn (he pins s σ H _ I h) fun v s1 ⟨x, H1, I1, r1, q1⟩ => ⟨x, σ, H1, I1, r1, q1⟩)
noncomputable def tIfS (c : TT) (t u : TS) : TS := fun D σ H => c σ H fun b H1 => if b = true then t D σ H1 else u D σ H1
theorem ps_if {c : Expr} {a b : List Stmt} {tc : TT} (hc : PT X c tc) (ha : PSs X a t) (hb : PSs X b u) : PS X (.If c a b pos) (tIfS tc t u) := by
  intro pins s σ H D I h
  refine wpAny_If (thn (hc pins s σ H _ I h) fun d s1 ⟨H1, I1, q1⟩ => ?_)
  cases d with
  | true => exact ha pins s1 σ H1 D I1 q1
  | false => exact hb pins s1 σ H1 D I1 q1
noncomputable def tNever : TS := fun _ _ _ => False
theorem ps_never : PS X st tNever := fun _ _ _ _ _ _ h => h.elim
end
noncomputable abbrev TG := V → St → Hp → (St → Hp → Prop) → Prop
noncomputable abbrev TGs := List V → St → Hp → (St → Hp → Prop) → Prop
noncomputable def PG (X : Cx) (target : Expr) (t : TG) : Prop :=
  ∀ (pins : List (Addr × Obj)) (s : Shared) (σ : St) (H : Hp) (v : V) (u : Value) (Q : St → Hp → Prop), Inv X pins σ H s → RelV v u → t v σ H Q →
    wpAny (model X.prog X.w) X.A (assign target X.env u) (fun _ s' => ∃ σ' H', Inv X pins σ' H' s' ∧ Q σ' H') X.xe s
noncomputable def PGs (X : Cx) (ts : List Expr) (t : TGs) : Prop :=
  ∀ (pins : List (Addr × Obj)) (s : Shared) (σ : St) (H : Hp) (vs : List V) (us : List Value) (Q : St → Hp → Prop), Inv X pins σ H s → Vals vs us → t vs σ H Q →
    wpAny (model X.prog X.w) X.A (assignInOrder ((assignEach ts X.env).map (·.2)) us) (fun _ s' => ∃ σ' H', Inv X pins σ' H' s' ∧ Q σ' H') X.xe s
noncomputable abbrev TSet := V → V → V → Hp → (Hp → Prop) → Prop
noncomputable def PSet (X : Cx) (t : TSet) : Prop :=
  ∀ (pins : List (Addr × Obj)) (s : Shared) (σ : St) (H : Hp) (o i v : V) (ov iv u : Value) (Q : Hp → Prop), Inv X pins σ H s → RelV o ov → RelV i iv → RelV v u → t o i v H Q →
    wpAny (model X.prog X.w) X.A (setItem ov iv u) (fun _ s' => ∃ H', Inv X pins σ H' s' ∧ Q H') X.xe s
noncomputable abbrev TIp := V → V → Hp → VK → Prop
noncomputable def PIp (X : Cx) (op : Operator) (t : TIp) : Prop :=
  ∀ (pins : List (Addr × Obj)) (s : Shared) (σ : St) (H : Hp) (x y : V) (v u : Value) (Q : VK), Inv X pins σ H s → RelV x v → RelV y u → t x y H Q →
    wpAny (model X.prog X.w) X.A (inplaceOp op v u) (EP X pins σ Q) X.xe s
section
variable {X : Cx} {pos : Pos}
noncomputable def gName (i : Nat) : TG := fun v σ H Q => Q (σ.set i (some v)) H
theorem pg_name {i : Nat} {x : Str} (hN : X.N.Nodup) (hi : X.N[i]? = some x) (hx : Loc X.env.scope x) (hf : X.fn x = true ∨ X.env.scope.names.lookup x = some .local := by first | exact .inl rfl | exact .inr rfl | assumption) : PG X (.Name x pos) (gName i) := by
  intro pins s σ H v u Q I r h
  exact wpAny_assign_Name (store_ok I hN hi hx r (fun s' I' => ⟨_, H, I', h⟩) hf)
noncomputable def gNil : TGs := fun vs σ H Q => vs = [] ∧ Q σ H
noncomputable def gCons (t : TG) (u : TGs) : TGs := fun vs σ H Q => ∃ v r, vs = v :: r ∧ t v σ H fun σ' H' => u r σ' H' Q
theorem pgs_nil : PGs X [] gNil := by
  intro pins s σ H vs us Q I r h
  obtain ⟨e, h⟩ := h
  subst e
  cases r
  exact assignInOrder_nil ⟨σ, H, I, h⟩
theorem pgs_cons {e : Expr} {es : List Expr} {t : TG} {u : TGs} (h1 : PG X e t) (h2 : PGs X es u)
    (hs : (assignEach (e :: es) X.env).map (·.2) = assign e X.env :: (assignEach es X.env).map (·.2) := by rfl) : PGs X (e :: es) (gCons t u) := by
  intro pins s σ H vs us Q I r h
  obtain ⟨v, vr, e1, h⟩ := h
  subst e1
  cases r with
  | cons r rr =>
    rw [hs]
    refine assignInOrder_cons (thn (h1 pins s σ H _ _ _ I r h) fun _ s1 ⟨σ1, H1, I1, q1⟩ => ?_)
    exact h2 pins s1 σ1 H1 _ _ Q I1 rr q1
noncomputable def gTup (K : PySem.W.Frag) (n : Nat) (t : TGs) : TG := fun v σ H Q => ∃ a xs, v = .ref a ∧ SqT K H a xs ∧ xs.length = n ∧ t xs σ H Q
theorem pg_tup {es : List Expr} {k : Nat} {t : TGs} {n : Nat} (hc : X.calm = true) (h : PGs X es t)
    (hn : (assignEach es X.env).length = n := by rfl) (hst : (assignEach es X.env).findIdx? (·.1) = none := by rfl) : PG X (.Tuple es k pos) (gTup X.K n t) := by
  intro pins s σ H v u Q I r hw
  obtain ⟨a, xs, e1, hq, hl, hw⟩ := hw
  subst e1
  cases r
  obtain ⟨its, rv, ht, hz⟩ := I.tuple hq
  refine assign_Tuple_tuple (I.ok.hd hc) ht (by simp [hn, ← hl, rv.length]) hst fun h' hx => ?_
  have I1 : Inv X pins σ H { s with heap := h' } := I.kept (t' := s.toks) fun b o e => hx b o (Nat.ne_of_lt (Heap.lt_size e)) e
  exact h pins _ σ H xs _ Q I1 (by simpa using rv) hw
noncomputable def gSub (to ti : TE) (t : TSet) : TG := fun v σ H Q => to σ H fun o H1 => ti σ H1 fun i H2 => t o i v H2 fun H3 => Q σ H3
theorem pg_sub {o i : Expr} {to ti : TE} {t : TSet} (ho : PE X o to) (hi : PE X i ti) (hs : PSet X t)
    (ha : ∀ v, assign (.Subscript o i pos) X.env v = (do
      let ov ← holding [v] (eval o X.env)
      let iv ← holding [v, ov] (eval i X.env)
      standAt pos
      holding [v, ov, iv] (setItem ov iv v)
      release [v, ov, iv] []) := by intro _; rfl) : PG X (.Subscript o i pos) (gSub to ti t) := by
  intro pins s σ H v u Q I r h
  rw [ha]
  refine wpAny_bind (wpAny_holding (thn (ho pins s σ H _ I h) fun ov s1 ⟨x, H1, I1, r1, q1⟩ => ?_))
  refine wpAny_bind (wpAny_holding (thn (hi pins s1 σ H1 _ I1 q1) fun iv s2 ⟨y, H2, I2, r2, q2⟩ => ?_))
  refine wpAny_bind (wpAny_standAt (wpAny_bind (wpAny_holding (thn (hs pins s2 σ H2 x y v ov iv u _ I2 r1 r2 r q2) fun _ s3 ⟨H3, I3, q3⟩ => ?_))))
  exact wpAny_release ⟨σ, H3, I3, q3⟩
noncomputable def tAsg (te : TE) (g : TG) : TS := fun D σ H => te σ H fun x H1 => g x σ H1 D.nx
theorem ps_asg {tg e : Expr} {te : TE} {g : TG} (he : PE X e te) (hg : PG X tg g) (hs : swapsWithSole [tg] e pos.line X.env = pure false := by rfl) (hw : swappedStores [tg] e X.env = pure none := by rfl)
    (h1 : (assignEach [tg] X.env).map (·.2) = [assign tg X.env] := by rfl) : PS X (.Assign [tg] e pos) (tAsg te g) := by
  intro pins s σ H D I h
  refine wpAny_Assign_stores (thn (he pins s σ H _ I h) fun v s1 ⟨x, H1, I1, r1, q1⟩ => ?_) hs hw
  rw [h1]
  exact thn (hg pins s1 σ H1 x v _ I1 r1 q1) fun _ s2 q => q
theorem ps_set {i : Nat} {x : Str} {e : Expr} {te : TE} {pos' : Pos} (hN : X.N.Nodup) (hi : X.N[i]? = some x) (hx : Loc X.env.scope x) (he : PE X e te) (hs : swapsWith e (some (.Name x pos')) pos.line X.env = pure false := by rfl) (hf : X.fn x = true ∨ X.env.scope.names.lookup x = some .local := by first | exact .inl rfl | exact .inr rfl | assumption) :
    PS X (.Assign [.Name x pos'] e pos) (tAsg te (gName i)) := by
  intro pins s σ H D I h
  refine wpAny_Assign_Name (thn (he pins s σ H _ I h) fun v s1 ⟨y, H1, I1, r1, q1⟩ => ?_) hs
  exact store_ok I1 hN hi hx r1 (fun s2 I2 => ⟨_, H1, I2, q1⟩) hf
noncomputable def tAug (i : Nat) (te : TE) (ti : TIp) : TS := fun D σ H => ∃ x, σ[i]? = some (some x) ∧ te σ H fun y H1 => ti x y H1 fun z H2 => D.nx (σ.set i (some z)) H2
theorem ps_aug {i : Nat} {x : Str} {e : Expr} {te : TE} {op : Operator} {ti : TIp} {pos' : Pos} (hN : X.N.Nodup) (hi : X.N[i]? = some x) (hx : Loc X.env.scope x) (he : PE X e te) (ho : PIp X op ti) (hf : X.fn x = true ∨ X.env.scope.names.lookup x = some .local := by first | exact .inl rfl | exact .inr rfl | assumption) :
    PS X (.AugAssign (.Name x pos') op e pos) (tAug i te ti) := by
  intro pins s σ H D I h
  obtain ⟨v, e1, h⟩ := h
  obtain ⟨m, hn, hl⟩ := I.loc
  have vis : Vis X.env.scope x := by rcases hx with k | k; exact .inl k; exact .inr (.inl k)
  obtain ⟨u, r, l⟩ := hl i x v hi e1 vis
  refine wpAny_AugAssign_Name ?_
  have go : wpAny (model X.prog X.w) X.A (eval e X.env) (fun w s₂ => wpAny (model X.prog X.w) X.A (inplaceOp op u w) (fun r s₃ => wpAny (model X.prog X.w) X.A (storeName X.env x r) (fun _ => SP X pins D .next) X.xe s₃) X.xe s₂) X.xe s := by
    refine thn (he pins s σ H _ I h) fun w s1 ⟨y, H1, I1, r1, q1⟩ => ?_
    refine thn (ho pins s1 σ H1 v y u w _ I1 r r1 q1) fun z s2 ⟨zv, H2, I2, r2, q2⟩ => ?_
    exact store_ok I2 hN hi hx r2 (fun s3 I3 => ⟨_, H2, I3, q2⟩) hf
  rcases l with ⟨hk, hm⟩ | ⟨hk, c, hc, hcell⟩
  · exact wpAny_loadName_local I.ok.kind hk hn hm go
  · rcases hk with hk | hk
    · exact wpAny_loadName_cell I.ok.kind hk hc hcell go
    · rcases hx with k | k
      · have : X.env.scope.names.lookup x = some .free := hk
        rw [k] at this; cases this
      · have : X.env.scope.names.lookup x = some .free := hk
        rw [k] at this; cases this
noncomputable def ipI (f : Int → Int → Int) : TIp := fun x y H Q => ∃ i j, x = .int i ∧ y = .int j ∧ Q (.int (f i j)) H
theorem ip_add : PIp X .Add (ipI fun i j => i + j) := by
  intro pins s σ H x y v u Q I r1 r2 h
  obtain ⟨i, j, e1, e2, q⟩ := h
  subst e1; subst e2
  obtain ⟨t, rfl⟩ := r1
  obtain ⟨t', rfl⟩ := r2
  exact iadd_int ⟨.int _, H, I.tok _, ⟨_, rfl⟩, q⟩
theorem ip_sub : PIp X .Sub (ipI fun i j => i - j) := by
  intro pins s σ H x y v u Q I r1 r2 h
  obtain ⟨i, j, e1, e2, q⟩ := h
  subst e1; subst e2
  obtain ⟨t, rfl⟩ := r1
  obtain ⟨t', rfl⟩ := r2
  exact isub_int ⟨.int _, H, I.tok _, ⟨_, rfl⟩, q⟩
end
section
variable {X : Cx} {pos : Pos}
noncomputable def tWhile (c : TT) (tb : TS) : TS := fun D σ H => ∃ W : Nat → St → Hp → Prop, (∃ m, W m σ H) ∧ ∀ m σ H, W m σ H →
  c σ H fun b H1 => if b = true then ∃ N : St → Hp → Prop, (∀ σ' H', N σ' H' → ∃ m', m' < m ∧ W m' σ' H') ∧ tb { D with nx := N, ct := N, bk := D.nx } σ H1 else D.nx σ H1
theorem ps_while {c : Expr} {body : List Stmt} {tc : TT} {tb : TS} (hp : PassesOwn (model X.prog X.w) X.A X.env X.xe) (hc : PT X c tc) (hb : PSs X body tb) : PS X (.While c body [] pos) (tWhile tc tb) := by
  intro pins s σ H D I h
  obtain ⟨W, ⟨m0, w0⟩, turn⟩ := h
  refine wpAny_While (codeAny_whileLoop (fun n s' => ∃ σ' H', Inv X pins σ' H' s' ∧ W n σ' H') ?_ m0 ⟨σ, H, I, w0⟩)
  rintro n s1 ⟨σ1, H1, I1, w1⟩
  refine wpAny_passesOwn hp (thn (hc pins s1 σ1 H1 _ I1 (turn n σ1 H1 w1)) fun b s2 ⟨H2, I2, q2⟩ => ?_)
  cases b with
  | true =>
    obtain ⟨N, hN, q2⟩ := q2
    rw [if_pos rfl]
    refine wpAny_passesOwn hp (thn (hb pins s2 σ1 H2 _ I2 q2) fun f s3 q3 => ?_)
    cases f with
    | next =>
      obtain ⟨σ3, H3, I3, n3⟩ := q3
      obtain ⟨m', hm, w3⟩ := hN σ3 H3 n3
      exact ⟨m', hm, σ3, H3, I3, w3⟩
    | cont =>
      obtain ⟨σ3, H3, I3, n3⟩ := q3
      obtain ⟨m', hm, w3⟩ := hN σ3 H3 n3
      exact ⟨m', hm, σ3, H3, I3, w3⟩
    | brk => exact q3
    | ret v => exact q3
  | false =>
    rw [if_neg Bool.false_ne_true]
    exact wpAny_execs_nil ⟨σ1, H2, I2, q2⟩
end
structure It where
  go : Nat → Hp → Prop
  yld : Nat → Hp → V → Hp → Prop
  stop : Nat → Hp → Prop
noncomputable def FpOk (X : Cx) (pins : List (Addr × Obj)) (H : Hp) (b : Addr) : Prop :=
  H b = none ∧ b ≠ X.env.locals ∧ b ∉ X.fs ∧ (b ∈ X.ex ∨ X.s₀.heap.objs.size ≤ b) ∧ (∀ x c, X.env.cells.lookup x = some c → c ≠ b) ∧ ∀ p ∈ X.pn ++ pins, p.1 ≠ b
theorem Inv.fpOk {X : Cx} {pins : List (Addr × Obj)} {σ : St} {H H' : Hp} {s : Shared} {b : Addr} (I : Inv X pins σ H s) (hb : s.heap.objs.size ≤ b) (hn : H' b = none) : FpOk X pins H' b := by
  refine ⟨hn, Nat.ne_of_gt (Nat.lt_of_lt_of_le I.lt hb), I.nofs hb, .inr (Nat.le_trans I.sz hb), fun x c e z => ?_, fun p hp z => ?_⟩
  · obtain ⟨v, q⟩ := I.cell x c e
    exact absurd (Nat.lt_of_lt_of_le q.lt (by rw [z]; exact hb)) (Nat.lt_irrefl _)
  · exact absurd (Nat.lt_of_lt_of_le (Heap.lt_size (I.pin p hp).1) (by rw [z]; exact hb)) (Nat.lt_irrefl _)
structure Turn (P : Program) (w : World) (K : PySem.W.Frag) (tg : Expr) (J : It) (fp : List Addr) (it : Addr) (tn : Nat → Heap → Prop) : Prop where
  mem : it ∈ fp
  obj : ∀ i h, tn i h → ∀ b ∈ fp, ∃ o, h.get? b = some o ∧ ∀ v, o.data ≠ .cell v
  keep : ∀ i h h', tn i h → (∀ b ∈ fp, ∀ o, h.get? b = some o → h'.get? b = some o) → tn i h'
  item : ∀ (X : Cx), X.prog = P → X.w = w → X.K = K → X.calm = true → ∀ (i : Nat) (pins : List (Addr × Obj)) (s : Shared) (σ : St) (H : Hp) (E : Value → Shared → Prop), Inv X pins σ H s → (∀ b ∈ fp, FpOk X pins H b) → tn i s.heap → J.go i H →
    wpAny (model P w) X.A (pyNext (.ref it)) (fun r s1 => ∃ u, r = some u ∧
      wpAny (model P w) X.A (letOwnedTupleGo tg (.ref it) u) (fun _ s2 => ∃ x H', Inv X pins σ H' s2 ∧ RelV x u ∧ J.yld i H x H' ∧ tn (i + 1) s2.heap ∧ ∀ b ∈ fp, H' b = none) E s1) E s
  done : ∀ (X : Cx), X.prog = P → X.w = w → X.K = K → X.calm = true → ∀ (i : Nat) (pins : List (Addr × Obj)) (s : Shared) (σ : St) (H : Hp) (E : Value → Shared → Prop), Inv X pins σ H s → (∀ b ∈ fp, FpOk X pins H b) → tn i s.heap → J.stop i H →
    wpAny (model P w) X.A (pyNext (.ref it)) (fun r s1 => r = none ∧ Inv X pins σ H s1) E s
  self : ∀ (A : Around) (i : Nat) (s : Shared) (Q : Value → Shared → Prop) (E : Value → Shared → Prop), tn i s.heap → Q (.ref it) s → wpAny (model P w) A (pyIter (.ref it)) Q E s
noncomputable abbrev TI := St → Hp → (It → Hp → Prop) → Prop
noncomputable def PIE (X : Cx) (pins : List (Addr × Obj)) (σ : St) (tg : Expr) (R : It → Hp → Prop) (itv : Value) (s2 : Shared) : Prop :=
  ∃ (it : Addr) (fp : List Addr) (tn : Nat → Heap → Prop) (J : It) (H' : Hp), itv = .ref it ∧ Inv X pins σ H' s2 ∧ Turn X.prog X.w X.K tg J fp it tn ∧ tn 0 s2.heap ∧ (∀ b ∈ fp, FpOk X pins H' b) ∧ R J H'
noncomputable def PI (X : Cx) (tg iter : Expr) (wi : TI) : Prop :=
  ∀ (pins : List (Addr × Obj)) (s : Shared) (σ : St) (H : Hp) (R : It → Hp → Prop), Inv X pins σ H s → wi σ H R →
    wpAny (model X.prog X.w) X.A (eval iter X.env) (fun v s1 => wpAny (model X.prog X.w) X.A (pyIter v) (PIE X pins σ tg R) X.xe s1) X.xe s
theorem go_of {M : Model} {A : Around} {E : Value → Shared → Prop} {s : Shared} {tg : Expr} {it : Addr} {u : Value} {o : Obj} {n : String} {vs : Array Value} {Q : Unit → Shared → Prop} (ho : s.heap.get? it = some o) (hc : o.cls = .type n) (hd : o.data = .fields vs)
    (hn : ["enumerate", "zip", "dict_itemiterator", "dict_reverseitemiterator", "odict_iterator", "itertools.zip_longest", "itertools.pairwise"].contains n = false) (hQ : Q () s) : wpAny M A (letOwnedTupleGo tg (.ref it) u) Q E s := by
  unfold letOwnedTupleGo
  cases tg <;> first
    | exact wpAny_pure hQ
    | (cases u <;> first
        | exact wpAny_pure hQ
        | (refine wpAny_bind (wpAny_load ho ?_)
           rw [hc, hd]
           show wpAny M A (if (["enumerate", "zip", "dict_itemiterator", "dict_reverseitemiterator", "odict_iterator", "itertools.zip_longest", "itertools.pairwise"].contains n && vs[0]? == some (rawInt _)) = true then _ else _) Q E s
           rw [if_neg (by intro h; rw [hn, Bool.false_and] at h; cases h)]
           exact wpAny_pure hQ))
noncomputable def Itl (K : PySem.W.Frag) (a : Addr) : It :=
  ⟨fun i H => ∃ xs x, SqL K H a xs ∧ xs[i]? = some x, fun i H x H' => H' = H ∧ ∀ xs, SqL K H a xs → xs[i]? = some x, fun i H => ∃ xs, SqL K H a xs ∧ xs.length ≤ i⟩
noncomputable def Itt (K : PySem.W.Frag) (a : Addr) : It :=
  ⟨fun i H => ∃ xs x, SqT K H a xs ∧ xs[i]? = some x, fun i H x H' => H' = H ∧ ∀ xs, SqT K H a xs → xs[i]? = some x, fun i H => ∃ xs, SqT K H a xs ∧ xs.length ≤ i⟩
noncomputable def Itr (lo : Int) (n : Nat) : It := ⟨fun i _ => i < n, fun i H x H' => H' = H ∧ x = .int (lo + i), fun i _ => n ≤ i⟩
theorem turn_list {P : Program} {w : World} {K : PySem.W.Frag} {tg : Expr} (a it : Addr) : Turn P w K tg (Itl K a) [it] it (fun i h => h.IsListIter it a i) where
  mem := by simp
  obj := fun i h st b hb => by
    have e : b = it := by simpa using hb
    subst e
    obtain ⟨o, e, c, d⟩ := st
    exact ⟨o, e, fun v z => by rw [d] at z; cases z⟩
  keep := fun i h h' st k => st.at fun o e => k it (by simp) o e
  item := by
    intro X hP hw hK hc i pins s σ H E I hf st hg
    subst hP hw hK
    obtain ⟨xs, x, hq, hx⟩ := hg
    obtain ⟨its, rv, p, hz⟩ := I.list hq
    obtain ⟨u, hu, ru⟩ := rv.get hx
    obtain ⟨f0, f1, f2, f3, f4, f5⟩ := hf it (by simp)
    refine wpAny_pyNext_list_item st p.isList (x := u) (by simpa using hu) fun h' st' sb => ?_
    have I1 : Inv X pins σ H { s with heap := h' } := I.turned (t' := s.toks) (fun b o hb e => (sb.2 b hb).trans e) f0 f1 f3 f4 f5
    obtain ⟨o, e, c, d⟩ := id st'
    exact ⟨u, rfl, go_of (s := { s with heap := h' }) e c d (by decide) ⟨x, H, I1, ru, ⟨rfl, fun ys hy => by rw [I.list_inj hy hq]; exact hx⟩, st', fun b hb => (hf b hb).1⟩⟩
  done := by
    intro X hP hw hK hc i pins s σ H E I hf st hg
    subst hP hw hK
    obtain ⟨xs, hq, hx⟩ := hg
    obtain ⟨its, rv, p, hz⟩ := I.list hq
    obtain ⟨f0, f1, f2, f3, f4, f5⟩ := hf it (by simp)
    have hl := rv.length
    exact wpAny_pyNext_list_end (I.ok.hd hc) st p.isList (by simp; omega) fun h' eb => ⟨rfl, I.turned (t' := s.toks) (fun b o hb e => eb b o hb e) f0 f1 f3 f4 f5⟩
  self := fun _ _ _ _ _ st h => wpAny_pyIter_listiter st h
theorem turn_tuple {P : Program} {w : World} {K : PySem.W.Frag} {tg : Expr} (a it : Addr) : Turn P w K tg (Itt K a) [it] it (fun i h => h.IsTupleIter it a i) where
  mem := by simp
  obj := fun i h st b hb => by
    have e : b = it := by simpa using hb
    subst e
    obtain ⟨o, e, c, d⟩ := st
    exact ⟨o, e, fun v z => by rw [d] at z; cases z⟩
  keep := fun i h h' st k => st.at fun o e => k it (by simp) o e
  item := by
    intro X hP hw hK hc i pins s σ H E I hf st hg
    subst hP hw hK
    obtain ⟨xs, x, hq, hx⟩ := hg
    obtain ⟨its, rv, p, hz⟩ := I.tuple hq
    obtain ⟨u, hu, ru⟩ := rv.get hx
    obtain ⟨f0, f1, f2, f3, f4, f5⟩ := hf it (by simp)
    refine wpAny_pyNext_tuple_item st (show s.heap.IsTuple a its.toArray from p) (x := u) (by simpa using hu) fun h' st' sb => ?_
    have I1 : Inv X pins σ H { s with heap := h' } := I.turned (t' := s.toks) (fun b o hb e => (sb.2 b hb).trans e) f0 f1 f3 f4 f5
    obtain ⟨o, e, c, d⟩ := id st'
    exact ⟨u, rfl, go_of (s := { s with heap := h' }) e c d (by decide) ⟨x, H, I1, ru, ⟨rfl, fun ys hy => by rw [I.tuple_inj hy hq]; exact hx⟩, st', fun b hb => (hf b hb).1⟩⟩
  done := by
    intro X hP hw hK hc i pins s σ H E I hf st hg
    subst hP hw hK
    obtain ⟨xs, hq, hx⟩ := hg
    obtain ⟨its, rv, p, hz⟩ := I.tuple hq
    obtain ⟨f0, f1, f2, f3, f4, f5⟩ := hf it (by simp)
    have hl := rv.length
    exact wpAny_pyNext_tuple_end (I.ok.hd hc) st (show s.heap.IsTuple a its.toArray from p) (by simp; omega) fun h' eb => ⟨rfl, I.turned (t' := s.toks) (fun b o hb e => eb b o hb e) f0 f1 f3 f4 f5⟩
  self := fun _ _ _ _ _ st h => wpAny_pyIter_tupleiter st h
theorem turn_range {P : Program} {w : World} {K : PySem.W.Frag} {tg : Expr} (it : Addr) (lo : Int) (n : Nat) : Turn P w K tg (Itr lo n) [it] it (fun i h => IsRangeIter h it (lo + (i : Nat) * 1) ((n : Int) - (i : Nat)) 1) where
  mem := by simp
  obj := fun i h st b hb => by
    have e : b = it := by simpa using hb
    subst e
    exact ⟨_, st, fun v z => by
      have z' : Data.fields _ = Data.cell v := z
      cases z'⟩
  keep := fun i h h' st k => k it (by simp) _ st
  item := by
    intro X hP hw hK hc i pins s σ H E I hf st hg
    subst hP hw hK
    obtain ⟨f0, f1, f2, f3, f4, f5⟩ := hf it (by simp)
    have W := Walks.range (prog := X.prog) (w := X.w) (I.ok.hd hc) it lo 1 n
    refine W.item i s _ _ hg st fun v h' tk hv st' kk => ?_
    obtain ⟨t, rfl⟩ := hv
    have I1 : Inv X pins σ H { s with heap := h', toks := tk } := I.turned (fun b o hb e => kk b o (by simpa using hb) e) f0 f1 f3 f4 f5
    refine ⟨_, rfl, go_of (s := { s with heap := h', toks := tk }) (n := "range_iterator") st' rfl rfl (by decide) ⟨.int (lo + i), H, I1, ⟨t, ?_⟩, ⟨rfl, rfl⟩, st', fun b hb => (hf b hb).1⟩⟩
    rw [Int.mul_one]
  done := by
    intro X hP hw hK hc i pins s σ H E I hf st hg
    subst hP hw hK
    obtain ⟨f0, f1, f2, f3, f4, f5⟩ := hf it (by simp)
    exact wpAny_pyNext_range_end (I.ok.hd hc) st (by have : n ≤ i := hg; omega) fun h' eb => ⟨rfl, I.turned (t' := s.toks) (fun b o hb e => eb b o hb e) f0 f1 f3 f4 f5⟩
  self := fun _ _ _ _ _ st h => wpAny_pyIter_rangeiter st h
end L2
namespace L2
open PySem PySem.Spec PyProof.Rows
section
variable {X : Cx} {tg : Expr}
noncomputable def iList (K : PySem.W.Frag) (tl : TE) : TI := fun σ H R => tl σ H fun x H1 => ∃ a, x = .ref a ∧ (∃ xs, SqL K H1 a xs) ∧ R (Itl K a) H1
noncomputable def iTup (K : PySem.W.Frag) (tl : TE) : TI := fun σ H R => tl σ H fun x H1 => ∃ a, x = .ref a ∧ (∃ xs, SqT K H1 a xs) ∧ R (Itt K a) H1
theorem pi_list {l : Expr} {tl : TE} (hl : PE X l tl) : PI X tg l (iList X.K tl) := by
  intro pins s σ H R I h
  refine thn (hl pins s σ H _ I h) fun v s1 ⟨x, H1, I1, r1, q1⟩ => ?_
  obtain ⟨a, e, ⟨xs, hq⟩, q⟩ := q1
  subst e
  cases r1
  obtain ⟨its, rv, p, hz⟩ := I1.list hq
  refine wpAny_pyIter_list p.isList ?_
  refine ⟨s1.heap.objs.size, [s1.heap.objs.size], _, _, H1, rfl, I1.kept (t' := s1.toks) fun b o e => Heap.get?_push_of_some _ e, turn_list a _, ⟨_, Heap.get?_push_size _ rfl, rfl, rfl⟩, fun b hb => ?_, q⟩
  have e : b = s1.heap.objs.size := by simpa using hb
  subst e
  exact I1.fpOk (Nat.le_refl _) (I1.hok.fresh (Nat.le_refl _))
theorem pi_tup {l : Expr} {tl : TE} (hl : PE X l tl) : PI X tg l (iTup X.K tl) := by
  intro pins s σ H R I h
  refine thn (hl pins s σ H _ I h) fun v s1 ⟨x, H1, I1, r1, q1⟩ => ?_
  obtain ⟨a, e, ⟨xs, hq⟩, q⟩ := q1
  subst e
  cases r1
  obtain ⟨its, rv, p, hz⟩ := I1.tuple hq
  refine wpAny_pyIter_tuple (show s1.heap.IsTuple a its.toArray from p) ?_
  refine ⟨s1.heap.objs.size, [s1.heap.objs.size], _, _, H1, rfl, I1.kept (t' := s1.toks) fun b o e => Heap.get?_push_of_some _ e, turn_tuple a _, ⟨_, Heap.get?_push_size _ rfl, rfl, rfl⟩, fun b hb => ?_, q⟩
  have e : b = s1.heap.objs.size := by simpa using hb
  subst e
  exact I1.fpOk (Nat.le_refl _) (I1.hok.fresh (Nat.le_refl _))
theorem range_it {pins : List (Addr × Obj)} {σ : St} {H : Hp} {s : Shared} {R : It → Hp → Prop} {E : Value → Shared → Prop} {lo hi : Int} {t u v : Tok} {tk : Nat} (I : Inv X pins σ H s) (h1 : -(2 ^ 62) ≤ lo) (h2 : lo < 2 ^ 62) (h3 : -(2 ^ 62) ≤ hi) (h4 : hi < 2 ^ 62)
    (q : R (Itr lo (hi - lo).toNat) H) : wpAny (model X.prog X.w) X.A (pyIter (.ref s.heap.objs.size)) (PIE X pins σ tg R) E { s with heap := s.heap.push { cls := .type "range", data := .fields #[.int lo t, .int hi u, .int 1 v] }, toks := tk } := by
  refine wpAny_pyIter_range (IsRange.new ..) (small_one h1 h2 h3 h4) ?_
  have I1 : Inv X pins σ H { s with heap := s.heap.push { cls := .type "range", data := .fields #[.int lo t, .int hi u, .int 1 v] }, toks := tk } := I.kept fun b o e => Heap.get?_push_of_some _ e
  refine ⟨(s.heap.push { cls := .type "range", data := .fields #[.int lo t, .int hi u, .int 1 v] }).objs.size, [(s.heap.push { cls := .type "range", data := .fields #[.int lo t, .int hi u, .int 1 v] }).objs.size], _, _, H, rfl,
    I1.kept (t' := tk) fun b o e => Heap.get?_push_of_some _ e, turn_range _ lo (hi - lo).toNat, ?_, fun b hb => ?_, q⟩
  · have e1 : lo + ((0 : Nat) : Int) * 1 = lo := by simp
    have e2 : (((hi - lo).toNat : Nat) : Int) - ((0 : Nat) : Int) = Builtin.Range.rangeSize lo hi 1 := by rw [rangeSize_one]; split <;> omega
    show IsRangeIter _ _ (lo + ((0 : Nat) : Int) * 1) ((((hi - lo).toNat : Nat) : Int) - ((0 : Nat) : Int)) 1
    rw [e1, e2]
    exact Heap.get?_push_size _ rfl
  · have e : b = (s.heap.push { cls := .type "range", data := .fields #[.int lo t, .int hi u, .int 1 v] }).objs.size := by simpa using hb
    subst e
    exact I1.fpOk (Nat.le_refl _) (I1.hok.fresh (Nat.le_refl _))
noncomputable def iRng1 (ta : TA) : TI := fun σ H R => ta σ H fun vs H1 => ∃ j : Int, vs = [.int j] ∧ -(2 ^ 62) ≤ j ∧ j < 2 ^ 62 ∧ R (Itr 0 j.toNat) H1
noncomputable def iRng2 (ta : TA) : TI := fun σ H R => ta σ H fun vs H1 => ∃ i j : Int, vs = [.int i, .int j] ∧ (-(2 ^ 62) ≤ i ∧ i < 2 ^ 62 ∧ -(2 ^ 62) ≤ j ∧ j < 2 ^ 62) ∧ R (Itr i (j - i).toNat) H1
theorem pi_range1 {a : Expr} {ta : TA} {p pos : Pos} (hg : Gl X "range") (hm : X.mg "range" = none) (ha : PA X [a] ta) (hs : starEach [a] X.env = [(false, eval a X.env)] := by rfl) : PI X tg (.Call (.Name "range" p) [a] [] pos) (iRng1 ta) := by
  intro pins s σ H R I h
  refine Call_ (ld_blt I hg hm boot_range (PyProof.Rows.callWith_type1 (thn (ha pos pins s σ H _ I h) fun us s1 ⟨vs, H1, I1, r1, q1⟩ => ?_) hs rfl))
  obtain ⟨j, e, q1, q2, q⟩ := q1
  subst e
  cases r1 with
  | cons r rr =>
    cases rr
    obtain ⟨t, rfl⟩ := r
    exact call_range_1 (range_it I1 (by omega) (by omega) q1 q2 (by simpa using q))
theorem pi_range2 {a b : Expr} {ta : TA} {p pos : Pos} (hg : Gl X "range") (hm : X.mg "range" = none) (ha : PA X [a, b] ta) (hs : starEach [a, b] X.env = [(false, eval a X.env), (false, eval b X.env)] := by rfl) (hs2 : starEach [b] X.env = [(false, eval b X.env)] := by rfl) :
    PI X tg (.Call (.Name "range" p) [a, b] [] pos) (iRng2 ta) := by
  intro pins s σ H R I h
  refine Call_ (ld_blt I hg hm boot_range (PyProof.Rows.callWith_type1 (thn (ha pos pins s σ H _ I h) fun us s1 ⟨vs, H1, I1, r1, q1⟩ => ?_) (by rw [hs, hs2]) (by rw [hs2]; rfl)))
  obtain ⟨i, j, e, ⟨q1, q2, q3, q4⟩, q⟩ := q1
  subst e
  cases r1 with
  | cons r rr =>
    cases rr with
    | cons r' rr =>
      cases rr
      obtain ⟨t, rfl⟩ := r
      obtain ⟨t', rfl⟩ := r'
      exact call_range_2 (range_it I1 q1 q2 q3 q4 q)
noncomputable def tFor (wi : TI) (g : TG) (tb : TS) : TS := fun D σ H => wi σ H fun J H1 => ∃ W : Nat → Nat → St → Hp → Prop, (∃ m, W 0 m σ H1) ∧ ∀ i m σ H, W i m σ H →
  (J.stop i H ∧ D.nx σ H) ∨ (J.go i H ∧ ∃ N : St → Hp → Prop, (∀ σ' H', N σ' H' → ∃ m', m' < m ∧ W (i + 1) m' σ' H') ∧ ∀ x H', J.yld i H x H' → g x σ H' fun σ2 H2 => tb { D with nx := N, ct := N, bk := D.nx } σ2 H2)
noncomputable def pinsAt (fp : List Addr) (h : Heap) : List (Addr × Obj) := fp.filterMap fun b => (h.get? b).map fun o => (b, o)
theorem mem_pinsAt {fp : List Addr} {h : Heap} {b : Addr} {o : Obj} (hb : b ∈ fp) (e : h.get? b = some o) : (b, o) ∈ pinsAt fp h := List.mem_filterMap.mpr ⟨b, hb, by rw [e]; rfl⟩
theorem of_pinsAt {fp : List Addr} {h : Heap} {p : Addr × Obj} (hp : p ∈ pinsAt fp h) : p.1 ∈ fp ∧ h.get? p.1 = some p.2 := by
  obtain ⟨b, hb, e⟩ := List.mem_filterMap.mp hp
  cases q : h.get? b with
  | none => rw [q] at e; cases e
  | some o =>
    rw [q] at e
    have e' : (b, o) = p := Option.some.inj e
    subst e'
    exact ⟨hb, q⟩
theorem Inv.pinned {pins : List (Addr × Obj)} {σ : St} {H : Hp} {s : Shared} {fp : List Addr} (I : Inv X pins σ H s) (hf : ∀ b ∈ fp, FpOk X pins H b) (ho : ∀ b ∈ fp, ∃ o, s.heap.get? b = some o ∧ ∀ v, o.data ≠ .cell v) : Inv X (pins ++ pinsAt fp s.heap) σ H s :=
  I.pins_of fun p hp => (List.mem_append.mp hp).elim (fun z => I.pin p (List.mem_append_right _ z)) fun z => by
    obtain ⟨hb, e⟩ := of_pinsAt z
    obtain ⟨f0, f1, f2, _⟩ := hf p.1 hb
    obtain ⟨o, e', d⟩ := ho p.1 hb
    rw [e] at e'; cases e'
    exact ⟨e, f0, f1, f2, d⟩
theorem Inv.unpinned {pins pl : List (Addr × Obj)} {σ : St} {H : Hp} {s : Shared} (I : Inv X (pins ++ pl) σ H s) : Inv X pins σ H s := I.pins_of fun p hp => I.pin p (List.mem_append_right _ (List.mem_append_left _ hp))
theorem ps_for {iter : Expr} {body : List Stmt} {wi : TI} {g : TG} {tb : TS} {pos : Pos} (hp : PassesOwn (model X.prog X.w) X.A X.env X.xe) (hc : X.calm = true) (hi : PI X tg iter wi) (hg : PG X tg g) (hb : PSs X body tb)
    (hs : ∀ x, foldedSetIterable iter X.env x = pure x := by intro _; rfl) : PS X (.For tg iter body [] pos) (tFor wi g tb) := by
  intro pins s σ H D I h
  refine wpAny_For (thn (hi pins s σ H _ I h) fun v s1 h1 => thn h1 fun itv s2 h2 => ?_) hs
  obtain ⟨it, fp, tn, J, H2, e, I2, T, st2, f2, W, ⟨m0, w0⟩, turn⟩ := h2
  subst e
  -- what stays true of the iterator's objects through the loop
  have stat : ∀ {H' : Hp}, (∀ b ∈ fp, H' b = none) → ∀ b ∈ fp, FpOk X pins H' b := fun hn b hb => ⟨hn b hb, (f2 b hb).2⟩
  refine codeAny_forLoop_any (fun n s' => ∃ i σ' H', Inv X pins σ' H' s' ∧ tn i s'.heap ∧ (∀ b ∈ fp, H' b = none) ∧ W i n σ' H') ?_ m0 ⟨0, σ, H2, I2, st2, fun b hb => (f2 b hb).1, w0⟩
  rintro n s3 ⟨i, σ3, H3, I3, st3, fr3, w3⟩
  rcases turn i n σ3 H3 w3 with ⟨stop, qn⟩ | ⟨go, N, hN, step⟩
  · refine wpAny_passesOwn hp (thn (T.done X rfl rfl rfl hc i pins s3 σ3 H3 X.xe I3 (stat fr3) st3 stop) fun r s4 ⟨hr, I4⟩ => ?_)
    subst hr
    exact wpAny_execs_nil ⟨σ3, H3, I4, qn⟩
  · refine wpAny_passesOwn hp (thn (T.item X rfl rfl rfl hc i pins s3 σ3 H3 X.xe I3 (stat fr3) st3 go) fun r s4 ⟨u, hr, h4⟩ => ?_)
    subst hr
    refine wpAny_passesOwn hp (thn h4 fun _ s5 ⟨x, H5, I5, r5, y5, st5, fr5⟩ => ?_)
    have I5' := I5.pinned (stat fr5) (T.obj _ _ st5)
    refine wpAny_passesOwn hp (thn (hg _ s5 σ3 H5 x u _ I5' r5 (step x H5 y5)) fun _ s6 ⟨σ6, H6, I6, q6⟩ => ?_)
    refine wpAny_passesOwn hp (thn (hb _ s6 σ6 H6 _ I6 q6) fun f s7 q7 => ?_)
    have again : ∀ {σ7 : St} {H7 : Hp}, Inv X (pins ++ pinsAt fp s5.heap) σ7 H7 s7 → N σ7 H7 → ∃ m, m < n ∧ ∃ i σ' H', Inv X pins σ' H' s7 ∧ tn i s7.heap ∧ (∀ b ∈ fp, H' b = none) ∧ W i m σ' H' := fun {σ7 H7} I7 n7 => by
      obtain ⟨m', hm, w7⟩ := hN σ7 H7 n7
      refine ⟨m', hm, i + 1, σ7, H7, I7.unpinned, T.keep _ _ _ st5 fun b hb o e => (I7.pin (b, o) (List.mem_append_right _ (List.mem_append_right _ (mem_pinsAt hb e)))).1, fun b hb => ?_, w7⟩
      obtain ⟨o, e, d⟩ := T.obj _ _ st5 b hb
      exact (I7.pin (b, o) (List.mem_append_right _ (List.mem_append_right _ (mem_pinsAt hb e)))).2.1
    cases f with
    | next => obtain ⟨σ7, H7, I7, n7⟩ := q7; exact again I7 n7
    | cont => obtain ⟨σ7, H7, I7, n7⟩ := q7; exact again I7 n7
    | brk => obtain ⟨σ7, H7, I7, q7⟩ := q7; exact ⟨σ7, H7, I7.unpinned, q7⟩
    | ret v => obtain ⟨x7, σ7, H7, I7, r7, q7⟩ := q7; exact ⟨x7, σ7, H7, I7.unpinned, r7, q7⟩
end
theorem for_list {K : PySem.W.Frag} {a : Addr} {xs : List V} {g : TG} {tb : TS} {D : Ends} {σ : St} {H : Hp} (Pv : Nat → St → Hp → Prop) (h0 : Pv 0 σ H) (hl : ∀ i σ H, i ≤ xs.length → Pv i σ H → SqL K H a xs)
    (hs : ∀ i x σ H, xs[i]? = some x → Pv i σ H → g x σ H fun σ2 H2 => tb { D with nx := Pv (i + 1), ct := Pv (i + 1), bk := D.nx } σ2 H2) (hd : ∀ σ H, Pv xs.length σ H → D.nx σ H) :
    ∃ W : Nat → Nat → St → Hp → Prop, (∃ m, W 0 m σ H) ∧ ∀ i m σ H, W i m σ H →
      ((Itl K a).stop i H ∧ D.nx σ H) ∨ ((Itl K a).go i H ∧ ∃ N : St → Hp → Prop, (∀ σ' H', N σ' H' → ∃ m', m' < m ∧ W (i + 1) m' σ' H') ∧ ∀ x H', (Itl K a).yld i H x H' → g x σ H' fun σ2 H2 => tb { D with nx := N, ct := N, bk := D.nx } σ2 H2) := by
  refine ⟨fun i m σ H => m = xs.length - i ∧ i ≤ xs.length ∧ Pv i σ H, ⟨xs.length, by simp, Nat.zero_le _, h0⟩, ?_⟩
  rintro i m σ H ⟨rfl, hi, p⟩
  have q := hl i σ H hi p
  by_cases hlt : i < xs.length
  · refine .inr ⟨⟨xs, xs[i], q, by simp [hlt]⟩, Pv (i + 1), fun σ' H' p' => ⟨xs.length - (i + 1), by omega, rfl, hlt, p'⟩, fun x H' y => ?_⟩
    obtain ⟨e, y⟩ := y
    subst e
    exact hs i x σ _ (y xs q) p
  · have e : i = xs.length := by omega
    subst e
    exact .inl ⟨⟨xs, q, Nat.le_refl _⟩, hd σ H p⟩
theorem for_tup {K : PySem.W.Frag} {a : Addr} {xs : List V} {g : TG} {tb : TS} {D : Ends} {σ : St} {H : Hp} (Pv : Nat → St → Hp → Prop) (h0 : Pv 0 σ H) (hl : ∀ i σ H, i ≤ xs.length → Pv i σ H → SqT K H a xs)
    (hs : ∀ i x σ H, xs[i]? = some x → Pv i σ H → g x σ H fun σ2 H2 => tb { D with nx := Pv (i + 1), ct := Pv (i + 1), bk := D.nx } σ2 H2) (hd : ∀ σ H, Pv xs.length σ H → D.nx σ H) :
    ∃ W : Nat → Nat → St → Hp → Prop, (∃ m, W 0 m σ H) ∧ ∀ i m σ H, W i m σ H →
      ((Itt K a).stop i H ∧ D.nx σ H) ∨ ((Itt K a).go i H ∧ ∃ N : St → Hp → Prop, (∀ σ' H', N σ' H' → ∃ m', m' < m ∧ W (i + 1) m' σ' H') ∧ ∀ x H', (Itt K a).yld i H x H' → g x σ H' fun σ2 H2 => tb { D with nx := N, ct := N, bk := D.nx } σ2 H2) := by
  refine ⟨fun i m σ H => m = xs.length - i ∧ i ≤ xs.length ∧ Pv i σ H, ⟨xs.length, by simp, Nat.zero_le _, h0⟩, ?_⟩
  rintro i m σ H ⟨rfl, hi, p⟩
  have q := hl i σ H hi p
  by_cases hlt : i < xs.length
  · refine .inr ⟨⟨xs, xs[i], q, by simp [hlt]⟩, Pv (i + 1), fun σ' H' p' => ⟨xs.length - (i + 1), by omega, rfl, hlt, p'⟩, fun x H' y => ?_⟩
    obtain ⟨e, y⟩ := y
    subst e
    exact hs i x σ _ (y xs q) p
  · have e : i = xs.length := by omega
    subst e
    exact .inl ⟨⟨xs, q, Nat.le_refl _⟩, hd σ H p⟩
theorem for_range {lo : Int} {n : Nat} {g : TG} {tb : TS} {D : Ends} {σ : St} {H : Hp} (Pv : Nat → St → Hp → Prop) (h0 : Pv 0 σ H)
    (hs : ∀ i σ H, i < n → Pv i σ H → g (.int (lo + i)) σ H fun σ2 H2 => tb { D with nx := Pv (i + 1), ct := Pv (i + 1), bk := D.nx } σ2 H2) (hd : ∀ σ H, Pv n σ H → D.nx σ H) :
    ∃ W : Nat → Nat → St → Hp → Prop, (∃ m, W 0 m σ H) ∧ ∀ i m σ H, W i m σ H →
      ((Itr lo n).stop i H ∧ D.nx σ H) ∨ ((Itr lo n).go i H ∧ ∃ N : St → Hp → Prop, (∀ σ' H', N σ' H' → ∃ m', m' < m ∧ W (i + 1) m' σ' H') ∧ ∀ x H', (Itr lo n).yld i H x H' → g x σ H' fun σ2 H2 => tb { D with nx := N, ct := N, bk := D.nx } σ2 H2) := by
  refine ⟨fun i m σ H => m = n - i ∧ i ≤ n ∧ Pv i σ H, ⟨n, by simp, Nat.zero_le _, h0⟩, ?_⟩
  rintro i m σ H ⟨rfl, hi, p⟩
  by_cases hlt : i < n
  · refine .inr ⟨hlt, Pv (i + 1), fun σ' H' p' => ⟨n - (i + 1), by omega, rfl, hlt, p'⟩, fun x H' y => ?_⟩
    obtain ⟨e, y⟩ := y
    subst e y
    exact hs i σ _ hlt p
  · have e : i = n := by omega
    subst e
    exact .inl ⟨Nat.le_refl _, hd σ H p⟩
end L2
namespace L2
open PySem PySem.Spec PyProof.Rows
noncomputable abbrev R2 := V → V → Hp → VK → Prop
noncomputable def OpR (X : Cx) (f : Value → Value → Sem Value) (r : R2) : Prop :=
  ∀ (pins : List (Addr × Obj)) (s : Shared) (σ : St) (H : Hp) (x y : V) (v u : Value) (Q : VK), Inv X pins σ H s → RelV x v → RelV y u → r x y H Q →
    wpAny (model X.prog X.w) X.A (f v u) (EP X pins σ Q) X.xe s
noncomputable def UnR (X : Cx) (f : Value → Sem Value) (r : V → Hp → VK → Prop) : Prop :=
  ∀ (pins : List (Addr × Obj)) (s : Shared) (σ : St) (H : Hp) (x : V) (v : Value) (Q : VK), Inv X pins σ H s → RelV x v → r x H Q →
    wpAny (model X.prog X.w) X.A (f v) (EP X pins σ Q) X.xe s
noncomputable def CallR (X : Cx) (f : Value) (r : List V → Hp → VK → Prop) : Prop :=
  ∀ (pins : List (Addr × Obj)) (s : Shared) (σ : St) (H : Hp) (xs : List V) (us : List Value) (Q : VK), Inv X pins σ H s → Vals xs us → r xs H Q →
    wpAny (model X.prog X.w) X.A (call f us) (EP X pins σ Q) X.xe s
noncomputable def tOp (r : R2) (ta tb : TE) : TE := fun σ H Q => ta σ H fun x H1 => tb σ H1 fun y H2 => r x y H2 Q
noncomputable def tUn (r : V → Hp → VK → Prop) (ta : TE) : TE := fun σ H Q => ta σ H fun x H1 => r x H1 Q
noncomputable def rI (C : Int → Int → Prop) (g : Int → Int → V) : R2 := fun x y H Q => ∃ i j, x = .int i ∧ y = .int j ∧ C i j ∧ Q (g i j) H
noncomputable def rI0 (g : Int → Int → V) : R2 := fun x y H Q => ∃ i j, x = .int i ∧ y = .int j ∧ Q (g i j) H
noncomputable def rU (g : Int → V) : V → Hp → VK → Prop := fun x H Q => ∃ i, x = .int i ∧ Q (g i) H
section
variable {X : Cx} {a b c : Expr} {ta tb tc : TE} {pos : Pos}
theorem binT (ha : PE X a ta) (hb : PE X b tb) {pins : List (Addr × Obj)} {s : Shared} {σ : St} {H : Hp} {R : V → V → Hp → Prop} (I : Inv X pins σ H s)
    (h : ta σ H fun x H1 => tb σ H1 fun y H2 => R x y H2) {Q : Value → Shared → Prop} {f : Value → Value → Sem Value}
    (hf : ∀ v u s2 x y H2, Inv X pins σ H2 s2 → RelV x v → RelV y u → R x y H2 → wpAny (model X.prog X.w) X.A (f v u) Q X.xe s2) :
    wpAny (model X.prog X.w) X.A (eval a X.env) (fun v s₁ => wpAny (model X.prog X.w) X.A (eval b X.env) (fun u s₂ => wpAny (model X.prog X.w) X.A (f v u) Q X.xe s₂) X.xe s₁) X.xe s := by
  refine thn (ha pins s σ H _ I h) fun v s1 ⟨x, H1, I1, r1, q1⟩ => ?_
  refine thn (hb pins s1 σ H1 _ I1 q1) fun u s2 ⟨y, H2, I2, r2, q2⟩ => ?_
  exact hf v u s2 x y H2 I2 r1 r2 q2
theorem pe_op {op : Operator} {r : R2} (ho : OpR X (binaryOp op) r) (ha : PE X a ta) (hb : PE X b tb) : PE X (.BinOp a op b pos) (tOp r ta tb) := by
  intro pins s σ H Q I h
  exact wpAny_BinOp (binT ha hb I h fun v u s2 x y H2 I2 rx ry q => ho pins s2 σ H2 x y v u Q I2 rx ry q)
theorem pe_un {op : UnaryOp} {r : V → Hp → VK → Prop} (ho : UnR X (unaryOp op) r) (ha : PE X a ta) : PE X (.UnaryOp op a pos) (tUn r ta) := by
  intro pins s σ H Q I h
  exact UnaryOp_ (thn (ha pins s σ H _ I h) fun v s1 ⟨x, H1, I1, r1, q1⟩ => ho pins s1 σ H1 x v Q I1 r1 q1)
theorem opI {f : Value → Value → Sem Value} {C : Int → Int → Prop} {g : Int → Int → Int}
    (rule : ∀ (i j : Int) (t u : Tok) (s : Shared) (Q : Value → Shared → Prop) (E : Value → Shared → Prop), C i j → Q (.int (g i j) s.toks) { s with toks := s.toks + 1 } → wpAny (model X.prog X.w) X.A (f (.int i t) (.int j u)) Q E s) :
    OpR X f (rI C fun i j => .int (g i j)) := by
  intro pins s σ H x y v u Q I rx ry h
  obtain ⟨i, j, rfl, rfl, hc, q⟩ := h
  obtain ⟨t, rfl⟩ := rx
  obtain ⟨t', rfl⟩ := ry
  exact rule i j t t' s _ _ hc ⟨.int (g i j), H, I.tok _, ⟨_, rfl⟩, q⟩
theorem opI0 {f : Value → Value → Sem Value} {g : Int → Int → Int}
    (rule : ∀ (i j : Int) (t u : Tok) (s : Shared) (Q : Value → Shared → Prop) (E : Value → Shared → Prop), Q (.int (g i j) s.toks) { s with toks := s.toks + 1 } → wpAny (model X.prog X.w) X.A (f (.int i t) (.int j u)) Q E s) :
    OpR X f (rI0 fun i j => .int (g i j)) := by
  intro pins s σ H x y v u Q I rx ry h
  obtain ⟨i, j, rfl, rfl, q⟩ := h
  obtain ⟨t, rfl⟩ := rx
  obtain ⟨t', rfl⟩ := ry
  exact rule i j t t' s _ _ ⟨.int (g i j), H, I.tok _, ⟨_, rfl⟩, q⟩
theorem opB0 {f : Value → Value → Sem Value} {g : Int → Int → Bool}
    (rule : ∀ (i j : Int) (t u : Tok) (s : Shared) (Q : Value → Shared → Prop) (E : Value → Shared → Prop), Q (.bool (g i j)) s → wpAny (model X.prog X.w) X.A (f (.int i t) (.int j u)) Q E s) :
    OpR X f (rI0 fun i j => .bl (g i j)) := by
  intro pins s σ H x y v u Q I rx ry h
  obtain ⟨i, j, rfl, rfl, q⟩ := h
  obtain ⟨t, rfl⟩ := rx
  obtain ⟨t', rfl⟩ := ry
  exact rule i j t t' s _ _ ⟨.bl (g i j), H, I, rfl, q⟩
noncomputable def CPow (i j : Int) : Prop := 0 ≤ j ∧ j ≤ 1000000 ∧ i.natAbs < 2 ^ 64
noncomputable def CMul (i j : Int) : Prop := (-(2 ^ 64) < i ∧ i < 2 ^ 64) ∨ (-(2 ^ 64) < j ∧ j < 2 ^ 64)
theorem CMul.ok {i j : Int} (h : CMul i j) : IntMulOk i j := by
  rcases h with ⟨h1, h2⟩ | ⟨h1, h2⟩
  · exact .of_left (intBits_le_64 h1 h2)
  · exact .of_right (intBits_le_64 h1 h2)
theorem op_add : OpR X (binaryOp .Add) (rI0 fun i j => .int (i + j)) := opI0 fun _ _ _ _ _ _ _ q => add_int q
theorem op_sub : OpR X (binaryOp .Sub) (rI0 fun i j => .int (i - j)) := opI0 fun _ _ _ _ _ _ _ q => sub_int q
theorem op_mul : OpR X (binaryOp .Mult) (rI CMul fun i j => .int (i * j)) := opI fun _ _ _ _ _ _ _ hc q => mul_int q hc.ok
theorem op_mod : OpR X (binaryOp .Mod) (rI (fun _ j => 0 < j) fun i j => .int (i % j)) := opI fun i j _ _ _ _ _ hc q => by
  have h1 : (0 : Int) < j := hc
  exact mod_int' (by omega) (by rw [Int.fmod_eq_emod_of_nonneg i (by omega)]; exact q)
theorem op_pow : OpR X (binaryOp .Pow) (rI CPow fun i j => .int (i ^ j.toNat)) := opI fun _ _ _ _ _ _ _ hc q => pow_int_small hc.1 hc.2.1 hc.2.2 q
theorem unI {f : Value → Sem Value} {g : Int → Int}
    (rule : ∀ (i : Int) (t : Tok) (s : Shared) (Q : Value → Shared → Prop) (E : Value → Shared → Prop), Q (.int (g i) s.toks) { s with toks := s.toks + 1 } → wpAny (model X.prog X.w) X.A (f (.int i t)) Q E s) :
    UnR X f (rU fun i => .int (g i)) := by
  intro pins s σ H x v Q I rx h
  obtain ⟨i, rfl, q⟩ := h
  obtain ⟨t, rfl⟩ := rx
  exact rule i t s _ _ ⟨.int (g i), H, I.tok _, ⟨_, rfl⟩, q⟩
theorem un_neg : UnR X (unaryOp .USub) (rU fun i => .int (-i)) := unI fun _ _ _ _ _ q => neg_int q
end
noncomputable def scal : V → V → Bool
  | .non, .non => true | .non, .int _ => true | .int _, .non => true | .non, .bl _ => true | .bl _, .non => true | .non, .str _ => true | .str _, .non => true
  | .int _, .int _ => true | .bl _, .bl _ => true | .str _, .str _ => true | .byt _, .byt _ => true
  | .int _, .str _ => true | .str _, .int _ => true | .bl _, .str _ => true | .str _, .bl _ => true
  | _, _ => false
noncomputable def rEq : R2 := fun x y H Q => scal x y = true ∧ Q (.bl (decide (x = y))) H
noncomputable def rNe : R2 := fun x y H Q => scal x y = true ∧ Q (.bl (!decide (x = y))) H
theorem dec_int {i j : Int} : decide (V.int i = V.int j) = (i == j) := by
  rw [Bool.eq_iff_iff]
  simp
theorem dec_bl {i j : Bool} : decide (V.bl i = V.bl j) = (i == j) := by
  rw [Bool.eq_iff_iff]
  simp
theorem dec_str {i j : Str} : decide (V.str i = V.str j) = (i == j) := by
  rw [Bool.eq_iff_iff]
  simp
theorem dec_byt {i j : Array UInt8} : decide (V.byt i = V.byt j) = (i.toList == j.toList) := by
  rw [Bool.eq_iff_iff]
  cases i
  cases j
  simp
section
variable {X : Cx} {a b c : Expr} {ta tb tc : TE} {pos : Pos}
theorem fin_bl {pins : List (Addr × Obj)} {σ : St} {H : Hp} {s : Shared} {Q : VK} {k k' : Bool} (I : Inv X pins σ H s) (q : Q (.bl k) H) (e : k = k') : EP X pins σ Q (.bool k') s := by
  subst e
  exact ⟨.bl k, H, I, rfl, q⟩
theorem op_eq : OpR X (compareOp .Eq) rEq := by
  intro pins s σ H x y v u Q I rx ry h
  obtain ⟨hs, q⟩ := h
  cases x with
  | non =>
    cases rx
    cases y with
    | non => cases ry; exact PySem.EqNone.eq_none_none (fin_bl I q (by simp))
    | bl j => cases ry; exact PySem.EqNone.eq_none_bool (fin_bl I q (by simp))
    | int j => obtain ⟨t', rfl⟩ := ry; exact PySem.EqNone.eq_none_int (fin_bl I q (by simp))
    | str j => obtain ⟨t', rfl⟩ := ry; exact PySem.EqNone.eq_none_str (fin_bl I q (by simp))
    | _ => exact absurd (show false = true from hs) Bool.false_ne_true
  | bl i =>
    cases rx
    cases y with
    | non => cases ry; exact PySem.EqNone.eq_bool_none (fin_bl I q (by simp))
    | bl j => cases ry; exact eq_bool (fin_bl I q dec_bl)
    | str j => obtain ⟨t', rfl⟩ := ry; exact PySem.EqMixed.eq_bool_str (fin_bl I q (by simp))
    | _ => exact absurd (show false = true from hs) Bool.false_ne_true
  | int i =>
    obtain ⟨t, rfl⟩ := rx
    cases y with
    | non => cases ry; exact PySem.EqNone.eq_int_none (fin_bl I q (by simp))
    | int j => obtain ⟨t', rfl⟩ := ry; exact eq_int (fin_bl I q dec_int)
    | str j => obtain ⟨t', rfl⟩ := ry; exact PySem.EqMixed.eq_int_str (fin_bl I q (by simp))
    | _ => exact absurd (show false = true from hs) Bool.false_ne_true
  | str i =>
    obtain ⟨t, rfl⟩ := rx
    cases y with
    | non => cases ry; exact PySem.EqNone.eq_str_none (fin_bl I q (by simp))
    | bl j => cases ry; exact PySem.EqMixed.eq_str_bool (fin_bl I q (by simp))
    | int j => obtain ⟨t', rfl⟩ := ry; exact PySem.EqMixed.eq_str_int (fin_bl I q (by simp))
    | str j => obtain ⟨t', rfl⟩ := ry; exact eq_str (fin_bl I q dec_str)
    | _ => exact absurd (show false = true from hs) Bool.false_ne_true
  | byt i =>
    obtain ⟨t, rfl⟩ := rx
    cases y with
    | byt j => obtain ⟨t', rfl⟩ := ry; exact PySem.W.eq_bytes (fin_bl I q dec_byt)
    | _ => exact absurd (show false = true from hs) Bool.false_ne_true
  | _ => cases y <;> exact absurd (show false = true from hs) Bool.false_ne_true
theorem op_ne : OpR X (compareOp .NotEq) rNe := by
  intro pins s σ H x y v u Q I rx ry h
  obtain ⟨hs, q⟩ := h
  cases x with
  | non =>
    cases rx
    cases y with
    | non => cases ry; exact PySem.EqNone.ne_none_none (fin_bl I q (by simp))
    | bl j => cases ry; exact PySem.EqNone.ne_none_bool (fin_bl I q (by simp))
    | int j => obtain ⟨t', rfl⟩ := ry; exact PySem.EqNone.ne_none_int (fin_bl I q (by simp))
    | str j => obtain ⟨t', rfl⟩ := ry; exact PySem.EqNone.ne_none_str (fin_bl I q (by simp))
    | _ => exact absurd (show false = true from hs) Bool.false_ne_true
  | bl i =>
    cases rx
    cases y with
    | non => cases ry; exact PySem.EqNone.ne_bool_none (fin_bl I q (by simp))
    | bl j => cases ry; exact ne_bool (fin_bl I q (congrArg not dec_bl))
    | str j => obtain ⟨t', rfl⟩ := ry; exact PySem.EqMixed.ne_bool_str (fin_bl I q (by simp))
    | _ => exact absurd (show false = true from hs) Bool.false_ne_true
  | int i =>
    obtain ⟨t, rfl⟩ := rx
    cases y with
    | non => cases ry; exact PySem.EqNone.ne_int_none (fin_bl I q (by simp))
    | int j => obtain ⟨t', rfl⟩ := ry; exact ne_int (fin_bl I q (congrArg not dec_int))
    | str j => obtain ⟨t', rfl⟩ := ry; exact PySem.EqMixed.ne_int_str (fin_bl I q (by simp))
    | _ => exact absurd (show false = true from hs) Bool.false_ne_true
  | str i =>
    obtain ⟨t, rfl⟩ := rx
    cases y with
    | non => cases ry; exact PySem.EqNone.ne_str_none (fin_bl I q (by simp))
    | bl j => cases ry; exact PySem.EqMixed.ne_str_bool (fin_bl I q (by simp))
    | int j => obtain ⟨t', rfl⟩ := ry; exact PySem.EqMixed.ne_str_int (fin_bl I q (by simp))
    | str j => obtain ⟨t', rfl⟩ := ry; exact ne_str (fin_bl I q (congrArg not dec_str))
    | _ => exact absurd (show false = true from hs) Bool.false_ne_true
  | byt i =>
    obtain ⟨t, rfl⟩ := rx
    cases y with
    | byt j => obtain ⟨t', rfl⟩ := ry; exact PySem.W.ne_bytes (fin_bl I q (congrArg not dec_byt))
    | _ => exact absurd (show false = true from hs) Bool.false_ne_true
  | _ => cases y <;> exact absurd (show false = true from hs) Bool.false_ne_true
theorem op_lt : OpR X (compareOp .Lt) (rI0 fun i j => .bl (decide (i < j))) := opB0 fun _ _ _ _ _ _ _ q => lt_int q
theorem op_le : OpR X (compareOp .LtE) (rI0 fun i j => .bl (decide (i ≤ j))) := opB0 fun _ _ _ _ _ _ _ q => le_int q
theorem op_gt : OpR X (compareOp .Gt) (rI0 fun i j => .bl (decide (j < i))) := opB0 fun _ _ _ _ _ _ _ q => gt_int q
theorem op_ge : OpR X (compareOp .GtE) (rI0 fun i j => .bl (decide (j ≤ i))) := opB0 fun _ _ _ _ _ _ _ q => ge_int q
theorem nomark (b : Expr) {op : CmpOp} (h : op ≠ .In := by decide) (h2 : op ≠ .NotIn := by decide) : behindInMarks op b = false := by
  have e1 : (op == CmpOp.In) = false := by cases op <;> first | rfl | exact absurd rfl h
  have e2 : (op == CmpOp.NotIn) = false := by cases op <;> first | rfl | exact absurd rfl h2
  cases b <;> simp [behindInMarks, e1, e2]
theorem pe_cmpR {op : CmpOp} {r : R2} (ho : OpR X (compareOp op) r) (ha : PE X a ta) (hb : PE X b tb) (hm : behindInMarks op b = false) : PE X (.Compare a [op] [b] pos) (tOp r ta tb) := by
  intro pins s σ H Q I h
  exact wpAny_Compare1 (binT ha hb I h fun v u s2 x y H2 I2 rx ry q => ho pins s2 σ H2 x y v u Q I2 rx ry q) hm
noncomputable def tTest (t : TE) : TT := fun σ H Q => t σ H fun x H' => ∃ k, x = .bl k ∧ Q k H'
theorem pt_cmpR {op : CmpOp} {r : R2} (ho : OpR X (compareOp op) r) (ha : PE X a ta) (hb : PE X b tb) (hm : behindInMarks op b = false) : PT X (.Compare a [op] [b] pos) (tTest (tOp r ta tb)) := by
  intro pins s σ H Q I h
  refine wpAny_isTrue_Compare1 (thn (ha pins s σ H _ I h) fun v s1 ⟨x, H1, I1, r1, q1⟩ => thn (hb pins s1 σ H1 _ I1 q1) fun u s2 ⟨y, H2, I2, r2, q2⟩ =>
    thn (ho pins s2 σ H2 x y v u _ I2 r1 r2 q2) fun c s3 ⟨z, H3, I3, r3, k, e, q3⟩ => ?_) hm
  subst e
  cases r3
  exact wpAny_truthy_bool ⟨H3, I3, q3⟩
noncomputable def tChain (r r' : R2) (ta tb tc : TE) : TE := fun σ H Q => ta σ H fun x H1 => tb σ H1 fun y H2 => r x y H2 fun z H3 => ∃ k, z = .bl k ∧
  (if k = true then tc σ H3 fun w' H4 => r' y w' H4 Q else Q (.bl false) H3)
theorem pe_chain {op op' : CmpOp} {r r' : R2} (ho : OpR X (compareOp op) r) (ho' : OpR X (compareOp op') r') (ha : PE X a ta) (hb : PE X b tb) (hc : PE X c tc)
    (hm : lastMarks [op, op'] [b, c] = false := by with_unfolding_all rfl) : PE X (.Compare a [op, op'] [b, c] pos) (tChain r r' ta tb tc) := by
  intro pins s σ H Q I h
  refine Compare_chain (thn (ha pins s σ H _ I h) fun v s1 ⟨x, H1, I1, r1, q1⟩ => chain_link (thn (hb pins s1 σ H1 _ I1 q1) fun u s2 ⟨y, H2, I2, r2, q2⟩ =>
    thn (ho pins s2 σ H2 x y v u _ I2 r1 r2 q2) fun d s3 ⟨z, H3, I3, r3, k, e, q3⟩ => ?_)) hm
  subst e
  cases r3
  refine wpAny_truthy_bool ?_
  cases k with
  | false => exact ite_ff ⟨.bl false, H3, I3, rfl, q3⟩
  | true => exact ite_tt (chain_last (thn (hc pins s3 σ H3 _ I3 q3) fun w' s4 ⟨z', H4, I4, r4, q4⟩ => ho' pins s4 σ H4 y z' u w' Q I4 r2 r4 q4))
theorem line63 : (sizeLine : Nat) < 2 ^ 63 := by rw [sizeLine_eq]; decide
theorem vals1 {x : V} {us : List Value} (r : Vals [x] us) : ∃ u, us = [u] ∧ RelV x u := by
  cases r with
  | cons r1 r2 => cases r2; exact ⟨_, rfl, r1⟩
theorem vals2 {x y : V} {us : List Value} (r : Vals [x, y] us) : ∃ u w', us = [u, w'] ∧ RelV x u ∧ RelV y w' := by
  cases r with
  | cons r1 r2 =>
    cases r2 with
    | cons r3 r4 => cases r4; exact ⟨_, _, rfl, r1, r3⟩
theorem call_abs : CallR X (.builtin "abs") (fun xs H Q => ∃ i, xs = [.int i] ∧ Q (.int (if i < 0 then -i else i)) H) := by
  intro pins s σ H xs us Q I r h
  obtain ⟨i, rfl, q⟩ := h
  obtain ⟨u, rfl, t, rfl⟩ := vals1 r
  exact call_abs_int fun u tk => ⟨.int (if i < 0 then -i else i), H, I.tok _, ⟨_, rfl⟩, q⟩
theorem call_max2 (hc : X.calm = true) : CallR X (.builtin "max") (fun xs H Q => ∃ i j, xs = [.int i, .int j] ∧ Q (.int (if j > i then j else i)) H) := by
  intro pins s σ H xs us Q I r h
  obtain ⟨i, j, rfl, q⟩ := h
  obtain ⟨u, w', rfl, ⟨t, rfl⟩, ⟨t', rfl⟩⟩ := vals2 r
  refine max_two_ints (I.ok.hd hc) fun h' tk k => ⟨_, H, I.kept k, ?_, q⟩
  by_cases hj : j > i
  · rw [if_pos hj, if_pos hj]; exact ⟨_, rfl⟩
  · rw [if_neg hj, if_neg hj]; exact ⟨_, rfl⟩
theorem call_int1 : CallR X (.type "int") (fun xs H Q => (∃ i, xs = [.int i] ∧ Q (.int i) H) ∨ ∃ k, xs = [.bl k] ∧ Q (.int (if k then 1 else 0)) H) := by
  intro pins s σ H xs us Q I r h
  rcases h with ⟨i, rfl, q⟩ | ⟨k, rfl, q⟩
  · obtain ⟨u, rfl, t, rfl⟩ := vals1 r
    exact call_int_int ⟨.int i, H, I, ⟨_, rfl⟩, q⟩
  · obtain ⟨u, rfl, r1⟩ := vals1 r
    cases r1
    exact call_int_bool ⟨.int (if k then 1 else 0), H, I.tok _, ⟨_, rfl⟩, q⟩
end
end L2
namespace L2
open PySem PySem.Spec PyProof.Rows
structure ObjM (h : Heap) (x dx C : Addr) (mA : Str → Option Value) : Prop where
  obj : h.get? x = some (PySem.W.instObj C dx)
  ns : h.Ns1 dx mA
  ne : dx ≠ x
theorem lookIn_ns {h : Heap} {dx : Addr} {mA : Str → Option Value} (n : h.Ns1 dx mA) : ∃ od, h.get? dx = some od ∧ ∀ name, PySem.W.lookIn name od = some (mA name) := by
  obtain ⟨o, es, ep, ho, hd, hk, _, hm⟩ := n
  refine ⟨o, ho, fun name => ?_⟩
  have e := hm name
  unfold nsFind findBy at e
  rw [← Array.find?_toList] at e
  unfold PySem.W.lookIn
  rw [hd]
  dsimp only
  split
  · rename_i y q
    rw [q] at e
    exact congrArg some e
  · rename_i q
    rw [q] at e
    have a : es.toList.any (·.refKey) = false := by
      rw [List.any_eq_false]
      intro y hy
      obtain ⟨z, t, hkey⟩ := hk y (Array.mem_toList_iff.mp hy)
      simp [DictEntry.refKey, hkey]
    have a' : ¬ es.toList.any (·.refKey) = true := by rw [a]; exact Bool.false_ne_true
    rw [if_neg a']
    exact congrArg some e
theorem ObjM.look {h : Heap} {x dx C : Addr} {mA : Str → Option Value} (I : ObjM h x dx C mA) : ∃ od, PySem.W.InstAt h x (PySem.W.instObj C dx) C (some od) ∧ ∀ name, PySem.W.lookIn name od = some (mA name) :=
  let ⟨od, ho, hl⟩ := lookIn_ns I.ns
  ⟨od, ⟨I.obj, rfl, rfl, ho⟩, hl⟩
section
variable {prog : Program} {w : World} {A : Around} {E : Value → Shared → Prop} {s : Shared} {K : PySem.W.Frag} {x dx C f : Addr} {mA : Str → Option Value} {name : Str} {v : Value}
end
section
variable {P : Program} {w : World} {H H' : Hp} {h h' : Heap} {a C dx : Addr} {fs fs' : List (Str × V)}
theorem ins_get (hok : HOk P w H h) (e : H a = some (.ins C dx fs)) : ∃ mA, ObjM h a dx C mA ∧ (∀ f, RelO (fs.lookup f) (mA f)) ∧ PySem.Within mA (fs.map (·.1)) ∧ fs.length ≤ 1000 ∧ H dx = some (.own a) := by
  obtain ⟨d, z, ne, ob, mA, n, r, q⟩ := (show ObjOk P w H h a (.ins C dx fs) from hok a _ e)
  exact ⟨mA, ⟨ob, n, ne⟩, r, q, z, d⟩
end
structure Cls (K : PySem.W.Frag) (C : Addr) : Prop where
  pg : PySem.W.plainGet K C Str.empty = true
  hd : PySem.W.hasDictIn K C = true
  po : PySem.W.plainOver K C = true
  sa : PySem.W.findIn K (.ref C) "__setattr__" = some (some (.builtin "object.__setattr__"))
theorem Cls.get {K : PySem.W.Frag} {C : Addr} (c : Cls K C) (f : Str) : PySem.W.plainGet K C f = true := c.pg
section
variable {X : Cx} {pins : List (Addr × Obj)} {σ : St} {H : Hp} {s : Shared} {a C dx : Addr} {fs : List (Str × V)} {f : Str} {v : V} {A : Around} {E : Value → Shared → Prop}
end
section
variable {X : Cx} {o e value : Expr} {f : Str} {pos pos' tpos : Pos} {ta tv : TE}
end
section
variable {X : Cx} {pins : List (Addr × Obj)} {σ : St} {H : Hp} {s : Shared} {A : Around} {E : Value → Shared → Prop} {Q : Value → Shared → Prop} {c : Value} {b : Bool}
inductive TyOf (K : PySem.W.Frag) (H : Hp) : V → Value → Prop where
  | non : TyOf K H .non (.type "NoneType")
  | bl (x : Bool) : TyOf K H (.bl x) (.type "bool")
  | int (i : Int) : TyOf K H (.int i) (.type "int")
  | str (x : Str) : TyOf K H (.str x) (.type "str")
  | flt (x : UInt64) : TyOf K H (.flt x) (.type "float")
  | lst {a : Addr} {xs : List V} (e : H a = some (.lst xs)) : TyOf K H (.ref a) (.type "list")
  | frz {a : Addr} {o : Obj} {xs : List V} (e : H a = some (.frz o (.lst xs))) : TyOf K H (.ref a) (.type "list")
  | tup {a : Addr} {xs : List V} (e : H a = some (.tup xs)) : TyOf K H (.ref a) (.type "tuple")
  | dK {a : Addr} {kvs : List (Key × V)} (e : H a = some (.dK kvs)) : TyOf K H (.ref a) (.type "dict")
  | dT {a : Addr} {kvs : List (List Key × V)} (e : H a = some (.dT kvs)) : TyOf K H (.ref a) (.type "dict")
  | ins {a C dx : Addr} {fs : List (Str × V)} (e : H a = some (.ins C dx fs)) (cl : Cls K C) (ha : PySem.W.findIn K (.ref C) "__class__" = some (some (.builtin "object.__class__")))
      (hn : PySem.W.specialIn K (.builtin "object.__class__") "__get__" = some (some (.builtin "getset_descriptor.__get__"))) (htk : PySem.W.takesIn K (.builtin "object.__class__") = some true)
      (hm : PySem.W.mroIn K C (.type "object") = some true) : TyOf K H (.ref a) (.ref C)
theorem isinst_ok {x : V} {u t : Value} (I : Inv X pins σ H s) (rx : RelV x u) (ty : TyOf X.K H x t) (e : PySem.W.kitOne X.K t c = some b) (h : ∀ tk, Q (.bool b) { s with toks := tk }) :
    wpAny (model X.prog X.w) A (call (.builtin "isinstance") [u, c]) Q E s := by
  cases ty with
  | non => cases (show u = Value.none from rx); exact PySem.W.kia_one PySem.W.kitx_none I.kIn True.intro e (fun z => nomatch z) h
  | bl y => cases (show u = Value.bool y from rx); exact PySem.W.kia_one PySem.W.kitx_bool I.kIn True.intro e (fun z => nomatch z) h
  | int i => obtain ⟨t, q⟩ := (show ∃ t, u = Value.int i t from rx); cases q; exact PySem.W.kia_one PySem.W.kitx_int I.kIn True.intro e (fun z => nomatch z) h
  | str y => obtain ⟨t, q⟩ := (show ∃ t, u = Value.str y t from rx); cases q; exact PySem.W.kia_one PySem.W.kitx_str I.kIn True.intro e (fun z => nomatch z) h
  | flt y => obtain ⟨t, q⟩ := (show ∃ t, u = Value.float y t from rx); cases q; exact PySem.W.kia_one PySem.W.kitx_float I.kIn True.intro e (fun z => nomatch z) h
  | @lst a xs ea =>
    cases (show u = Value.ref a from rx)
    obtain ⟨_, _, n, _, h1⟩ := (show ObjOk X.prog X.w H s.heap a (.lst xs) from I.hok a _ ea)
    exact PySem.W.kia_one PySem.W.kitx_list I.kIn ⟨_, h1, rfl⟩ e (fun z => nomatch z) h
  | @frz a ob xs ea =>
    cases (show u = Value.ref a from rx)
    obtain ⟨_, _, _, n, _, h1⟩ := (show ObjOk X.prog X.w H s.heap a (.frz ob (.lst xs)) from I.hok a _ ea)
    exact PySem.W.kia_one PySem.W.kitx_list I.kIn ⟨_, h1, rfl⟩ e (fun z => nomatch z) h
  | @tup a xs ea =>
    cases (show u = Value.ref a from rx)
    obtain ⟨_, _, _, p⟩ := (show ObjOk X.prog X.w H s.heap a (.tup xs) from I.hok a _ ea)
    obtain ⟨o, h1, h2, _⟩ := p
    exact PySem.W.kia_one PySem.W.kitx_tuple I.kIn ⟨o, h1, h2⟩ e (fun z => nomatch z) h
  | @dK a kvs ea =>
    cases (show u = Value.ref a from rx)
    obtain ⟨_, _, vs, _, p⟩ := (show ObjOk X.prog X.w H s.heap a (.dK kvs) from I.hok a _ ea)
    obtain ⟨o, es, ep, h1, h2, _⟩ := p
    exact PySem.W.kia_one PySem.W.kitx_dict I.kIn ⟨o, h1, h2.1⟩ e (fun z => nomatch z) h
  | @dT a kvs ea =>
    cases (show u = Value.ref a from rx)
    obtain ⟨_, _, xs, _, o, es, ep, h1, h2, _⟩ := (show ObjOk X.prog X.w H s.heap a (.dT kvs) from I.hok a _ ea)
    exact PySem.W.kia_one PySem.W.kitx_dict I.kIn ⟨o, h1, h2.1⟩ e (fun z => nomatch z) h
  | @ins a C dx fs ea cl ha hn htk hm =>
    cases (show u = Value.ref a from rx)
    obtain ⟨mA, O, _⟩ := ins_get I.hok ea
    obtain ⟨od, J, _⟩ := O.look
    exact PySem.W.kia_one (PySem.W.kitx_own (cl.get _) cl.hd ha hn htk hm) I.kIn J e (fun z => nomatch z) h
end
end L2
namespace L2
open PySem PySem.Spec PyProof.Rows
structure Room (k : Nat) (A : Around) : Prop where
  hd : A.handled = none
  dp : A.depth + 3 * k + 5 < recursionLimit
  un : A.units + 16 * k + 200 < cLine
theorem Room.mono {j k : Nat} {A : Around} (r : Room k A) (h : j ≤ k) : Room j A := ⟨r.hd, by have := r.dp; omega, by have := r.un; omega⟩
theorem Room.deeper {k : Nat} {A : Around} (r : Room (k + 1) A) (env : Env) : Room k (A.deeper env) :=
  ⟨r.hd, by have := r.dp; show A.depth + 1 + 3 * k + 5 < _; omega, by have := r.un; show A.units + 3 + 16 * k + 200 < _; omega⟩
theorem Room.depth {k : Nat} {A : Around} (r : Room k A) : A.depth < recursionLimit := by have := r.dp; omega
theorem Room.units {k : Nat} {A : Around} (r : Room k A) : A.units + 64 < cLine := by have := r.un; omega
noncomputable def tNil : TA := fun _ H Q => Q [] H
noncomputable def tCons (ta : TE) (tr : TA) : TA := fun σ H Q => ta σ H fun x H1 => tr σ H1 fun xs H2 => Q (x :: xs) H2
section
variable {X : Cx} {e : Expr} {es : List Expr} {te : TE} {t : TA} {pos : Pos}
theorem pa_nil : PA X [] tNil := fun _ _ _ _ H Q I h => Calls.spliced_nil ⟨[], H, I, .nil, h⟩
theorem pa_cons (ha : PE X e te) (hr : PA X es t) (hs : starEach (e :: es) X.env = (false, eval e X.env) :: starEach es X.env := by rfl) : PA X (e :: es) (tCons te t) := by
  intro pos pins s σ H Q I h
  rw [hs]
  show wpAny _ _ (spliced ((false, eval e X.env) :: backTo pos (starEach es X.env))) _ _ s
  refine Calls.spliced_cons (thn (ha pins s σ H _ I h) fun u s1 ⟨x, H1, I1, r1, q1⟩ => ?_)
  exact thn (hr pos pins s1 σ H1 _ I1 q1) fun us s2 ⟨xs, H2, I2, r2, q2⟩ => ⟨x :: xs, H2, I2, .cons r1 r2, q2⟩
noncomputable def tTup (t : TA) : TE := fun σ H Q => t σ H fun xs H1 => xs.length ≤ sizeLine ∧ ∀ p, H1 p = none → Q (.ref p) (upd H1 p (.tup xs))
noncomputable def tLst (t : TA) : TE := fun σ H Q => t σ H fun xs H1 => xs.length ≤ sizeLine ∧ ∀ p, H1 p = none → Q (.ref p) (upd H1 p (.lst xs))
theorem pe_tup {x1} (h : PA X es t) : PE X (.Tuple es x1 pos) (tTup t) := by
  intro pins s σ H Q I hq
  refine wpAny_Tuple_spliced (thn (h pos pins s σ H _ I hq) fun us s1 ⟨xs, H1, I1, r, z, q⟩ => ⟨by rw [← r.length]; exact z, ?_⟩)
  have hf : H1 s1.heap.objs.size = none := I1.hok.fresh (Nat.le_refl _)
  refine ⟨.ref s1.heap.objs.size, upd H1 s1.heap.objs.size (.tup xs), I1.laid (t' := s1.toks) (fun b u e => Heap.get?_push_of_some _ e) (Nat.le_refl _) ?_, rfl, q _ hf⟩
  exact ⟨z, us, r, ⟨_, Heap.get?_push_size _ rfl, rfl, _, rfl⟩⟩
theorem pe_lst (h : PA X es t) : PE X (.List es pos) (tLst t) := by
  intro pins s σ H Q I hq
  refine wpAny_List_spliced (thn (h pos pins s σ H _ I hq) fun us s1 ⟨xs, H1, I1, r, z, q⟩ => ⟨by rw [← r.length]; exact z, ?_⟩)
  have hf : H1 s1.heap.objs.size = none := I1.hok.fresh (Nat.le_refl _)
  refine ⟨.ref s1.heap.objs.size, upd H1 s1.heap.objs.size (.lst xs), I1.laid (t' := s1.toks) (fun b u e => Heap.get?_push_of_some _ e) (Nat.le_refl _) ?_, rfl, q _ hf⟩
  exact ⟨z, us, 0, r, Heap.get?_push_size _ rfl⟩
end
noncomputable abbrev Sp := List V → Hp → VK → XK → Prop
noncomputable abbrev CXT := List Env → Hp → Shared → XK → Value → Shared → Prop
structure Env0 (P : Program) (w : World) (K : PySem.W.Frag) (mg : Str → Option Value) (base : Heap) (A : Around) (outer : List Env) (s : Shared) (H : Hp) : Prop where
  frames : A.frames = some outer
  mod : Mod K mg base
  bs : ∀ b o, base.get? b = some o → s.heap.get? b = some o ∧ H b = none
  bsz : base.objs.size ≤ s.heap.objs.size
  funs : s.heap.FunFrames base outer
  frf : ∀ b ∈ frs outer, H b = none
  hok : HOk P w H s.heap
  bare : AllBare s.gens
noncomputable def CE (outer : List Env) (P : Program) (w : World) (H : Hp) (s : Shared) (Q : VK) (u : Value) (s' : Shared) : Prop :=
  ∃ v H', s'.os = s.os ∧ AllBare s'.gens ∧ Un (frs outer) [] H H' s.heap s'.heap ∧ HOk P w H' s'.heap ∧ RelV v u ∧ Q v H'
noncomputable def CR (CX : CXT) (outer : List Env) (P : Program) (w : World) (H : Hp) (s : Shared) (Q : VK) (E : XK) (r : Result) (s' : Shared) : Prop :=
  match r with
  | .ok (.ret u) => CE outer P w H s Q u s'
  | .ok _ => False
  | .error e => CX outer H s E e s'
structure FnOk (P : Program) (w : World) (K : PySem.W.Frag) (mg : Str → Option Value) (base : Heap) (CX : CXT) (k : Nat) (f : Addr) (fd : FuncData) (ps : List Str) (sp : Sp) : Prop where
  len : ∀ vs H Q E, sp vs H Q E → vs.length = ps.length
  run : ∀ (A : Around) (outer : List Env) (s : Shared) (H : Hp) (args : Args) (us : List Value) (vs : List V) (Q : VK) (E : XK), Room k A → Env0 P w K mg base A outer s H → BindsTo s fd args (ps.zip us) → Vals vs us → sp vs H Q E →
    codeAny (model P w) A (.call (.ref f) args) (CR CX outer P w H s Q E) s
section
variable {X : Cx} {pins : List (Addr × Obj)} {σ : St} {H : Hp} {s s' : Shared}
theorem Inv.env0 (I : Inv X pins σ H s) : Env0 X.prog X.w X.K X.mg X.base X.A X.stack s H :=
  ⟨I.ok.frames, I.ok.mod, I.bs, Nat.le_trans I.ok.bsz I.sz, I.stack, I.stkFree, I.hok, I.bare⟩
theorem Inv.after {Q : VK} {u : Value} (I : Inv X pins σ H s) (h : CE X.stack X.prog X.w H s Q u s') : EP X pins σ Q u s' := by
  obtain ⟨v, H', os, bare, un, hok, r, q⟩ := h
  obtain ⟨hh, g, d, t, os'⟩ := s'
  obtain rfl : os' = s.os := os
  exact ⟨v, H', I.call (h' := hh) (g' := g) (d' := d) (t' := t) (ch := []) un hok bare (fun b z => absurd z (by simp)), r, q⟩
end
noncomputable def tCall (sp : Sp) (dvs : List V) (E : XK) (t : TA) : TE := fun σ H Q => t σ H fun vs H1 => sp (vs ++ dvs) H1 Q E
noncomputable def Binds (K : PySem.W.Frag) (fd : FuncData) (ps : List Str) (ds : List Value) : Prop :=
  ∀ (s : Shared) (us : List Value), K.In s.heap → (us ++ ds).length = ps.length → BindsTo s fd ⟨us, []⟩ (ps.zip (us ++ ds))
theorem Binds.all {K : PySem.W.Frag} {fd : FuncData} {ps : List Str} (h : ∀ us : List Value, us.length = ps.length → bindArgs fd ⟨us, []⟩ = pure (ps.zip us)) : Binds K fd ps [] := fun s us _ hl => by
  rw [List.append_nil] at hl ⊢
  exact .of_eq (h us hl)
noncomputable def Passes (CX : CXT) (X : Cx) (E : XK) : Prop := ∀ (pins : List (Addr × Obj)) (σ : St) (H : Hp) (s : Shared) (e : Value) (s' : Shared), Inv X pins σ H s → CX X.stack H s E e s' → X.xe e s'
section
variable {X : Cx} {CX : CXT} {k : Nat} {f C : Addr} {fd : FuncData} {ps : List Str} {sp : Sp} {dvs : List V} {ds : List Value} {E : XK} {x m : Str} {p pos apos : Pos} {e o : Expr} {es : List Expr} {ta : TE} {t : TA}
theorem run_fn {pins : List (Addr × Obj)} {σ : St} {H : Hp} {s : Shared} {Q : VK} {us : List Value} {vs : List V} (F : FnOk X.prog X.w X.K X.mg X.base CX k f fd ps sp) (hr : Room k X.A) (hb : Binds X.K fd ps ds) (hd : Vals dvs ds) (hx : Passes CX X E)
    (I : Inv X pins σ H s) (r : Vals vs us) (h : sp (vs ++ dvs) H Q E) : wpAny (model X.prog X.w) X.A (call (.ref f) us) (EP X pins σ Q) X.xe s := by
  have r2 : Vals (vs ++ dvs) (us ++ ds) := r.append hd
  have hl : (us ++ ds).length = ps.length := by rw [← r2.length]; exact F.len _ _ _ _ h
  refine wpAny_call (codeAny_mono (F.run X.A X.stack s H ⟨us, []⟩ (us ++ ds) (vs ++ dvs) Q E hr I.env0 (hb s us I.kIn hl) r2 h) fun r s' hq => ?_)
  cases r with
  | error e => exact hx pins σ H s e s' I hq
  | ok fl =>
    cases fl with
    | ret u => exact I.after hq
    | next => exact False.elim hq
    | brk => exact False.elim hq
    | cont => exact False.elim hq
theorem pe_call (F : FnOk X.prog X.w X.K X.mg X.base CX k f fd ps sp) (hr : Room k X.A) (hg : Gl X x) (hm : X.mg x = some (.ref f)) (hk : PySem.W.keepIn X.K (.ref f) = true) (hb : Binds X.K fd ps ds) (hd : Vals dvs ds) (hx : Passes CX X E)
    (ha : PA X (e :: es) t) (hdb : (x == ("__debug__" : Str)) = false := by decide) (he : starEach (e :: es) X.env = (false, eval e X.env) :: starEach es X.env := by rfl) (hpl : (backTo pos (starEach es X.env)).any (·.1) = false := by rfl) :
    PE X (.Call (.Name x p) (e :: es) [] pos) (tCall sp dvs E t) := by
  intro pins s σ H Q I h
  refine wpAny_Call_Name_kw (ld_glob I hg hm ?_ hdb)
  refine PySem.W.callWith_K (h₀ := X.base) I.ok.mod.kin hk (thn (ha pos pins s σ H _ I h) fun us s1 ⟨vs, H1, I1, r, q⟩ => ⟨I1.kIn, ?_⟩) he hpl
  exact run_fn F hr hb hd hx I1 r q
end
section
variable {X : Cx} {CX : CXT} {k : Nat} {f C : Addr} {fd : FuncData} {ps ks : List Str} {sp : Sp} {E : XK} {x m : Str} {p pos apos kpos : Pos} {e o : Expr} {es : List Expr} {kws : List Keyword} {te ta : TE} {t tk : TA} {nm : Option Str}
variable {g : List Value → List Value → List Value} {gV : List V → List V → List V}
end
structure FnScope (N P : List Str) (sc : Scope) : Prop where
  kind : sc.kind = .function
  co : sc.isCoroutine = false
  gen : sc.isGenerator = false
  nd : N.Nodup
  pre : N.take P.length = P
  par : ∀ x ∈ P, sc.names.lookup x = some .local ∨ sc.names.lookup x = some .cell
  nofree : ∀ y ∈ sc.names, y.2 ≠ .free
theorem bindL_out {kindOf : Str → Option NameKind} {x : Str} : ∀ {binds : List (Str × Value)} {m : Str → Option Value}, (∀ v, (x, v) ∉ binds) → bindL kindOf binds m x = m x
  | [], _, _ => rfl
  | (n, v) :: r, m, h => by
    unfold bindL
    rw [bindL_out fun w hw => h w (List.mem_cons_of_mem _ hw)]
    split
    · have : x ≠ n := by rintro rfl; exact h v List.mem_cons_self
      simp [this]
    · rfl
theorem bindC_out {kindOf : Str → Option NameKind} {x : Str} : ∀ {binds : List (Str × Value)} {m : Str → Option Value}, (∀ v, (x, v) ∉ binds) → bindC kindOf binds m x = m x
  | [], _, _ => rfl
  | (n, v) :: r, m, h => by
    unfold bindC
    rw [bindC_out fun w hw => h w (List.mem_cons_of_mem _ hw)]
    split
    · rfl
    · have : x ≠ n := by rintro rfl; exact h v List.mem_cons_self
      simp [this]
theorem bindL_get {kindOf : Str → Option NameKind} {x : Str} {v : Value} : ∀ {P : List Str} {vs : List Value} {i : Nat} {m : Str → Option Value}, P.Nodup → P[i]? = some x → vs[i]? = some v → kindOf x = some .local →
    bindL kindOf (P.zip vs) m x = some v
  | [], _, _, _, _, h, _, _ => by simp at h
  | _ :: _, [], _, _, _, _, h, _ => by simp at h
  | p :: P, w :: vs, 0, m, nd, h1, h2, hk => by
    simp at h1 h2; subst h1; subst h2
    show bindL kindOf ((p, w) :: P.zip vs) m p = _
    unfold bindL
    rw [bindL_out fun v hv => (List.nodup_cons.mp nd).1 (List.of_mem_zip hv).1, if_pos hk]
    simp
  | p :: P, w :: vs, i + 1, m, nd, h1, h2, hk => by
    show bindL kindOf ((p, w) :: P.zip vs) m x = _
    unfold bindL
    exact bindL_get (i := i) (List.nodup_cons.mp nd).2 (by simpa using h1) (by simpa using h2) hk
theorem bindC_get {kindOf : Str → Option NameKind} {x : Str} {v : Value} : ∀ {P : List Str} {vs : List Value} {i : Nat} {m : Str → Option Value}, P.Nodup → P[i]? = some x → vs[i]? = some v → kindOf x ≠ some .local →
    bindC kindOf (P.zip vs) m x = some v
  | [], _, _, _, _, h, _, _ => by simp at h
  | _ :: _, [], _, _, _, _, h, _ => by simp at h
  | p :: P, w :: vs, 0, m, nd, h1, h2, hk => by
    simp at h1 h2; subst h1; subst h2
    show bindC kindOf ((p, w) :: P.zip vs) m p = _
    unfold bindC
    rw [bindC_out fun v hv => (List.nodup_cons.mp nd).1 (List.of_mem_zip hv).1, if_neg hk]
    simp
  | p :: P, w :: vs, i + 1, m, nd, h1, h2, hk => by
    show bindC kindOf ((p, w) :: P.zip vs) m x = _
    unfold bindC
    exact bindC_get (i := i) (List.nodup_cons.mp nd).2 (by simpa using h1) (by simpa using h2) hk
noncomputable def start (N : List Str) (vs : List V) : St := vs.map some ++ List.replicate (N.length - vs.length) none
noncomputable def cxOf (CX : CXT) (P : Program) (w : World) (K : PySem.W.Frag) (mg : Str → Option Value) (base : Heap) (N : List Str) (qual : Str) (scope : Scope) (f : Addr) (cd : Value) (A : Around) (outer : List Env) (s : Shared) (H : Hp) (E : XK) : Cx where
  prog := P
  w := w
  K := K
  mg := mg
  base := base
  A := A.deeper (envOfC qual scope s.heap.objs.size f cd)
  N := N
  s₀ := s
  H₀ := H
  env := envOfC qual scope s.heap.objs.size f cd
  outer := outer
  stack := envOfC qual scope s.heap.objs.size f cd :: outer
  ex := []
  calm := true
  fn := fun _ => true
  pn := []
  xe := fun e s' => wpAny (model P w) (A.deeper (envOfC qual scope s.heap.objs.size f cd)) (leaving (envOfC qual scope s.heap.objs.size f cd) e) (fun _ s'' => CX outer H s E e s'') (fun e' s'' => CX outer H s E e' s'') s'
theorem cell_has {sc : Scope} {n : Nat} {x : Str} (h : sc.names.lookup x = some .cell) : ∃ c, (cellsFrom n sc.names []).lookup x = some c := by
  have q := PySem.W.cellsFrom_some sc.names n [] (.inl h)
  exact Option.isSome_iff_exists.mp q
theorem inv_start {CX : CXT} {P : Program} {w : World} {K : PySem.W.Frag} {mg : Str → Option Value} {base : Heap} {N ps : List Str} {qual : Str} {scope : Scope} {f : Addr} {cd : Value} {A : Around} {outer : List Env} {s s1 : Shared} {H : Hp} {E : XK} {us : List Value} {vs : List V}
    (S : FnScope N ps scope) (hd : A.handled = none) (e0 : Env0 P w K mg base A outer s H) (hl : vs.length = ps.length) (r : Vals vs us)
    (x : InCallC s s.heap.objs.size (bindL (envOfC qual scope s.heap.objs.size f cd).kindOf (ps.zip us) fun _ => none) (cellsFrom (s.heap.objs.size + 1) scope.names []) (bindC (envOfC qual scope s.heap.objs.size f cd).kindOf (ps.zip us) fun _ => none) s1) :
    Inv (cxOf CX P w K mg base N qual scope f cd A outer s H E) [] (start N vs) H s1 := by
  have hpl : ps.length ≤ N.length := by have := congrArg List.length S.pre; rw [List.length_take] at this; omega
  obtain ⟨h1, tk, rfl, hk⟩ := x.done
  have noA : ∀ b : Addr, b ∉ (cxOf CX P w K mg base N qual scope f cd A outer s H E).ex := fun b z => absurd (show b ∈ ([] : List Addr) from z) (by simp)
  refine ⟨⟨e0.mod, S.kind, rfl, rfl, Nat.le_refl _, fun y z c h1 h2 => ?_, fun y hy => ?_, fun y c _ h => ?_, fun _ => hd, Around.frames_deeper e0.frames, .inr ⟨rfl, rfl⟩, fun b z => absurd z (noA b), e0.bs, e0.bsz, fun b _ _ => noA b, fun b z => absurd z (noA b), e0.funs, e0.frf⟩,
    rfl, e0.bare, Un.kept hk, ⟨_, x.toInCall.ns, fun i y v h1 h2 h3 => ?_⟩, fun y c h => ⟨_, x.cell y c h⟩, e0.hok.fresh (Nat.le_refl _), fun y c h => ?_, fun p hp => absurd (show p ∈ ([] : List (Addr × Obj)) from hp) (by simp), e0.hok.kept hk, ?_⟩
  · exact name_of_addr x.apart (PySem.mem_of_lookup h1) (PySem.mem_of_lookup h2)
  · have hy : scope.names.lookup y = some .cell ∨ scope.names.lookup y = some .free := hy
    rcases hy with hy | hy
    · exact cell_has hy
    · exact absurd rfl (S.nofree _ (PySem.mem_of_lookup hy))
  · exact Nat.le_of_lt (x.above y c (PySem.mem_of_lookup h))
  · have hi : i < vs.length := by
      unfold start at h2
      by_cases hi : i < vs.length
      · exact hi
      · rw [List.getElem?_append_right (by simpa using hi)] at h2
        rw [List.getElem?_replicate] at h2
        split at h2 <;> cases h2
    have ha : vs[i]? = some v := by
      unfold start at h2
      rw [List.getElem?_append_left (by simpa using hi), List.getElem?_map] at h2
      cases e : vs[i]? with
      | none => rw [e] at h2; cases h2
      | some a => rw [e] at h2; cases h2; rfl
    obtain ⟨u, hu, rv⟩ := r.get ha
    have hp : ps[i]? = some y := by
      rw [← S.pre, List.getElem?_take_of_lt (by omega)]; exact h1
    have ndP : ps.Nodup := by rw [← S.pre]; exact S.nd.sublist (List.take_sublist _ _)
    refine ⟨u, rv, ?_⟩
    rcases S.par y (List.mem_of_getElem? hp) with k | k
    · exact .inl ⟨k, bindL_get ndP hp hu k⟩
    · obtain ⟨c, e⟩ := cell_has (n := s.heap.objs.size + 1) k
      refine .inr ⟨.inl k, c, e, ?_⟩
      have q := x.cell y c e
      rw [bindC_get ndP hp hu (by show scope.names.lookup y ≠ _; rw [k]; decide)] at q
      exact q
  · exact e0.hok.fresh (Nat.le_of_lt (x.above y c (PySem.mem_of_lookup h)))
  · unfold start
    show _ = N.length
    rw [List.length_append, List.length_map, List.length_replicate]
    omega
theorem fn_of {CX : CXT} {P : Program} {w : World} {K : PySem.W.Frag} {mg : Str → Option Value} {base : Heap} {k : Nat} {f : Addr} {name qual : Str} {params : Arguments} {body : List Stmt} {scope : Scope} {dV kV doc pm cdv ct oc : Value} {an od : Option Addr}
    {osl : Array (Option Value)} {N ps : List Str} {sp : Sp} (lk : K.lookup f = some ⟨oc, od, .func (PySem.W.fnOf name qual params body scope dV kV doc pm an cdv ct), osl⟩) (hcd : PySem.W.codeIn K cdv qual = true) (S : FnScope N ps scope)
    (len : ∀ vs H Q E, sp vs H Q E → vs.length = ps.length)
    (hbody : ∀ (A : Around) (outer : List Env) (s : Shared) (H : Hp) (vs : List V) (Q : VK) (E : XK), Room k (A.deeper (envOfC qual scope s.heap.objs.size f cdv)) → sp vs H Q E →
      ∃ t, PSs (cxOf CX P w K mg base N qual scope f cdv A outer s H E) body t ∧ t { nx := fun _ H' => Q .non H', rt := Q } (start N vs) H) :
    FnOk P w K mg base CX (k + 1) f (PySem.W.fnOf name qual params body scope dV kV doc pm an cdv ct) ps sp := by
  refine ⟨len, fun A outer s H args us vs Q E hr e0 hb r hsp => ?_⟩
  have hl := len _ _ _ _ hsp
  have KX : K.In s.heap := e0.mod.kin.keeps fun b o e => (e0.bs b o e).1
  have lim : s.heap.NoLimit := e0.mod.nolimit.keeps fun b o e => (e0.bs b o e).1
  have hkind : ∀ y ∈ ps.zip us, scope.names.lookup y.1 = some .local ∨ (scope.names.lookup y.1 = some .cell ∧ ((cellsFrom (s.heap.objs.size + 1) scope.names []).lookup y.1).isSome = true) := fun ⟨n, v⟩ hy => by
    rcases S.par n (List.of_mem_zip hy).1 with q | q
    · exact .inl q
    · exact .inr ⟨q, PySem.W.cellsFrom_some _ _ _ (.inl q)⟩
  refine codeAny_call_function hr.depth (KX _ _ lk) rfl S.co S.gen rfl (PySem.W.codeRec_of KX hcd) (hb _ _ _ _ ?_)
  refine wpAny_newFunctionEnv_cells S.kind hkind fun env he s1 x => ?_
  subst he
  refine ⟨lim.keeps x.toInCall.keep, codeAny_func ?_⟩
  obtain ⟨t, ht, hq⟩ := hbody A outer s H vs Q E (hr.deeper _) hsp
  have I : Inv (cxOf CX P w K mg base N qual scope f cdv A outer s H E) [] (start N vs) H s1 := inv_start S hr.hd e0 hl r x
  refine wpAny_mono (ht [] s1 (start N vs) H _ I hq) (fun fl s' hs => ?_) fun e s' hs => hs
  have fin : ∀ {σ' : St} {H' : Hp} {v : V} {u : Value}, Inv (cxOf CX P w K mg base N qual scope f cdv A outer s H E) [] σ' H' s' → RelV v u → Q v H' → CE outer P w H s Q u s' :=
    fun {σ' H' v u} J rv q => ⟨v, H', J.os, J.bare, J.base, J.hok, rv, q⟩
  cases fl with
  | ret u =>
    obtain ⟨v, σ', H', J, rv, q⟩ := hs
    exact fin J rv q
  | next =>
    obtain ⟨σ', H', J, q⟩ := hs
    exact fin (v := V.non) (u := Value.none) J rfl q
  | brk =>
    obtain ⟨_, _, _, q⟩ := hs
    exact False.elim q
  | cont =>
    obtain ⟨_, _, _, q⟩ := hs
    exact False.elim q
end L2
namespace L2
open PySem PySem.Spec PyProof.Rows
section
variable {X : Cx} {x : Str} {p pos : Pos} {e : Expr} {es : List Expr} {t : TA} {id T : String} {r : List V → Hp → VK → Prop}
noncomputable def tCB (r : List V → Hp → VK → Prop) (t : TA) : TE := fun σ H Q => t σ H fun vs H1 => r vs H1 Q
theorem pe_callB (hc : CallR X (.builtin id) r) (hg : Gl X x) (hm : X.mg x = none) (hv : bootBuiltins x = some (.builtin id)) (ha : PA X (e :: es) t) (hn : x ≠ "__name__" := by decide) (hdb : (x == ("__debug__" : Str)) = false := by decide)
    (he : starEach (e :: es) X.env = (false, eval e X.env) :: starEach es X.env := by rfl) (hpl : (backTo pos (starEach es X.env)).any (·.1) = false := by rfl) : PE X (.Call (.Name x p) (e :: es) [] pos) (tCB r t) := by
  intro pins s σ H Q I h
  refine wpAny_Call_Name_kw (ld_blt I hg hm hv ?_ hn hdb)
  exact PyProof.Rows.callWith_builtin1 (thn (ha pos pins s σ H _ I h) fun us s1 ⟨vs, H1, I1, r1, q1⟩ => hc pins s1 σ H1 vs us Q I1 r1 q1) he hpl
theorem pe_callTy (hc : CallR X (.type T) r) (hg : Gl X x) (hm : X.mg x = none) (hv : bootBuiltins x = some (.type T)) (ha : PA X (e :: es) t) (hn : x ≠ "__name__" := by decide) (hdb : (x == ("__debug__" : Str)) = false := by decide)
    (he : starEach (e :: es) X.env = (false, eval e X.env) :: starEach es X.env := by rfl) (hpl : (backTo pos (starEach es X.env)).any (·.1) = false := by rfl) : PE X (.Call (.Name x p) (e :: es) [] pos) (tCB r t) := by
  intro pins s σ H Q I h
  refine wpAny_Call_Name_kw (ld_blt I hg hm hv ?_ hn hdb)
  exact PyProof.Rows.callWith_type1 (thn (ha pos pins s σ H _ I h) fun us s1 ⟨vs, H1, I1, r1, q1⟩ => hc pins s1 σ H1 vs us Q I1 r1 q1) he hpl
end
end L2
namespace HT
open PySem PyProof.Rows
section
open PySem.SeqAt
open PySem.AutoSeq1 (wpAny_loadPart')
open PySem.MeetsSeq PySem.MeetsSeq2 PySem.MeetsSeq3
end
section
variable {prog : Program} {w : World} {A : Around} {E : Value → Shared → Prop} {s : Shared}
noncomputable def sIx (n d : Nat) : Option Int → Nat
  | none => d
  | some v => if v < 0 then (v + (n : Int)).toNat else min v.toNat n
theorem sIx_none (n d : Nat) : sIx n d none = d := rfl
theorem sIx_le (n d : Nat) (hd : d ≤ n) (o : Option Int) : sIx n d o ≤ n := by
  cases o with
  | none => exact hd
  | some v =>
    show (if v < 0 then (v + (n : Int)).toNat else min v.toNat n) ≤ n
    by_cases hv : v < 0
    · rw [if_pos hv]; omega
    · rw [if_neg hv]; exact Nat.min_le_right _ _
theorem clip_eq (v : Int) (n d : Nat) : (if v < 0 then max (v + (n : Int)) 0 else min v (n : Int)) = ((sIx n d (some v) : Nat) : Int) := by
  show (if v < 0 then max (v + (n : Int)) 0 else min v (n : Int)) = (((if v < 0 then (v + (n : Int)).toNat else min v.toNat n) : Nat) : Int)
  by_cases hv : v < 0
  · simp only [if_pos hv]; omega
  · simp only [if_neg hv]; omega
theorem adjust_gen (lo hi : Option Int) (n : Nat) : Builtin.Slice.sliceAdjust lo hi 1 (n : Int) = (((sIx n 0 lo : Nat) : Int), ((sIx n n hi : Nat) : Int)) := by
  have h1 : ¬ ((1 : Int) < 0) := by omega
  unfold Builtin.Slice.sliceAdjust
  simp only [h1, if_false]
  refine Prod.ext ?_ ?_
  · cases lo with
    | none => rfl
    | some v => exact clip_eq v n 0
  · cases hi with
    | none => rfl
    | some v => exact clip_eq v n n
theorem places_gen (i j : Nat) : Builtin.Slice.slicePlaces (i : Int) (j : Int) 1 = j - i := by
  unfold Builtin.Slice.slicePlaces
  have h1 : (1 : Int) > 0 := by omega
  simp only [h1, if_true, Int.ediv_one]
  split <;> omega
theorem slicePart_ {v : Value} {o : Option Int} {Q : Option Int → Shared → Prop} (p : IsPart v o) (h : Q o s) : wpAny (model prog w) A (Builtin.Slice.slicePartIndex v) Q E s := by
  cases p with
  | none => exact slicePart_none h
  | int i t => exact slicePart_int h
theorem sliceApplied_gen {sl : Addr} {vl vu : Value} {lo hi : Option Int} {n : Nat} {Q : Int × Int × Nat → Shared → Prop} (hs : s.heap.IsSliceOf sl vl vu .none) (pl : IsPart vl lo) (pu : IsPart vu hi)
    (h : Q (((sIx n 0 lo : Nat) : Int), 1, sIx n n hi - sIx n 0 lo) s) : wpAny (model prog w) A (Builtin.Slice.sliceApplied (.ref sl) (pure (n : Int))) Q E s := by
  obtain ⟨os, hos, hcs, hds⟩ := id hs
  unfold Builtin.Slice.sliceApplied Builtin.Slice.sliceFields
  refine wpAny_bind (wpAny_bind (wpAny_field hos hds (x := vl) rfl (wpAny_bind (wpAny_field hos hds (x := vu) rfl (wpAny_bind (wpAny_field hos hds (x := .none) rfl (wpAny_pure ?_)))))))
  refine wpAny_bind (slicePart_none ?_)
  show wpAny _ _ (if ((1 : Int) == 0) = true then _ else _) _ _ s
  rw [if_neg (by decide)]
  refine wpAny_bind (slicePart_ pl (wpAny_bind (slicePart_ pu (wpAny_bind (wpAny_pure ?_)))))
  show wpAny _ _ (match Builtin.Slice.sliceAdjust lo hi 1 (n : Int) with | (lo, hi) => pure (lo, (1 : Int), Builtin.Slice.slicePlaces lo hi 1)) _ _ s
  rw [adjust_gen lo hi n]
  show wpAny _ _ (pure (((sIx n 0 lo : Nat) : Int), (1 : Int), Builtin.Slice.slicePlaces ((sIx n 0 lo : Nat) : Int) ((sIx n n hi : Nat) : Int) 1)) _ _ s
  rw [places_gen]
  exact wpAny_pure h
theorem pick_gen (xs : Array Value) (i k : Nat) : ((List.range k).filterMap fun (m : Nat) => xs[((i : Int) + (m : Int) * 1).toNat]?).toArray = ((xs.toList.drop i).take k).toArray := by
  have e : (fun (m : Nat) => xs[((i : Int) + (m : Int) * 1).toNat]?) = fun m => xs[i + m]? := by
    funext m
    have : ((i : Int) + (m : Int) * 1).toNat = i + m := by omega
    rw [this]
  rw [e]
  have := pick_run xs i k
  rw [List.filterMap_map] at this
  have e2 : ((fun x => xs[x]?) ∘ fun x => i + x) = fun m => xs[i + m]? := rfl
  rw [e2] at this
  rw [this]
theorem getItem_tuple_cut {t sl : Addr} {items : Array Value} {vl vu : Value} {lo hi : Option Int} {Q : Value → Shared → Prop} (ht : IsTup s.heap t items) (hs : s.heap.IsSliceOf sl vl vu .none) (pl : IsPart vl lo) (pu : IsPart vu hi)
    (hw : ¬ (sIx items.size 0 lo = 0 ∧ sIx items.size items.size hi = items.size))
    (h : Q (.ref s.heap.objs.size) { s with heap := s.heap.push { cls := .type "tuple", data := .seq ((items.toList.drop (sIx items.size 0 lo)).take (sIx items.size items.size hi - sIx items.size 0 lo)).toArray } })
    (hsz : items.size ≤ sizeLine) : wpAny (model prog w) A (getItem (.ref t) (.ref sl)) Q E s := by
  have htake : sizeOk (.seq ((items.toList.drop (sIx items.size 0 lo)).take (sIx items.size items.size hi - sIx items.size 0 lo)).toArray) := by
    show ((items.toList.drop (sIx items.size 0 lo)).take (sIx items.size items.size hi - sIx items.size 0 lo)).toArray.size ≤ sizeLine
    rw [List.size_toArray, List.length_take, List.length_drop, Array.length_toList]
    omega
  have hj : sIx items.size items.size hi ≤ items.size := sIx_le _ _ (Nat.le_refl _) hi
  obtain ⟨os, hos, hcs, hds⟩ := id hs
  have hTs : s.TypeIs (.ref sl) "slice" := ⟨os, hos, hcs⟩
  unfold getItem
  try with_reducible refine wpAny_holding ?_
  first | refine wpAny_bind (wpAny_pure ?_) | skip
  refine wpAny_bind (wpAny_sequenceKey ht.typeIs (by decide) ?_)
  refine wpAny_bind (wpAny_callSpecial?_slot (name := Str.ofString "__getitem__") ht.typeIs PyProof.Rows.slot_tuple_getitem
    (wpAny_call_entry PyProof.Rows.slot_tuple_getitem ht.typeIs entry_tuple_getitem ?_ (args_tuple_getitem _ _)))
  show wpAny _ _ (Builtin.Tuple.tupleItemsOf (.ref t) >>= _) _ _ s
  refine wpAny_bind (tupleItemsOf_ ht ?_)
  refine wpAny_bind (wpAny_typeOf hTs ?_)
  rw [if_pos (by decide)]
  refine wpAny_bind (sliceApplied_gen hs pl pu ?_)
  have hno : ¬ ((((sIx items.size 0 lo : Nat) : Int) == 0 && (1 : Int) == 1 && (sIx items.size items.size hi - sIx items.size 0 lo) == items.size) = true) := by
    intro q
    rw [Bool.and_eq_true, Bool.and_eq_true] at q
    have q1 : ((sIx items.size 0 lo : Nat) : Int) = 0 := eq_of_beq q.1.1
    have q2 : sIx items.size items.size hi - sIx items.size 0 lo = items.size := eq_of_beq q.2
    exact hw ⟨by omega, by omega⟩
  show wpAny _ _ (if (((sIx items.size 0 lo : Nat) : Int) == 0 && (1 : Int) == 1 && (sIx items.size items.size hi - sIx items.size 0 lo) == items.size) = true then _ else _) _ _ s
  rw [if_neg hno, pick_gen]
  first
    | exact wpAny_bind (m := Builtin.Tuple.tupleExact _) (wpAny_newObj_type (wpAny_pure ⟨_, rfl, wpAny_pure h⟩) htake)
    | exact wpAny_bind (m := Builtin.Tuple.tupleExact _) (wpAny_newObj_type (wpAny_bind (wpAny_pure (wpAny_pure ⟨_, rfl, wpAny_pure h⟩))) htake)
    | exact wpAny_bind (wpAny_bind (m := Builtin.Tuple.tupleExact _) (wpAny_newObj_type (wpAny_pure (wpAny_pure ⟨_, rfl, wpAny_pure h⟩)) htake))
    | exact wpAny_bind (wpAny_bind (m := Builtin.Tuple.tupleExact _) (wpAny_newObj_type (wpAny_pure ⟨_, rfl, wpAny_pure h⟩) htake))
end
end HT
namespace L2
open PySem PySem.Spec PyProof.Rows
noncomputable abbrev TO := St → Hp → (Option Int → Hp → Prop) → Prop
noncomputable def PO (X : Cx) (e : Option Expr) (t : TO) : Prop :=
  ∀ (pins : List (Addr × Obj)) (s : Shared) (σ : St) (H : Hp) (Q : Option Int → Hp → Prop), Inv X pins σ H s → t σ H Q →
    wpAny (model X.prog X.w) X.A (evalPart e X.env) (fun u s' => ∃ o H', Inv X pins σ H' s' ∧ IsPart u o ∧ Q o H') X.xe s
noncomputable def tNoPart : TO := fun _ H Q => Q none H
noncomputable def tPart (t : TE) : TO := fun σ H Q => t σ H fun x H1 => ∃ i, x = .int i ∧ Q (some i) H1
theorem intsAre_of {ns : List Int} : ∀ {us : List Value}, Vals (ns.map V.int) us → IntsAre us ns := by
  induction ns with
  | nil => intro us r; rw [List.map_nil] at r; cases r; exact .nil
  | cons n ns ih =>
    intro us r
    rw [List.map_cons] at r
    cases r with
    | cons r1 r2 =>
      obtain ⟨t, e⟩ := r1
      subst e
      exact .cons n t (ih r2)
section
variable {X : Cx} {e : Expr} {te : TE} {lo hi : Option Expr} {tl th : TO} {pos p2 : Pos}
theorem po_none : PO X none tNoPart := by
  intro pins s σ H Q I h
  rw [evalPart_none]
  exact wpAny_pure ⟨none, H, I, .none, h⟩
theorem po_some (h : PE X e te) : PO X (some e) (tPart te) := by
  intro pins s σ H Q I hw
  rw [evalPart_some]
  refine thn (h pins s σ H _ I hw) fun u s1 ⟨x, H1, I1, r1, q1⟩ => ?_
  obtain ⟨i, rfl, q⟩ := q1
  obtain ⟨t, rfl⟩ := r1
  exact ⟨some i, H1, I1, .int i t, q⟩
noncomputable def SlR (X : Cx) (r : V → Option Int → Option Int → Hp → VK → Prop) : Prop :=
  ∀ (pins : List (Addr × Obj)) (s : Shared) (σ : St) (H : Hp) (x : V) (v vl vu : Value) (lo hi : Option Int) (sl : Addr) (Q : VK), Inv X pins σ H s → RelV x v → s.heap.IsSliceOf sl vl vu .none → IsPart vl lo → IsPart vu hi → r x lo hi H Q →
    ∃ T id, typeLookup (.type T) "__getitem__" = pure (some (.builtin id)) ∧ s.TypeIs v T ∧ wpAny (model X.prog X.w) X.A (getItem v (.ref sl)) (EP X pins σ Q) X.xe s
noncomputable def tSl (r : V → Option Int → Option Int → Hp → VK → Prop) (te : TE) (tl th : TO) : TE := fun σ H Q => te σ H fun x H1 => tl σ H1 fun l H2 => th σ H2 fun u H3 => r x l u H3 Q
theorem pe_slice {r : V → Option Int → Option Int → Hp → VK → Prop} (hr : SlR X r) (he : PE X e te) (hl : PO X lo tl) (hu : PO X hi th) : PE X (.Subscript e (.Slice lo hi none p2) pos) (tSl r te tl th) := by
  intro pins s σ H Q I h
  refine Subscript_ (thn (he pins s σ H _ I h) fun v s1 ⟨x, H1, I1, r1, q1⟩ => ?_)
  refine wpAny_Slice (thn (hl pins s1 σ H1 _ I1 q1) fun vl s2 ⟨l, H2, I2, pl, q2⟩ => thn (hu pins s2 σ H2 _ I2 q2) fun vu s3 ⟨u, H3, I3, pu, q3⟩ => ?_)
  rw [evalPart_none]
  refine wpAny_pure ?_
  have I4 : Inv X pins σ H3 { s3 with heap := s3.heap.push { cls := .type "slice", data := .fields #[vl, vu, .none] } } := I3.kept (t' := s3.toks) fun b ob q => Heap.get?_push_of_some _ q
  obtain ⟨T, id, hT, ht, hg⟩ := hr pins { s3 with heap := s3.heap.push { cls := .type "slice", data := .fields #[vl, vu, .none] } } σ H3 x v vl vu l u s3.heap.objs.size Q I4 r1 (Heap.IsSliceOf.new ..) pl pu q3
  show wpAny (model X.prog X.w) X.A (subscriptTail e (.Slice lo hi none p2) v (.ref s3.heap.objs.size)) (EP X pins σ Q) X.xe { s3 with heap := s3.heap.push { cls := .type "slice", data := .fields #[vl, vu, .none] } }
  exact tail_any (ops := [.ref s3.heap.objs.size, v]) ht hT hg (by with_unfolding_all rfl)
noncomputable def cutV (xs : List V) (lo hi : Option Int) : List V := (xs.drop (HT.sIx xs.length 0 lo)).take (HT.sIx xs.length xs.length hi - HT.sIx xs.length 0 lo)
theorem cutV_length (xs : List V) (lo hi : Option Int) : (cutV xs lo hi).length ≤ xs.length := by
  unfold cutV
  rw [List.length_take, List.length_drop]
  omega
noncomputable def rSlT (K : PySem.W.Frag) : V → Option Int → Option Int → Hp → VK → Prop := fun x lo hi H Q => ∃ a xs, x = .ref a ∧ SqT K H a xs ∧
  ¬ (HT.sIx xs.length 0 lo = 0 ∧ HT.sIx xs.length xs.length hi = xs.length) ∧ ∀ p, H p = none → Q (.ref p) (upd H p (.tup (cutV xs lo hi)))
theorem sl_tup : SlR X (rSlT X.K) := by
  intro pins s σ H x v vl vu lo hi sl Q I rx hs pl pu h
  obtain ⟨a, xs, rfl, hx, hw, q⟩ := h
  cases rx
  obtain ⟨its, r, ht, hz⟩ := I.tuple hx
  have hlen : its.toArray.size = xs.length := by rw [List.size_toArray]; exact r.length.symm
  refine ⟨"tuple", _, PyProof.Rows.slot_tuple_getitem.lookup, ht.typeIs, ?_⟩
  refine HT.getItem_tuple_cut ht hs pl pu (by rw [hlen]; exact hw) ?_ (by rw [hlen]; exact hz)
  rw [hlen]
  refine ⟨.ref s.heap.objs.size, _, I.laid (t' := s.toks) (o := .tup (cutV xs lo hi)) (fun b ob q => Heap.get?_push_of_some _ q) (Nat.le_refl _) ?_, rfl, q _ (I.hok.fresh (Nat.le_refl _))⟩
  exact ⟨Nat.le_trans (cutV_length xs lo hi) hz, _, (r.drop (HT.sIx xs.length 0 lo)).take (HT.sIx xs.length xs.length hi - HT.sIx xs.length 0 lo), IsTup.new _ _⟩
end
end L2
namespace L2
open PySem PySem.Spec PyProof.Rows
noncomputable def ixN (n : Nat) (i : Int) : Option Nat := if 0 ≤ i then (if i < n then some i.toNat else none) else if -(n : Int) ≤ i then some (i + n).toNat else none
noncomputable def atI {α : Type} (xs : List α) (i : Int) : Option α := (ixN xs.length i).bind fun j => xs[j]?
theorem ixN_seq {n : Nat} {i : Int} {j : Nat} (h : ixN n i = some j) : seqIndex? i n = some j ∧ j < n ∧ -(n : Int) ≤ i ∧ i < n := by
  unfold ixN at h
  by_cases h0 : 0 ≤ i
  · rw [if_pos h0] at h
    by_cases h1 : i < n
    · rw [if_pos h1] at h
      have e : i.toNat = j := Option.some.inj h
      exact ⟨by rw [seqIndex_of h0 h1, e], by omega, by omega, h1⟩
    · rw [if_neg h1] at h; cases h
  · rw [if_neg h0] at h
    by_cases h1 : -(n : Int) ≤ i
    · rw [if_pos h1] at h
      have e : (i + n).toNat = j := Option.some.inj h
      exact ⟨by rw [seqIndex_neg (by omega) h1, e], by omega, h1, by omega⟩
    · rw [if_neg h1] at h; cases h
theorem atI_get {α : Type} {xs : List α} {i : Int} {v : α} (h : atI xs i = some v) : ∃ j, seqIndex? i xs.length = some j ∧ xs[j]? = some v ∧ j < xs.length ∧ -(xs.length : Int) ≤ i ∧ i < xs.length := by
  unfold atI at h
  cases e : ixN xs.length i with
  | none => rw [e] at h; cases h
  | some j =>
    rw [e] at h
    obtain ⟨h1, h2, h3, h4⟩ := ixN_seq e
    exact ⟨j, h1, h, h2, h3, h4⟩
theorem atI_nat {α : Type} {xs : List α} {j : Nat} {v : α} (h : xs[j]? = some v) : atI xs (j : Int) = some v := by
  have hj : j < xs.length := (List.getElem?_eq_some_iff.mp h).1
  have e : ixN xs.length (j : Int) = some j := by
    unfold ixN
    rw [if_pos (by omega), if_pos (by omega)]; simp
  unfold atI; rw [e]; exact h
noncomputable def PlainIx (b : Expr) : Prop := ∀ o i, subscripted b false o i = operate [o, i] (getItem o i)
noncomputable def IxR (X : Cx) (r : R2) : Prop :=
  ∀ (value slice : Expr) (pins : List (Addr × Obj)) (s : Shared) (σ : St) (H : Hp) (x y : V) (v u : Value) (Q : VK), Inv X pins σ H s → RelV x v → RelV y u → r x y H Q →
    subscripted slice false v u = operate [v, u] (getItem v u) → wpAny (model X.prog X.w) X.A (subscriptTail value slice v u) (EP X pins σ Q) X.xe s
noncomputable def MtR (X : Cx) (id : String) (r : V → List V → Hp → VK → Prop) : Prop :=
  ∀ (pins : List (Addr × Obj)) (s : Shared) (σ : St) (H : Hp) (x : V) (xs : List V) (v : Value) (us : List Value) (Q : VK), Inv X pins σ H s → RelV x v → Vals xs us → r x xs H Q →
    wpAny (model X.prog X.w) X.A (call (.builtin id) (v :: us)) (EP X pins σ Q) X.xe s
section
variable {X : Cx} {a b : Expr} {ta tb : TE} {pos : Pos}
theorem pe_ix {r : R2} (hr : IxR X r) (ha : PE X a ta) (hb : PE X b tb) (hs : PlainIx b) : PE X (.Subscript a b pos) (tOp r ta tb) := by
  intro pins s σ H Q I h
  exact Subscript_ (binT ha hb I h fun v u s2 x y H2 I2 rx ry q => hr a b pins s2 σ H2 x y v u Q I2 rx ry q (hs _ _))
noncomputable def rIxL (K : PySem.W.Frag) : R2 := fun x y H Q => ∃ p xs i v, x = .ref p ∧ y = .int i ∧ SqL K H p xs ∧ atI xs i = some v ∧ Q v H
noncomputable def rIxT (K : PySem.W.Frag) : R2 := fun x y H Q => ∃ p xs i v, x = .ref p ∧ y = .int i ∧ SqT K H p xs ∧ atI xs i = some v ∧ Q v H
theorem ix_list : IxR X (rIxL X.K) := by
  intro value slice pins s σ H x y v u Q I rx ry h hs
  obtain ⟨p, xs, i, z, rfl, rfl, hq, he, q⟩ := h
  cases rx
  obtain ⟨t, rfl⟩ := ry
  obtain ⟨its, r, pl, hz⟩ := I.list hq
  obtain ⟨j, h1, h2, h3, h4, h5⟩ := atI_get he
  obtain ⟨w, ew, rw'⟩ := r.get h2
  have hl := r.length
  have hn := line63
  have fin : EP X pins σ Q w s := ⟨z, H, I, rw', q⟩
  by_cases h0 : 0 ≤ i
  · have hj : i.toNat = j := by
      rw [seqIndex_of h0 h5] at h1
      exact Option.some.inj h1
    exact item_listR pl.isList h0 (by omega) (by rw [hj]; simpa using ew) fin hs
  · have hj : (i + (its.toArray.size : Int)).toNat = j := by
      rw [seqIndex_neg (by omega) h4] at h1
      rw [List.size_toArray, ← hl]
      exact Option.some.inj h1
    exact subscriptTail_builtinR (x := w) pl.isList.typeIs slot_list_getitem.lookup
      (wpAny_getItem_list_neg (Q := fun r s' => r = w ∧ EP X pins σ Q r s') pl.isList (by omega) (by rw [List.size_toArray] <;> omega) (by omega) (by rw [hj]; simpa using ew) ⟨rfl, fin⟩) hs
theorem ix_tup : IxR X (rIxT X.K) := by
  intro value slice pins s σ H x y v u Q I rx ry h hs
  obtain ⟨p, xs, i, z, rfl, rfl, hq, he, q⟩ := h
  cases rx
  obtain ⟨t, rfl⟩ := ry
  obtain ⟨its, r, pl, hz⟩ := I.tuple hq
  obtain ⟨j, h1, h2, h3, h4, h5⟩ := atI_get he
  obtain ⟨w, ew, rw'⟩ := r.get h2
  have hl := r.length
  have hn := line63
  have fin : EP X pins σ Q w s := ⟨z, H, I, rw', q⟩
  exact subscriptTail_builtinR (x := w) pl.typeIs slot_tuple_getitem.lookup
    (getItem_tuple (j := j) (Q := fun r s' => r = w ∧ EP X pins σ Q r s') pl (by omega) (by omega) (by rw [List.size_toArray, ← hl]; exact h1) (by simpa using ew) ⟨rfl, fin⟩) hs
theorem mapSeq_set (its : List Value) (n j : Nat) (u : Value) : Obj.mapSeq (·.setIfInBounds j u) { cls := .type "list", data := .seq its.toArray n } = { cls := .type "list", data := .seq (its.set j u).toArray n } := by
  simp [Obj.mapSeq]
theorem Inv.lst {pins : List (Addr × Obj)} {σ : St} {H : Hp} {s : Shared} {p : Addr} {xs : List V} (I : Inv X pins σ H s) (h : H p = some (.lst xs)) :
    ∃ (its : List Value) (n : Nat), Vals xs its ∧ s.heap.get? p = some { cls := .type "list", data := .seq its.toArray n } ∧ xs.length ≤ sizeLine := by
  obtain ⟨z, its, n, r, e⟩ := I.hok p _ h
  exact ⟨its, n, r, e, z⟩
theorem Inv.lstUpd {pins : List (Addr × Obj)} {σ : St} {H : Hp} {s : Shared} {p : Addr} {xs ys : List V} {its its' : List Value} {n n' : Nat} {f : Obj → Obj} (I : Inv X pins σ H s) (h : H p = some (.lst xs))
    (ho : s.heap.get? p = some { cls := .type "list", data := .seq its.toArray n }) (hf : f { cls := .type "list", data := .seq its.toArray n } = { cls := .type "list", data := .seq its'.toArray n' }) (r : Vals ys its') (hz : ys.length ≤ sizeLine) (t : Nat) :
    Inv X pins σ (upd H p (.lst ys)) { s with heap := s.heap.update p f, toks := t } := by
  have e : (s.heap.update p f).get? p = some { cls := .type "list", data := .seq its'.toArray n' } := by
    rw [Heap.get?_update_self f ho (by rw [hf] <;> rfl), hf]
  refine I.write (x := p) (e := p) (by rw [h]; trivial) (.inl rfl) (fun b u hb q => (Heap.get?_update_other _ _ (Ne.symm hb)).trans q) ⟨_, e⟩ ?_
  exact ⟨hz, its', n', r, e⟩
noncomputable def rSetL : V → V → V → Hp → (Hp → Prop) → Prop := fun o i v H Q => ∃ p xs k j, o = .ref p ∧ i = .int k ∧ H p = some (.lst xs) ∧ ixN xs.length k = some j ∧ Q (upd H p (.lst (xs.set j v)))
theorem set_list : PSet X rSetL := by
  intro pins s σ H o i v ov iv u Q I ro ri rv h
  obtain ⟨p, xs, k, j, rfl, rfl, hp, hj, q⟩ := h
  cases ro
  obtain ⟨t, rfl⟩ := ri
  obtain ⟨its, n, r, ho, hz⟩ := I.lst hp
  obtain ⟨h1, h2, h3, h4⟩ := ixN_seq hj
  have hl := r.length
  have hn := line63
  have I' : Inv X pins σ (upd H p (.lst (xs.set j v))) { s with heap := s.heap.update p (Obj.mapSeq (·.setIfInBounds j u)) } :=
    I.lstUpd hp ho (mapSeq_set its n j u) (r.set rv j) (by rw [List.length_set]; exact hz) s.toks
  by_cases h0 : 0 ≤ k
  · have hk : k.toNat = j := by
      rw [seqIndex_of h0 h4] at h1
      exact Option.some.inj h1
    exact PySem.W.ki_setAt ho h0 (by omega) (by rw [List.size_toArray, ← hl]; exact h4) (by rw [hk]; exact ⟨_, I', q⟩)
  · have hk : (k + (its.toArray.size : Int)).toNat = j := by
      rw [seqIndex_neg (by omega) h3] at h1
      rw [List.size_toArray, ← hl]
      exact Option.some.inj h1
    exact PySem.W.ki_setBack ho (by omega) (by rw [List.size_toArray, ← hl]; exact h3) (by omega) (by rw [hk]; exact ⟨_, I', q⟩)
theorem slice_bounds (lo hi : Option Int) (n : Nat) : (sliceBounds lo hi none n).1 = ((HT.sIx n 0 lo : Nat) : Int) ∧ (sliceBounds lo hi none n).2.1 = ((HT.sIx n n hi : Nat) : Int) ∧ (sliceBounds lo hi none n).2.2 = 1 := by
  refine ⟨?_, ?_, rfl⟩
  · cases lo with
    | none => simp [sliceBounds, HT.sIx]
    | some i =>
      simp only [sliceBounds, HT.sIx, Option.getD_none, show (1 : Int) > 0 by decide, if_true]
      by_cases h : i < 0
      · simp only [h, if_true] <;> omega
      · simp only [h, if_false] <;> omega
  · cases hi with
    | none => simp [sliceBounds, HT.sIx]
    | some i =>
      simp only [sliceBounds, HT.sIx, Option.getD_none, show (1 : Int) > 0 by decide, if_true]
      by_cases h : i < 0
      · simp only [h, if_true] <;> omega
      · simp only [h, if_false] <;> omega
theorem slicePick_cut (its : List Value) (lo hi : Option Int) : slicePick its.toArray lo hi none = ((its.drop (HT.sIx its.length 0 lo)).take (HT.sIx its.length its.length hi - HT.sIx its.length 0 lo)).toArray := by
  obtain ⟨h1, h2, h3⟩ := slice_bounds lo hi its.toArray.size
  unfold slicePick
  rw [h1, h2, h3]
  simp only [sliceRange_one, pick_run, List.size_toArray] <;> rfl
noncomputable def rSlL (K : PySem.W.Frag) : V → Option Int → Option Int → Hp → VK → Prop := fun x lo hi H Q => ∃ a xs, x = .ref a ∧ SqL K H a xs ∧ ∀ p, H p = none → Q (.ref p) (upd H p (.lst (cutV xs lo hi)))
theorem sl_list : SlR X (rSlL X.K) := by
  intro pins s σ H x v vl vu lo hi sl Q I rx hs pl pu h
  obtain ⟨a, xs, rfl, hx, q⟩ := h
  cases rx
  obtain ⟨its, r, ht, hz⟩ := I.list hx
  have hlen := r.length
  refine ⟨"list", _, slot_list_getitem.lookup, ht.isList.typeIs, ?_⟩
  refine wpAny_getItem_list_slice ht.isList hs pl pu .none (by simp) ?_ (by rw [List.size_toArray] <;> omega)
  rw [slicePick_cut, ← hlen]
  refine ⟨.ref s.heap.objs.size, _, I.laid (t' := s.toks) (o := .lst (cutV xs lo hi)) (fun b ob q => Heap.get?_push_of_some _ q) (Nat.le_refl _) ?_, rfl, q _ (I.hok.fresh (Nat.le_refl _))⟩
  exact ⟨Nat.le_trans (cutV_length xs lo hi) hz, _, 0, (r.drop (HT.sIx xs.length 0 lo)).take (HT.sIx xs.length xs.length hi - HT.sIx xs.length 0 lo), Heap.get?_push_size _ rfl⟩
theorem call_len_seq : CallR X (.builtin "len") (fun xs H Q => ∃ p ys, xs = [.ref p] ∧ (SqL X.K H p ys ∨ SqT X.K H p ys) ∧ Q (.int ys.length) H) := by
  intro pins s σ H xs us Q I r h
  obtain ⟨p, ys, rfl, hq, q⟩ := h
  obtain ⟨u, rfl, rx⟩ := vals1 r
  cases rx
  have hn := line63
  rcases hq with hq | hq
  · obtain ⟨its, r', pl, hz⟩ := I.list hq
    have hlen := r'.length
    exact Calls.call_len_list pl.isList (by simp only [List.size_toArray] <;> omega) ⟨.int ys.length, H, I.tok _, ⟨s.toks + 1, by rw [List.size_toArray, hlen]⟩, q⟩
  · obtain ⟨its, r', pl, hz⟩ := I.tuple hq
    have hlen := r'.length
    exact len_tuple pl (by simp only [List.size_toArray] <;> omega) ⟨.int ys.length, H, I.tok _, ⟨s.toks + 1, by rw [List.size_toArray, hlen]⟩, q⟩
theorem call_tuple_of : CallR X (.type "tuple") (fun xs H Q => ∃ p ys, xs = [.ref p] ∧ ((SqL X.K H p ys ∧ ∀ l, H l = none → Q (.ref l) (upd H l (.tup ys))) ∨ (SqT X.K H p ys ∧ Q (.ref p) H))) := by
  intro pins s σ H xs us Q I r h
  obtain ⟨p, ys, rfl, h⟩ := h
  obtain ⟨u, rfl, rx⟩ := vals1 r
  cases rx
  rcases h with ⟨hq, q⟩ | ⟨hq, q⟩
  · obtain ⟨its, r', pl, hz⟩ := I.list hq
    have hlen := r'.length
    refine call_tuple_list pl.isList (fun h' kp => ?_) (by simp only [List.size_toArray] <;> omega)
    have I1 : Inv X pins σ H { s with heap := h' } := I.kept (t' := s.toks) kp
    have I2 : Inv X pins σ (upd H h'.objs.size (.tup ys)) { s with heap := h'.push { cls := .type "tuple", data := .seq its.toArray } } :=
      I1.laid (t' := s.toks) (fun b o e => Heap.get?_push_of_some _ e) (Nat.le_refl _) (show ObjOk X.prog X.w _ _ _ (.tup ys) from ⟨hz, its, r', IsTup.new _ _⟩)
    exact ⟨.ref h'.objs.size, _, I2, rfl, q _ (I1.hok.fresh (Nat.le_refl _))⟩
  · obtain ⟨its, r', pl, hz⟩ := I.tuple hq
    exact call_tuple_same pl ⟨.ref p, H, I, rfl, q⟩
noncomputable def tyV (K : PySem.W.Frag) (T : String) (x : V) (H : Hp) : Prop := match x with
  | .str _ => T = "str"
  | .int _ => T = "int"
  | .ref p => (T = "list" ∧ ∃ xs, SqL K H p xs) ∨ (T = "tuple" ∧ ∃ o, K.lookup p = some o ∧ o.cls = .type "tuple" ∧ o.dict = none) ∨
      (T = "dict" ∧ ((∃ kvs, H p = some (.dK kvs)) ∨ ∃ kvs, H p = some (.dT kvs))) ∨ (T = "set" ∧ ∃ S n, H p = some (.set S n))
  | _ => False
theorem tyV_is {pins : List (Addr × Obj)} {σ : St} {H : Hp} {s : Shared} {T : String} {x : V} {v : Value} (I : Inv X pins σ H s) (r : RelV x v) (ty : tyV X.K T x H) :
    s.TypeIs v T ∧ ∀ a, v = .ref a → ∃ ob, s.heap.get? a = some ob ∧ ob.dict = none := by
  cases x with
  | str z =>
    obtain ⟨t, rfl⟩ := r
    cases (show T = "str" from ty)
    exact ⟨typeIs_str s z t, fun _ e => nomatch e⟩
  | int i =>
    obtain ⟨t, rfl⟩ := r
    cases (show T = "int" from ty)
    exact ⟨typeIs_int s i t, fun _ e => nomatch e⟩
  | ref p =>
    cases r
    rcases ty with ⟨rfl, xs, hq⟩ | ⟨rfl, o, hk, hc, hd⟩ | ⟨rfl, hk⟩ | ⟨rfl, S, n, hk⟩
    · obtain ⟨its, _, pl, _⟩ := I.list hq
      refine ⟨pl.isList.typeIs, fun a e => ?_⟩
      cases e
      obtain ⟨o, n, e, c, hd, _⟩ := pl
      exact ⟨o, e, hd⟩
    · refine ⟨⟨o, I.kIn p o hk, hc⟩, fun a e => ?_⟩
      cases e
      exact ⟨o, I.kIn _ o hk, hd⟩
    · have z : ∃ o, s.heap.get? p = some o ∧ o.ExactDict := by
        rcases hk with ⟨kvs, hk⟩ | ⟨kvs, hk⟩
        · obtain ⟨_, _, _, _, o, _, _, e, ex, _⟩ := I.hok p _ hk
          exact ⟨o, e, ex⟩
        · obtain ⟨_, _, _, _, o, _, _, e, ex, _⟩ := I.hok p _ hk
          exact ⟨o, e, ex⟩
      obtain ⟨o, e, ex⟩ := z
      refine ⟨⟨o, e, ex.1⟩, fun a e2 => ?_⟩
      cases e2
      exact ⟨o, e, ex.2.1⟩
    · obtain ⟨o, _, _, _, e, ex, _⟩ := I.hok p _ hk
      refine ⟨⟨o, e, ex.1⟩, fun a e2 => ?_⟩
      cases e2
      exact ⟨o, e, ex.2.1⟩
  | _ => exact False.elim ty
noncomputable def tBM (K : PySem.W.Frag) (T : String) (r : V → List V → Hp → VK → Prop) (to : TE) (t : TA) : TE := fun σ H Q => to σ H fun x H1 => tyV K T x H1 ∧ t σ H1 fun xs H2 => r x xs H2 Q
variable {o e : Expr} {es : List Expr} {to : TE} {t : TA} {name : Str} {apos cpos : Pos} {T id : String} {r : V → List V → Hp → VK → Prop}
theorem pe_bm (pa : PlainAttrs T) (slot : Slot T name id) (hty : typeOf (.builtin id) = pure (.type "method_descriptor")) (hm : MtR X id r) (ho : PE X o to) (ha : PA X (e :: es) t)
    (hbase : attributeBase o name X.env (eval o X.env) = eval o X.env := by rfl)
    (hfew : ((backTo cpos (starEach (e :: es) X.env)).all (fun x => !x.1) && (backToKw cpos (keywordEach [] X.env)).all (fun x => x.1.isSome)
      && decide ((e :: es).length + ([] : List Keyword).length + (if ([] : List Keyword).isEmpty then 0 else 1) < 30)) = true := by rfl)
    (hline : (apos.endLine == cpos.line) = true := by rfl) (hs : starEach (e :: es) X.env = (false, eval e X.env) :: starEach es X.env := by rfl) (hplain : (backTo cpos (starEach es X.env)).any (·.1) = false := by rfl) :
    PE X (.Call (.Attribute o name apos) (e :: es) [] cpos) (tBM X.K T r to t) := by
  intro pins s σ H Q I h
  refine wpAny_Call_method_late hbase hfew hline rfl (thn (ho pins s σ H _ I h) fun v s1 ⟨x, H1, I1, r1, ty, q1⟩ => ?_)
  obtain ⟨h1, h2⟩ := tyV_is I1 r1 ty
  refine ⟨T, id, pa, slot, hty, h1, h2, ?_⟩
  have hA := ha cpos pins s1 σ H1 _ I1 q1
  rw [hs] at hA ⊢
  refine Calls.callWith_builtin (by show (false || (backTo cpos (starEach es X.env)).any (·.1)) = false; rw [hplain] <;> rfl) (Calls.evalArgs_plain ?_)
  exact thn hA fun us s2 ⟨vs, H2, I2, r2, q2⟩ => hm pins s2 σ H2 x vs v us Q I2 r1 r2 q2
end
end L2
namespace L2
open PySem PySem.Spec PyProof.Rows
noncomputable def MtM (X : Cx) (id : String) (r : V → List V → Hp → VK → Prop) : Prop :=
  ∀ (pins : List (Addr × Obj)) (s : Shared) (σ : St) (H : Hp) (x : V) (xs : List V) (v : Value) (us : List Value) (Q : VK), Inv X pins σ H s → RelV x v → Vals xs us → r x xs H Q →
    wpAny (model X.prog X.w) X.A (call (.builtin id) (v :: us)) (EP X pins σ Q) X.xe s
theorem Vals.one : ∀ {x : V} {us : List Value}, Vals [x] us → ∃ u, us = [u] ∧ RelV x u := fun h => by
  cases h with
  | cons r t =>
    cases t
    exact ⟨_, rfl, r⟩
theorem Vals.rep {xs : List V} {us : List Value} (h : Vals xs us) : ∀ k : Nat, Vals (List.replicate k xs).flatten (List.replicate k us).flatten
  | 0 => .nil
  | k + 1 => by
    rw [List.replicate_succ, List.replicate_succ, List.flatten_cons, List.flatten_cons]
    exact Vals.append h (Vals.rep h k)
theorem foldl_rep (its : List Value) : ∀ (k : Nat) (acc : List Value),
    List.foldl (fun x1 x2 => x1 ++ x2) acc.toArray (List.replicate k its.toArray) = (acc ++ (List.replicate k its).flatten).toArray
  | 0, acc => by simp
  | k + 1, acc => by
    have e : acc.toArray ++ its.toArray = (acc ++ its).toArray := by simp
    have e2 : (acc ++ its) ++ (List.replicate k its).flatten = acc ++ (List.replicate (k + 1) its).flatten := by
      rw [List.replicate_succ, List.flatten_cons, List.append_assoc]
    rw [← e2, ← foldl_rep its k (acc ++ its), ← e, List.replicate_succ, List.foldl_cons]
section
variable {X : Cx} {pins : List (Addr × Obj)} {σ : St} {H : Hp} {s : Shared} {l b : Addr} {xs ys zs : List V}
theorem Inv.lset {its its' : List Value} {n : Nat} {f : Array Value → Array Value} {t' : Nat} (I : Inv X pins σ H s) (hH : H l = some (.lst xs))
    (e : s.heap.get? l = some { cls := .type "list", data := .seq its.toArray n }) (hf : f its.toArray = its'.toArray) (hv : Vals ys its') (hz : ys.length ≤ sizeLine) :
    Inv X pins σ (upd H l (.lst ys)) { s with heap := s.heap.update l (Obj.mapSeq f), toks := t' } := by
  have q := PySem.IsL.update e f
  rw [hf] at q
  refine I.write (x := l) (e := l) (by rw [hH]; exact trivial) (.inl rfl) (fun b' u hb hu => (Heap.get?_update_other s.heap (Obj.mapSeq f) (Ne.symm hb)).trans hu) ⟨_, q⟩ ?_
  exact ⟨hz, its', _, hv, q⟩
theorem Inv.lnew {its : List Value} {t' : Nat} (I : Inv X pins σ H s) (hv : Vals ys its) (hz : ys.length ≤ sizeLine) :
    Inv X pins σ (upd H s.heap.objs.size (.lst ys)) { s with heap := s.heap.push { cls := .type "list", data := .seq its.toArray }, toks := t' } :=
  I.laid (fun _ _ q => Heap.get?_push_of_some _ q) (Nat.le_refl _) ⟨hz, its, 0, hv, Heap.get?_push_size _ rfl⟩
theorem Inv.fresh (I : Inv X pins σ H s) : H s.heap.objs.size = none := I.hok.fresh (Nat.le_refl _)
theorem Inv.lstM (I : Inv X pins σ H s) (hH : H l = some (.lst xs)) : xs.length ≤ sizeLine ∧ ∃ (its : List Value) (n : Nat), Vals xs its ∧ xs.length = its.length ∧ s.heap.get? l = some { cls := .type "list", data := .seq its.toArray n } := by
  obtain ⟨z, its, n, r, e⟩ := I.hok l _ hH
  exact ⟨z, its, n, r, r.length, e⟩
theorem notLongL {n : Nat} (h : n ≤ sizeLine) : Builtin.List.listTooLong n = false := by
  unfold Builtin.List.listTooLong
  exact decide_eq_false (by omega)
end
section
variable {X : Cx}
noncomputable def rAppend : V → List V → Hp → VK → Prop := fun x vs H Q => ∃ l xs y, x = .ref l ∧ vs = [y] ∧ H l = some (.lst xs) ∧ xs.length < sizeLine ∧ Q .non (upd H l (.lst (xs ++ [y])))
theorem mt_append : MtM X "list.append" rAppend := by
  intro pins s σ H x vs v us Q I rx rv h
  obtain ⟨l, xs, y, rfl, rfl, hH, hz, q⟩ := h
  cases rx
  obtain ⟨u, rfl, ru⟩ := rv.one
  obtain ⟨z, its, n, r, hl, e⟩ := I.lstM hH
  refine call_meets F.slot_list_append ⟨_, e, rfl⟩ F.entry_list_append (F.args_list_append_2 _ _) (PySem.list_append l its.toArray n u (by rw [List.size_toArray]; omega)) ⟨e, ?_⟩
  refine ⟨.non, _, I.lset (its' := its ++ [u]) hH e (by simp) (r.append (.cons ru .nil)) ?_, rfl, q⟩
  rw [List.length_append, List.length_singleton]
  omega
noncomputable def rExtend : V → List V → Hp → VK → Prop := fun x vs H Q => ∃ l b xs zs, x = .ref l ∧ vs = [.ref b] ∧ H l = some (.lst xs) ∧ H b = some (.lst zs) ∧ xs.length + zs.length ≤ sizeLine ∧ Q .non (upd H l (.lst (xs ++ zs)))
theorem mt_extend : MtM X "list.extend" rExtend := by
  intro pins s σ H x vs v us Q I rx rv h
  obtain ⟨l, b, xs, zs, rfl, rfl, hH, hB, hz, q⟩ := h
  cases rx
  obtain ⟨u, rfl, ru⟩ := rv.one
  cases ru
  obtain ⟨z, its, n, r, hl, e⟩ := I.lstM hH
  obtain ⟨z2, its2, n2, r2, hl2, e2⟩ := I.lstM hB
  have hsz : its.toArray.size + its2.toArray.size ≤ sizeLine := by rw [List.size_toArray, List.size_toArray]; omega
  have hlong : ¬ (!its.toArray.isEmpty && Builtin.List.listTooLong (its.toArray.size + its2.toArray.size)) = true := by
    rw [notLongL hsz, Bool.and_false]
    exact Bool.false_ne_true
  refine call_meets F.slot_list_extend ⟨_, e, rfl⟩ F.entry_list_extend (F.args_list_extend_2 _ _)
    (AutoSeq1.list_extend_list_list_0 l its.toArray n b its2.toArray n2 hlong (by rw [List.size_toArray]; omega) (by omega)) ⟨e, e2, ?_⟩
  refine ⟨.non, _, I.lset (its' := its ++ its2) hH e (by simp) (r.append r2) ?_, rfl, q⟩
  rw [List.length_append]
  omega
noncomputable def rCat : R2 := fun x y H Q => ∃ l b xs zs, x = .ref l ∧ y = .ref b ∧ H l = some (.lst xs) ∧ H b = some (.lst zs) ∧ xs.length + zs.length ≤ sizeLine ∧ ∀ p, H p = none → Q (.ref p) (upd H p (.lst (xs ++ zs)))
theorem op_cat : OpR X (binaryOp .Add) rCat := by
  intro pins s σ H x y v u Q I rx ry h
  obtain ⟨l, b, xs, zs, rfl, rfl, hH, hB, hz, q⟩ := h
  cases rx
  cases ry
  obtain ⟨z, its, n, r, hl, e⟩ := I.lstM hH
  obtain ⟨z2, its2, n2, r2, hl2, e2⟩ := I.lstM hB
  refine PySem.P.add_list e e2 ?_ (by rw [List.size_toArray, List.size_toArray]; omega)
  have ea : its.toArray ++ its2.toArray = (its ++ its2).toArray := by simp
  rw [ea]
  exact ⟨.ref _, _, I.lnew (t' := s.toks) (r.append r2) (by rw [List.length_append]; omega), rfl, q _ I.fresh⟩
noncomputable def rRep : R2 := fun x y H Q => ∃ l k xs, x = .ref l ∧ y = .int k ∧ H l = some (.lst xs) ∧ -(2 ^ 63) ≤ k ∧ k < 2 ^ 63 ∧ xs.length * k.toNat ≤ sizeLine ∧
  ∀ p, H p = none → Q (.ref p) (upd H p (.lst (List.replicate k.toNat xs).flatten))
theorem len_rep {α : Type} (xs : List α) (k : Nat) : (List.replicate k xs).flatten.length = k * xs.length := by
  induction k with
  | zero => simp
  | succ k ih => rw [List.replicate_succ, List.flatten_cons, List.length_append, ih, Nat.succ_mul, Nat.add_comm]
theorem op_rep : OpR X (binaryOp .Mult) rRep := by
  intro pins s σ H x y v u Q I rx ry h
  obtain ⟨l, k, xs, rfl, rfl, hH, h1, h2, hz, q⟩ := h
  cases rx
  obtain ⟨t, rfl⟩ := ry
  obtain ⟨z, its, n, r, hl, e⟩ := I.lstM hH
  have hlen : its.toArray.size * k.toNat ≤ sizeLine := by rw [List.size_toArray, ← hl]; exact hz
  have hcap : ¬ its.toArray.size * k.toNat > (2 ^ 63 - 1) / 8 := by
    have : (sizeLine : Nat) ≤ (2 ^ 63 - 1) / 8 := by decide
    omega
  have hfit : ¬ (!Builtin.List.listFitsIndex k) = true := by
    rw [fitsIndex_both h1 h2]
    exact Bool.false_ne_true
  have hlong : ¬ Builtin.List.listTooLong (its.toArray.size * k.toNat) = true := by
    rw [notLongL hlen]
    exact Bool.false_ne_true
  have hnew : List.foldl (fun x1 x2 => x1 ++ x2) #[] (List.replicate (if its.toArray.isEmpty = true then 0 else k.toNat) its.toArray) = (List.replicate k.toNat its).flatten.toArray := by
    have f0 : ∀ m : Nat, List.foldl (fun x1 x2 => x1 ++ x2) #[] (List.replicate m its.toArray) = (List.replicate m its).flatten.toArray := fun m => by
      have := foldl_rep its m []
      rw [List.nil_append] at this
      exact this
    rw [f0]
    cases its with
    | nil => simp
    | cons a r' => rw [if_neg (by simp)]
  refine wpAny_binaryOp_repeat_ref (T := "list") (U := "int") (by decide) ⟨_, e, rfl⟩ (fun s' => typeIs_int s' k t) noFill_list_mul F.fills_int_mul F.slot_int_rmul repeat_list F.slot_int_index.lookup
    (call_meets F.slot_int_rmul (typeIs_int s k t) F.entry_int_rmul (F.args_int_rmul_2 _ _) (int___rmul___int_list k t l its.toArray n)
      ⟨e, rfl, ⟨_, e, rfl⟩, call_meets F.slot_list_mul ⟨_, e, rfl⟩ F.entry_list_mul (F.args_list_mul_2 _ _) (AutoListH.list___mul___list_int_3 l its.toArray n k t hfit hcap hlong) ⟨e, ?_⟩⟩)
  rw [hnew]
  exact ⟨.ref _, _, I.lnew (t' := s.toks) (r.rep k.toNat) (by rw [len_rep, Nat.mul_comm]; exact hz), rfl, q _ I.fresh⟩
end
section
variable {prog : Program} {w : World} {A : Around} {E : Value → Shared → Prop} {s : Shared}
end
section
variable {X : Cx}
end
end L2
namespace Att
open PySem PySem.W PySem.Calls PyProof.Rows
theorem ints_of_wellAll {P : Params} {h : Heap} : ∀ (ns : List Int) (vs : List Value), WellAll P h vs (ns.map WData.int) → IntsAre vs ns := by
  intro ns
  induction ns with
  | nil =>
    intro vs w
    rw [List.map_nil] at w
    cases w
    exact .nil
  | cons n ns ih =>
    intro vs w
    rw [List.map_cons] at w
    cases w with
    | cons a b =>
      cases a
      exact .cons _ _ (ih _ b)
theorem script_of {l : OpenLaw} {n : Nat} (hn : l.most = some n) {P : Params} {h : Heap} {args : List WData} {vals : List Value}
    (hpre : l.row.toRowW.claim.pre args = true) (hwl : WellAll P h vals args) :
    ∃ a vs ns, vals = [Value.ref a] ∧ args = [WData.list (ns.map WData.int)] ∧ h.get? a = some { cls := .type "list", data := .seq vs.toArray } ∧ IntsAre vs ns ∧ ns.length ≤ n := by
  have hsh : WShape.hasAll [] args [.list .int] = true := (pre_splitW hpre).1
  have hc : l.pre.holds [] { args := args } = true := (pre_splitW hpre).2
  obtain ⟨d, r, rfl, h1, h2⟩ := hasAllW_cons hsh
  obtain rfl := hasAllW_nil h2
  obtain ⟨xs, rfl, h3⟩ := hasW_list h1
  obtain ⟨ns, rfl⟩ := items_int h3
  have hlen : ns.length ≤ n := by
    unfold OpenLaw.pre at hc
    have h4 : (WTm.not (.lt (.lit (.int (n : Int))) (.len (.arg 0)))).holds [] { args := [.list (ns.map .int)] } = true := by
      have h4 := (holds_andW hc).1
      rw [hn] at h4
      exact h4
    have h5 := condW_of h4 (w_not (w_lt w_lit (w_len_list (w_arg rfl))))
    rw [List.length_map] at h5
    refine Nat.le_of_not_lt fun q => ?_
    have q' : (n : Int) < ((ns.length : Nat) : Int) := by omega
    first
      | (rw [decide_eq_true q'] at h5; exact absurd h5 (by decide))
      | (simp at h5; omega)
  cases hwl with
  | cons w1 w2 =>
    cases w2
    cases w1 with
    | list ho hall => exact ⟨_, _, ns, rfl, rfl, ho, ints_of_wellAll ns _ hall, hlen⟩
theorem post_true (l : OpenLaw) (args : List WData) : l.row.toRowW.claim.post args (.bool true) args = true :=
  postW_of (r := l.row.toRowW) (X := (true == true))
    (show WShape.has [] (.bool true) .bool = true by first | rfl | decide | simp [WShape.has, WShape.arms, WShape.armsAll])
    (show (WTm.eq .res (.lit (.bool true))).value [] { args := args, res := some (.bool true), after := args } = some (.bool (true == true)) from w_eq_bool (w_res rfl) w_lit) rfl
theorem attach_call {l : OpenLaw} {n : Nat} {q : Program} {loose : List Str} {XP : (Str → Option Value) → Heap → Prop} {YP : World → Heap → Prop} {d : DefRec}
    (hn : l.most = some n) (hdf : d.params.defaults = [])
    (call : ∀ (w : World) (s₀ s₁ : Shared) (mg mb : Str → Option Value) (fa : Addr) (o : Obj) (pm cd doc : Value) (a : Addr) (vs : List Value) (ns : List Int),
      Ground q loose [] XP w s₀ mg mb s₁.heap → YP w s₁.heap →
      s₁.heap.get? fa = some o → o.data = .func (docDef d.name d.params d.body d.scope pm cd doc) → s₁.heap.CodeRec cd d.name → mg d.name = some (.ref fa) →
      s₁.heap.get? a = some { cls := .type "list", data := .seq vs.toArray } → IntsAre vs ns → ns.length ≤ n → s₁.gens = #[] →
      codeAny (model l.prog w) callerA (.call (.ref fa) ⟨[.ref a], []⟩) (fun r s' => r = .ok (.ret (.bool true)) ∧ OldK s₁.heap s'.heap ∧ s'.os = s₁.os ∧ AllBare s'.gens) s₁) :
    WalkO q loose XP YP l.row.toRowW d [] (fun f vs => PySem.call f vs) := by
  intro w s₀ s₁ mg mb G Y fa o pm cd doc dV kV ho hd hcd hD hmg hg args vals as hpre hlay hrd hwl hlo
  obtain rfl : dV = .none := Dflts.none hD hdf
  obtain rfl : kV = .none := Dflts.noKw hD
  obtain ⟨a, vs, ns, rfl, rfl, hobj, hints, hlen⟩ := script_of hn hpre hwl
  refine enter_call (codeAny_mono (call w s₀ s₁ mg mb fa o pm cd doc a vs ns G Y ho (fd_plain hd) hcd hmg hobj hints hlen hg) fun r s' hq => ?_)
  obtain ⟨rfl, h2, h3, h4⟩ := hq
  exact ⟨.inl ⟨.bool true, .bool true, [], rfl, fun _ => rfl, .bool true, post_true l _, fun _ => ⟨List.Pairwise.nil, fun _ hm => (nomatch hm)⟩⟩, h2, h3, h4⟩
section
variable {prog : Program} {w : World} {A : Around} {E : Value → Shared → Prop} {s : Shared} {K : Frag}
end
end Att
namespace L2
open PySem PySem.Spec PyProof.Rows
theorem vals_ints : ∀ {vs : List Value} {ns : List Int}, IntsAre vs ns → Vals (ns.map V.int) vs
  | _, _, .nil => .nil
  | _, _, .cons n t h => .cons ⟨t, rfl⟩ (vals_ints h)
noncomputable def Only (H : Hp) : Prop := ∀ b, H b = none ∨ ∃ o xs, H b = some (.frz o (.lst xs))
theorem law_call {P : Program} {w : World} {K : PySem.W.Frag} {mg mb : Str → Option Value} {CX : CXT} {k : Nat} {fa a : Addr} {fd : FuncData} {x : Str} {sp : Sp} {s₁ : Shared} {vs : List Value} {ns : List Int}
    (KX : K.In s₁.heap) (hns : s₁.heap.Ns mainGlobals mg) (hb : s₁.heap.Ns builtinsNs mb) (hbb : ∀ x : Str, x ≠ "__name__" → mb x = bootBuiltins x) (hlim : s₁.heap.NoLimit) (hg : s₁.gens = #[])
    (ha : s₁.heap.get? a = some { cls := .type "list", data := .seq vs.toArray }) (hi : IntsAre vs ns) (hl : ns.length ≤ sizeLine) (hr : Room k callerA)
    (F : ∀ base : Heap, K.In base → base.Ns mainGlobals mg → FnOk P w K mg base CX k fa fd [x] sp) (hbind : ∀ (s : Shared) (u : Value), BindsTo s fd ⟨[u], []⟩ [(x, u)])
    (hsp : ∀ H : Hp, Only H → SqL K H a (ns.map V.int) → sp [.ref a] H (fun v _ => v = .bl true) fun _ _ _ => False)
    (hCX : ∀ H e s', CX [] H s₁ (fun _ _ _ => False) e s' → False) :
    codeAny (model P w) callerA (.call (.ref fa) ⟨[.ref a], []⟩) (fun r s' => r = .ok (.ret (.bool true)) ∧ OldK s₁.heap s'.heap ∧ s'.os = s₁.os ∧ AllBare s'.gens) s₁ := by
  have rv := vals_ints hi
  have lenV := hi.length
  -- from an abstract heap in which nothing but the script may be tracked
  have core : ∀ H : Hp, Only H → SqL K H a (ns.map V.int) → HOk P w H s₁.heap → (∀ b, H b ≠ none → b = a) → (H a ≠ none → K.lookup a = none) →
      codeAny (model P w) callerA (.call (.ref fa) ⟨[.ref a], []⟩) (fun r s' => r = .ok (.ret (.bool true)) ∧ OldK s₁.heap s'.heap ∧ s'.os = s₁.os ∧ AllBare s'.gens) s₁ := by
    intro H hO hS hok hA hK
    have base_of : ∀ {b : Addr} {o : Obj}, s₁.heap.get? b = some o → H b = none → (hidT s₁.heap H).get? b = some o := fun e n => hidT_get e n
    have noA : ∀ {b : Addr} {o : Obj} {es : Array DictEntry} {ep : Nat}, s₁.heap.get? b = some o → o.data = .dict es ep → H b = none := fun {b o es ep} e d => by
      cases q : H b with
      | none => rfl
      | some u =>
        have e' : b = a := hA b (by rw [q]; simp)
        subst e'
        rw [ha] at e; cases e
        have d' : Data.seq vs.toArray _ = Data.dict es ep := d
        cases d'
    have nsK : ∀ {b : Addr} {m : Str → Option Value}, s₁.heap.Ns b m → (hidT s₁.heap H).Ns b m := fun {b m} ⟨o, es, ep, e, d, r⟩ => ⟨o, es, ep, base_of e (noA e d), d, r⟩
    have hKb : K.In (hidT s₁.heap H) := fun b o e => base_of (KX b o e) (by
      cases q : H b with
      | none => rfl
      | some u =>
        have e' : b = a := hA b (by rw [q]; simp)
        subst e'
        rw [hK (by rw [q]; simp)] at e; cases e)
    have hM : Mod K mg (hidT s₁.heap H) := ⟨hKb, nsK hns, ⟨mb, nsK hb, hbb⟩, let ⟨mc, h1, h2⟩ := hlim; ⟨mc, nsK h1, h2⟩⟩
    have e0 : Env0 P w K mg (hidT s₁.heap H) callerA [] s₁ H := ⟨rfl, hM, fun b o e => of_hidT e, Nat.le_of_eq (hidT_size _ _), trivial, fun b hb => absurd (show b ∈ ([] : List Addr) from hb) (by simp), hok, .of_eq hg⟩
    refine codeAny_mono ((F _ hKb (nsK hns)).run callerA [] s₁ H ⟨[.ref a], []⟩ [.ref a] [.ref a] _ _ hr e0 (hbind s₁ (.ref a)) (.cons rfl .nil) (hsp H hO hS)) fun r s' h => ?_
    cases r with
    | error e => exact (hCX H e s' h).elim
    | ok fl =>
      cases fl with
      | next => exact False.elim h
      | brk => exact False.elim h
      | cont => exact False.elim h
      | ret u =>
        obtain ⟨v, H', os, bare, un, hok', r', q⟩ := h
        have q' : v = .bl true := q
        subst q'
        obtain rfl : u = Value.bool true := r'
        refine ⟨rfl, OldK.of_keep fun b o e => ?_, os, bare⟩
        cases q : H b with
        | none => exact un.keep b o e q (by intro z; exact absurd (show b ∈ ([] : List Addr) from z) (by simp)) (by simp)
        | some u =>
          rcases hO b with z | ⟨ob, xs, z⟩
          · rw [q] at z; cases z
          · have z2 := un.frzs b ob _ z
            obtain ⟨e1, _⟩ := hok b _ z
            obtain ⟨e2, _⟩ := hok' b _ z2
            rw [e] at e1; cases e1
            exact e2
  cases hk : K.lookup a with
  | some o =>
    -- the script is one of the module's own objects
    have e := KX a o hk
    rw [ha] at e
    cases e
    refine core (fun _ => none) (fun _ => .inl rfl) (.inr ⟨_, vs.toArray, _, hk, rfl, rfl, rfl, by rw [List.size_toArray, lenV]; exact hl, by simpa using rv⟩) (fun b u z => by have z' : (none : Option HO) = some u := z; cases z') (fun b z => absurd rfl z) fun z => absurd rfl z
  | none =>
    refine core (fun b => if b = a then some (.frz { cls := .type "list", data := .seq vs.toArray } (.lst (ns.map V.int))) else none) (fun b => ?_) (.inl (.inr ⟨{ cls := .type "list", data := .seq vs.toArray }, if_pos rfl⟩)) (fun b u z => ?_) (fun b z => ?_) fun _ => hk
    · by_cases hb : b = a
      · exact .inr ⟨_, _, if_pos hb⟩
      · exact .inl (if_neg hb)
    · by_cases hb : b = a
      · have z' := (if_pos hb).symm.trans z
        cases z'
        subst hb
        exact ⟨ha, by rw [List.length_map]; exact hl, vs, _, rv, ha⟩
      · have z' := (if_neg hb).symm.trans z
        cases z'
    · by_cases hb : b = a
      · exact hb
      · exact absurd (if_neg hb) z
end L2
namespace L2
open PySem PySem.Spec PyProof.Rows
theorem walk_of {l : PySem.W.OpenLaw} {n k : Nat} {q : Program} {loose : List Str} {XP : (Str → Option Value) → Heap → Prop} {YP : World → Heap → Prop} {d : DefRec} {K : Params → PySem.W.Frag} {CX : World → CXT} {sp : World → Sp} {x : Str}
    (hn : l.most = some n) (hn2 : n ≤ sizeLine) (hdf : d.params.defaults = []) (hr : Room k callerA)
    (hY : ∀ (w : World) (h : Heap), YP w h → (K w.params).In h)
    (F : ∀ (w : World) (mg : Str → Option Value) (fa : Addr) (h : Heap), (K w.params).In h → h.Ns mainGlobals mg → mg d.name = some (.ref fa) →
      ∃ fd : FuncData, (∀ (s : Shared) (u : Value), BindsTo s fd ⟨[u], []⟩ [(x, u)]) ∧
        ∀ base : Heap, (K w.params).In base → base.Ns mainGlobals mg → FnOk l.prog w (K w.params) mg base (CX w) k fa fd [x] (sp w))
    (hsp : ∀ (w : World) (H : Hp) (a : Addr) (ns : List Int), ns.length ≤ n → Only H → SqL (K w.params) H a (ns.map V.int) → sp w [.ref a] H (fun v _ => v = .bl true) fun _ _ _ => False)
    (hCX : ∀ (w : World) (H : Hp) (s : Shared) (e : Value) (s' : Shared), CX w [] H s (fun _ _ _ => False) e s' → False) :
    PySem.W.WalkO q loose XP YP l.row.toRowW d [] (fun f vs => PySem.call f vs) := by
  refine Att.attach_call hn hdf fun w s₀ s₁ mg mb fa o pm cd doc a vs ns G Y ho hd hcd hmg hobj hints hlen hg => ?_
  have KX := hY w _ Y
  obtain ⟨fd, hb, hF⟩ := F w mg fa _ KX G.T.g hmg
  exact law_call KX G.T.g G.T.b G.T.builtins G.T.nolimit hg hobj hints (Nat.le_trans hlen hn2) hr hF hb (fun H hO hS => hsp w H a ns hlen hO hS) fun H e s' => hCX w H s₁ e s'
end L2
namespace L2
open PySem PySem.Spec PyProof.Rows
noncomputable def defArgs (s : Stmt) : Arguments := match s with
  | .FunctionDef _ a _ _ _ _ _ _ _ _ => a
  | _ => { posonlyargs := [], args := [], vararg := none, kwonlyargs := [], kw_defaults := [], kwarg := none, defaults := [] }
noncomputable def defBody (s : Stmt) : List Stmt := match s with
  | .FunctionDef _ _ b _ _ _ _ _ _ _ => b
  | _ => []
noncomputable def defScope (s : Stmt) : Scope := match s with
  | .FunctionDef _ _ _ _ _ _ sc _ _ _ => sc
  | _ => { kind := .function, names := [], isGenerator := false, isCoroutine := false }
noncomputable abbrev CX0 : CXT := fun _ _ _ _ _ _ => False
noncomputable abbrev E0 : XK := fun _ _ _ => False
theorem pass0 {X : Cx} : Passes CX0 X E0 := fun _ _ _ _ _ _ _ h => h.elim
structure Fun (K : PySem.W.Frag) (x qual : Str) (st : Stmt) (f : Addr) (fd : FuncData) : Prop where
  ex : ∃ (oc : Value) (od : Option Addr) (kV doc pm : Value) (an : Option Addr) (cdv ct : Value) (osl : Array (Option Value)),
    fd = PySem.W.fnOf x qual (defArgs st) (defBody st) (defScope st) .none kV doc pm an cdv ct ∧ K.lookup f = some ⟨oc, od, .func fd, osl⟩ ∧ PySem.W.codeIn K cdv qual = true
  kp : PySem.W.keepIn K (.ref f) = true
section
variable {P : Program} {w : World} {K : PySem.W.Frag} {mg : Str → Option Value} {base : Heap}
theorem Fun.ok {x qual : Str} {st : Stmt} {f : Addr} {fd : FuncData} {N ps : List Str} {k : Nat} {sp : Sp} (F : Fun K x qual st f fd) (S : FnScope N ps (defScope st)) (len : ∀ vs H Q E, sp vs H Q E → vs.length = ps.length)
    (hbody : ∀ (cdv : Value) (A : Around) (outer : List Env) (s : Shared) (H : Hp) (vs : List V) (Q : VK) (E : XK), Room k (A.deeper (envOfC qual (defScope st) s.heap.objs.size f cdv)) → sp vs H Q E →
      ∃ t, PSs (cxOf CX0 P w K mg base N qual (defScope st) f cdv A outer s H E).nox (defBody st) t ∧ t { nx := fun _ H' => Q .non H', rt := Q } (start N vs) H) : FnOk P w K mg base CX0 (k + 1) f fd ps sp := by
  obtain ⟨oc, od, kV, doc, pm, an, cdv, ct, osl, rfl, lk, hcd⟩ := F.ex
  refine fn_of lk hcd S len fun A outer s H vs Q E hr hsp => ?_
  obtain ⟨t, h, q⟩ := hbody cdv A outer s H vs Q E hr hsp
  exact ⟨t, h.nox, q⟩
theorem Fun.binds {x qual : Str} {st : Stmt} {f : Addr} {fd : FuncData} {ps : List Str} (F : Fun K x qual st f fd)
    (h : ∀ (kV doc pm : Value) (an : Option Addr) (cdv ct : Value) (us : List Value), us.length = ps.length → bindArgs (PySem.W.fnOf x qual (defArgs st) (defBody st) (defScope st) .none kV doc pm an cdv ct) ⟨us, []⟩ = pure (ps.zip us)) : Binds K fd ps [] := by
  obtain ⟨oc, od, kV, doc, pm, an, cdv, ct, osl, rfl, lk, hcd⟩ := F.ex
  exact .all (h kV doc pm an cdv ct)
theorem fun_mk {x qual : Str} {st : Stmt} {f : Addr} {oc : Value} {od an : Option Addr} {osl : Array (Option Value)} {kV doc pm cdv ct : Value} (l : K.lookup f = some ⟨oc, od, .func (PySem.W.fnOf x qual (defArgs st) (defBody st) (defScope st) .none kV doc pm an cdv ct), osl⟩)
    (c : PySem.W.codeIn K cdv qual = true) (k : PySem.W.keepIn K (.ref f) = true) : Fun K x qual st f (PySem.W.fnOf x qual (defArgs st) (defBody st) (defScope st) .none kV doc pm an cdv ct) := ⟨⟨oc, od, kV, doc, pm, an, cdv, ct, osl, rfl, l, c⟩, k⟩
end
section
variable {X : Cx}
theorem pv (i : Nat) {x : Str} {pos : Pos} (hN : X.N[i]? = some x := by rfl) (hv : Vis X.env.scope x := by first | exact Or.inl rfl | exact Or.inr (Or.inl rfl) | exact Or.inr (Or.inr rfl)) (hd : (x == ("__debug__" : Str)) = false := by decide)
    (hcd : (x == ("__classdict__" : Str)) = false := by decide) : PE X (.Name x pos) (tVar i) := pe_var hN hv hd hcd
end
theorem iteF {A B : Prop} (h : B) : if false = true then A else B := by
  rw [if_neg Bool.false_ne_true]
  exact h
theorem iteT {A B : Prop} (h : A) : if true = true then A else B := by
  rw [if_pos rfl]
  exact h
theorem ite2 {c A B : Prop} [Decidable c] (h1 : c → A) (h2 : ¬ c → B) : if c then A else B := by
  by_cases h : c
  · rw [if_pos h]
    exact h1 h
  · rw [if_neg h]
    exact h2 h
end L2
set_option Elab.async false
set_option linter.all false
set_option maxRecDepth 100000
set_option maxHeartbeats 4000000
namespace L2
open PySem PySem.Spec PyProof.Rows
structure Blk where
  s : Shared
  H : Hp
  fp : List Addr
  C : Addr
noncomputable def clOf (names : List (Str × NameKind)) (cells : List (Str × Addr)) : List (Str × Addr) :=
  names.foldl (fun acc p => if p.2 == .free then (p.1, (cells.lookup p.1).getD 0) :: acc else acc) []
noncomputable def blk (X : Cx) (sc : Scope) (own : List Str) (js : List Nat) (z : Blk) : Cx where
  prog := X.prog
  w := X.w
  K := X.K
  mg := X.mg
  base := X.base
  A := X.A
  N := own ++ js.map fun j => X.N.getD j ""
  s₀ := z.s
  H₀ := z.H
  env := compEnvC sc (clOf sc.names X.env.cells) z.C X.env
  outer := X.stack
  stack := X.stack
  ex := z.fp
  fn := fun _ => false
  calm := X.calm
  pn := []
  xe := fun _ _ => False
noncomputable def okBlk (sc out : Scope) : Bool := sc.names.all fun p => p.2 != .cell && (p.2 != .local || sc.names.lookup p.1 == some .local) && (p.2 != .free || out.names.lookup p.1 == some .cell || out.names.lookup p.1 == some .free)
noncomputable def okCap (sc : Scope) (N : List Str) (js : List Nat) : Bool := js.all fun j => decide (j < N.length) && (sc.names.lookup (N.getD j "") == some .free)
noncomputable def capt (n : Nat) (js : List Nat) (σ : St) : St := List.replicate n none ++ js.map fun j => (σ[j]?).join
theorem clOf_gen (cells : List (Str × Addr)) : ∀ (names : List (Str × NameKind)) (acc : List (Str × Addr)) (x : Str) (c : Addr),
    (names.foldl (fun acc p => if p.2 == .free then (p.1, (cells.lookup p.1).getD 0) :: acc else acc) acc).lookup x = some c →
    ((x, NameKind.free) ∈ names ∧ c = (cells.lookup x).getD 0) ∨ acc.lookup x = some c
  | [], acc, x, c, h => .inr h
  | (n, k) :: r, acc, x, c, h => by
    rw [List.foldl_cons] at h
    rcases clOf_gen cells r _ x c h with ⟨h1, h2⟩ | h1
    · exact .inl ⟨List.mem_cons_of_mem _ h1, h2⟩
    · cases hk : (k == NameKind.free) with
      | false => 
        simp only [hk] at h1
        exact .inr h1
      | true =>
        simp only [hk, if_true] at h1
        rw [List.lookup_cons] at h1
        cases hx : (x == n) with
        | false => rw [hx] at h1; exact .inr h1
        | true =>
          rw [hx] at h1
          have e1 : x = n := by simpa using hx
          have e2 : k = .free := by simpa using hk
          subst e1 e2
          exact .inl ⟨List.mem_cons_self, (Option.some.inj h1).symm⟩
theorem clOf_has (cells : List (Str × Addr)) : ∀ (names : List (Str × NameKind)) (acc : List (Str × Addr)) (x : Str),
    ((x, NameKind.free) ∈ names ∨ (acc.lookup x).isSome = true) → ((names.foldl (fun acc p => if p.2 == .free then (p.1, (cells.lookup p.1).getD 0) :: acc else acc) acc).lookup x).isSome = true
  | [], acc, x, h => by
    rcases h with h | h
    · simp at h
    · exact h
  | (n, k) :: r, acc, x, h => by
    rw [List.foldl_cons]
    apply clOf_has cells r
    rcases h with h | h
    · rcases List.mem_cons.mp h with e | h
      · right
        cases e
        simp [List.lookup_cons]
      · exact .inl h
    · right
      cases hk : (k == NameKind.free) with
      | false => simpa [hk] using h
      | true =>
        simp only [hk, if_true, List.lookup_cons]
        cases hx : (x == n) with
        | true => rfl
        | false => exact h
theorem closure_eq {env : Env} {sc : Scope} (h : ∀ p ∈ sc.names, p.2 = .free → ∃ c, env.cells.lookup p.1 = some c) : closureFor sc env = pure (clOf sc.names env.cells) := by
  have go : ∀ (names : List (Str × NameKind)) (acc : List (Str × Addr)), (∀ p ∈ names, p.2 = NameKind.free → ∃ c, env.cells.lookup p.1 = some c) →
      (forIn names acc fun (p : Str × NameKind) (r : List (Str × Addr)) => (match p with | (name, kind) => if (kind == NameKind.free) = true then do let c ← cellOf env name; pure (ForInStep.yield ((name, c) :: r)) else pure (ForInStep.yield r) : Sem _)) =
      pure (names.foldl (fun acc p => if p.2 == .free then (p.1, (env.cells.lookup p.1).getD 0) :: acc else acc) acc) := by
    intro names
    induction names with
    | nil => intro acc _; rfl
    | cons p r ih =>
      intro acc hp
      obtain ⟨n, k⟩ := p
      rw [List.forIn_cons, List.foldl_cons]
      cases hk : (k == NameKind.free) with
      | false =>
        simp only [hk, Bool.false_eq_true, if_false]
        exact ih acc fun q hq => hp q (List.mem_cons_of_mem _ hq)
      | true =>
        obtain ⟨c, hc⟩ := hp (n, k) List.mem_cons_self (by simpa using hk)
        have e : cellOf env n = pure c := by
          unfold cellOf
          rw [show env.cells.lookup n = some c from hc]
        simp only [hk, if_true, e]
        have hc' : env.cells.lookup n = some c := hc
        rw [hc']
        exact ih _ fun q hq => hp q (List.mem_cons_of_mem _ hq)
  unfold closureFor clOf
  have := go sc.names [] h
  simp only [this]
  rfl
noncomputable def PCs (X : Cx) (ifs : List Expr) (t : TT) : Prop :=
  ∀ (pins : List (Addr × Obj)) (s : Shared) (σ : St) (H : Hp) (Q : Bool → Hp → Prop), Inv X pins σ H s → t σ H Q →
    wpAny (model X.prog X.w) X.A (forIn ifs true fun c r => if r = true then do let ok ← isTrue c X.env (eval c X.env); pure (ForInStep.yield ok) else pure (ForInStep.yield r)) (TP X pins σ Q) X.xe s
noncomputable def tYes : TT := fun _ H Q => Q true H
theorem pcs_nil {X : Cx} : PCs X [] tYes := fun _ _ _ H _ I h => wpAny_tests_nil ⟨H, I, h⟩
theorem pcs_one {X : Cx} {c : Expr} {t : TT} (h : PT X c t) : PCs X [c] t := fun pins s σ H Q I hq => wpAny_tests_one (h pins s σ H Q I hq)
theorem compLoop_own {prog : Program} {w : World} {A : Around} {R : Result → Shared → Prop} {t0 : Shared} {elt tgt iter : Expr} {ifs : List Expr} {sc : Scope} {ps : Pos} {itv acc : Value} {ce : Env} (Wd : Nat → Shared → Prop)
    (step : ∀ k t, Wd k t → wpAny (model prog w) A (pyNext itv) (fun got t1 =>
      match got with
      | none => R (.ok .next) t1
      | some u => wpAny (model prog w) A (letOwnedTupleGo tgt itv u) (fun _ t2 => wpAny (model prog w) A (assign tgt ce u) (fun _ t3 =>
          wpAny (model prog w) A (forIn ifs true fun c r => if r = true then do let ok ← isTrue c ce (eval c ce); pure (ForInStep.yield ok) else pure (ForInStep.yield r)) (fun yes t4 =>
            if yes = true then wpAny (model prog w) A (eval elt ce) (fun val t5 => wpAny (model prog w) A (call (.builtin "list.append") [acc, val]) (fun _ t6 => ∃ m, m < k ∧ Wd m t6) (fun _ _ => False) t5) (fun _ _ => False) t4
            else ∃ m, m < k ∧ Wd m t4) (fun _ _ => False) t3) (fun _ _ => False) t2) (fun _ _ => False) t1) (fun _ _ => False) t)
    (k0 : Nat) (start : Wd k0 t0) : codeAny (model prog w) A (.compLoop (.ListComp elt [⟨tgt, iter, ifs, 0⟩] sc ps) 0 itv acc ce) R t0 := by
  refine codeAny_loop rfl Wd (fun k t hW => ?turn) k0 start
  case turn =>
    have nox : ∀ {α : Type} {m : Sem α} {Q : α → Shared → Prop} {E : Value → Shared → Prop} {z : Shared}, wpAny (model prog w) A m Q (fun _ _ => False) z → wpAny (model prog w) A m Q E z := fun h => wpAny_mono h (fun _ _ q => q) fun _ _ f => f.elim
    show wpAny _ A ((compTurn (.ListComp elt [⟨tgt, iter, ifs, 0⟩] sc ps) 0 itv acc ce).onRaise (fun x => do noteFrame x ce; theTreesLotGoes x)) _ _ t
    apply wpAny_noted
    rw [compTurn_list]
    refine wpAny_bind (wpAny_standAt (wpAny_bind (nox (wpAny_mono (step k t hW) (fun got t1 h1 => ?_) fun _ _ f => f))))
    cases got with
    | none => exact wpAny_pure h1
    | some u =>
      refine wpAny_bind (nox (wpAny_mono h1 (fun _ t2 h2 => ?_) fun _ _ f => f))
      refine wpAny_bind (nox (wpAny_mono h2 (fun _ t3 h3 => ?_) fun _ _ f => f))
      refine wpAny_bind (nox (wpAny_mono h3 (fun yes t4 h4 => ?_) fun _ _ f => f))
      cases yes with
      | false =>
        rw [if_neg Bool.false_ne_true] at h4
        exact wpAny_pure ⟨rfl, h4⟩
      | true =>
        rw [if_pos rfl] at h4
        refine wpAny_bind (wpAny_bind (nox (wpAny_mono h4 (fun val t5 h5 => ?_) fun _ _ f => f)))
        exact wpAny_bind (nox (wpAny_mono h5 (fun _ t6 h6 => wpAny_pure (wpAny_pure ⟨rfl, h6⟩)) fun _ _ f => f))
section
variable {X : Cx} {pins : List (Addr × Obj)} {σ : St} {H : Hp} {s : Shared}
noncomputable def listObj (its : List Value) (n : Nat) : Obj := { cls := .type "list", data := .seq its.toArray n }
theorem okBlk_free {sc out : Scope} (h : okBlk sc out = true) {p : Str × NameKind} (hp : p ∈ sc.names) (hf : p.2 = .free) : out.names.lookup p.1 = some .cell ∨ out.names.lookup p.1 = some .free := by
  have := List.all_eq_true.mp h p hp
  simp only [hf, Bool.and_eq_true, Bool.or_eq_true, beq_iff_eq, bne_iff_ne, ne_eq, not_true, false_or] at this
  exact this.2
theorem okBlk_cell {sc out : Scope} (h : okBlk sc out = true) {p : Str × NameKind} (hp : p ∈ sc.names) : p.2 ≠ .cell := by
  have := List.all_eq_true.mp h p hp
  simp only [Bool.and_eq_true, bne_iff_ne, ne_eq] at this
  exact this.1.1
theorem okBlk_local {sc out : Scope} (h : okBlk sc out = true) {p : Str × NameKind} (hp : p ∈ sc.names) (hf : p.2 = .local) : sc.names.lookup p.1 = some .local := by
  have := List.all_eq_true.mp h p hp
  simp only [hf, Bool.and_eq_true, Bool.or_eq_true, beq_iff_eq, bne_iff_ne, ne_eq, not_true, false_or] at this
  exact this.1.2
theorem relabel_lookup {sc : Scope} {env : Env} {x : Str} : ∀ {names : List (Str × NameKind)} {k : NameKind}, (names.map fun (p : Str × NameKind) => match p with | (n, k) => if (k == NameKind.free && env.scope.kind == .function && env.kindOf n == some .cell) then (n, NameKind.cell) else (n, k)).lookup x = some k →
    ∃ k', names.lookup x = some k' ∧ (k' = k ∨ (k' = .free ∧ k = .cell))
  | [], _, h => by simp at h
  | (n, q) :: r, k, h => by
    rw [List.map_cons] at h
    rw [List.lookup_cons]
    cases hx : (x == n) with
    | true =>
      refine ⟨q, rfl, ?_⟩
      by_cases hc : (q == NameKind.free && env.scope.kind == .function && env.kindOf n == some .cell) = true
      · simp only [hc, if_true, List.lookup_cons, hx] at h
        right
        simp only [Bool.and_eq_true, beq_iff_eq] at hc
        exact ⟨hc.1.1, (Option.some.inj h).symm⟩
      · left
        have h2 : List.lookup x ((n, q) :: (r.map fun (p : Str × NameKind) => match p with | (n, k) => if (k == NameKind.free && env.scope.kind == .function && env.kindOf n == some .cell) then (n, NameKind.cell) else (n, k))) = some k := by
          have h3 := h
          dsimp only at h3
          rw [if_neg hc] at h3
          exact h3
        rw [List.lookup_cons, hx] at h2
        exact Option.some.inj h2
    | false =>
      have : List.lookup x (r.map fun (p : Str × NameKind) => match p with | (n, k) => if (k == NameKind.free && env.scope.kind == .function && env.kindOf n == some .cell) then (n, NameKind.cell) else (n, k)) = some k := by
        by_cases hc : (q == NameKind.free && env.scope.kind == .function && env.kindOf n == some .cell) = true
        · simpa only [hc, if_true, List.lookup_cons, hx] using h
        · dsimp only at h
          rw [if_neg hc, List.lookup_cons, hx] at h
          exact h
      exact relabel_lookup (sc := sc) this
theorem mem_of_lookup' {names : List (Str × NameKind)} {x : Str} {k : NameKind} (h : names.lookup x = some k) : (x, k) ∈ names := PySem.mem_of_lookup h
theorem cl_sub (ok : X.Ok) {sc : Scope} (hb : okBlk sc X.env.scope = true) {x : Str} {c : Addr} (h : (clOf sc.names X.env.cells).lookup x = some c) : X.env.cells.lookup x = some c := by
  rcases clOf_gen X.env.cells sc.names [] x c h with ⟨h1, h2⟩ | h1
  · obtain ⟨d, hd⟩ := ok.has x (okBlk_free hb h1 rfl)
    rw [hd] at h2 ⊢
    rw [h2]
    rfl
  · simp at h1
theorem cl_has {sc : Scope} {x : Str} {cells : List (Str × Addr)} (h : (x, NameKind.free) ∈ sc.names) : ∃ c, (clOf sc.names cells).lookup x = some c :=
  Option.isSome_iff_exists.mp (clOf_has cells sc.names [] x (.inl h))
theorem Inv.stk_lt (I : Inv X pins σ H s) {b : Addr} (hb : b ∈ frs X.stack) : b < s.heap.objs.size := by
  rcases List.mem_cons.mp (I.stkSub b hb) with e | h
  · rw [e]; exact I.lt
  · obtain ⟨_, o, ho, _⟩ := I.ok.funs.mem h
    exact Nat.lt_of_lt_of_le (Heap.lt_size ho) I.sz
theorem Inv.cell_lt (I : Inv X pins σ H s) {x : Str} {c : Addr} (h : X.env.cells.lookup x = some c) : c < s.heap.objs.size := by
  obtain ⟨v, q⟩ := I.cell x c h
  exact q.lt
theorem Inv.pin_lt (I : Inv X pins σ H s) {p : Addr × Obj} (h : p ∈ X.pn ++ pins) : p.1 < s.heap.objs.size := Heap.lt_size (I.pin p h).1
theorem blk_ok (I : Inv X pins σ H s) {sc : Scope} {own : List Str} {js : List Nat} {fp : List Addr} {C : Nat} (hk : sc.kind = .function) (hb : okBlk sc X.env.scope = true)
    (hfp : ∀ b ∈ fp, FpOk X pins H b) (hC : s.heap.objs.size ≤ C) (hlt : ∀ b ∈ fp, b < s.heap.objs.size) : (blk X sc own js ⟨s, H, fp, C⟩).Ok where
  mod := I.ok.mod
  kind := hk
  glob := I.ok.glob
  blt := I.ok.blt
  above := hC
  inj := fun x y c h1 h2 => I.ok.inj x y c (cl_sub I.ok hb h1) (cl_sub I.ok hb h2)
  has := fun x hx => by
    have hx' : (relabel sc X.env).names.lookup x = some .cell ∨ (relabel sc X.env).names.lookup x = some .free := hx
    have go : ∀ k, (relabel sc X.env).names.lookup x = some k → (k = .cell ∨ k = .free) → ∃ c, (clOf sc.names X.env.cells).lookup x = some c := fun k h hkk => by
      obtain ⟨k', h1, h2⟩ := relabel_lookup (sc := sc) (env := X.env) h
      have m := mem_of_lookup' h1
      rcases h2 with h2 | ⟨h2, _⟩
      · subst h2
        rcases hkk with e | e
        · exact absurd e (okBlk_cell hb m)
        · rw [e] at m; exact cl_has m
      · rw [h2] at m; exact cl_has m
    rcases hx' with h | h
    · exact go _ h (.inl rfl)
    · exact go _ h (.inr rfl)
  cab := fun x c h _ => by cases h
  hd := I.ok.hd
  frames := I.ok.frames
  stk := .inl rfl
  exf := fun b hb' => ⟨Nat.ne_of_lt (Nat.lt_of_lt_of_le (hlt b hb') hC), fun x c e => (hfp b hb').2.2.2.2.1 x c (cl_sub I.ok hb e)⟩
  bs := I.bs
  bsz := Nat.le_trans I.ok.bsz I.sz
  noex := fun b o e hb' => by
    rcases (hfp b hb').2.2.2.1 with z | z
    · exact I.ok.noex b o e z
    · exact absurd (Nat.lt_of_lt_of_le (Heap.lt_size e) (Nat.le_trans I.ok.bsz z)) (Nat.lt_irrefl _)
  exfs := fun b hb' hm => by
    rcases List.mem_cons.mp (I.stkSub b hm) with e | h
    · exact (hfp b hb').2.1 e
    · exact (hfp b hb').2.2.1 h
  funs := I.stack
  frf := I.stkFree
theorem capt_get {n : Nat} {js : List Nat} {i : Nat} {v : V} (h : (capt n js σ)[i]? = some (some v)) : ∃ k j, i = n + k ∧ js[k]? = some j ∧ σ[j]? = some (some v) := by
  unfold capt at h
  by_cases hi : i < n
  · rw [List.getElem?_append_left (by simpa using hi), List.getElem?_replicate] at h
    split at h <;> cases h
  · rw [List.getElem?_append_right (by simpa using Nat.le_of_not_lt hi), List.length_replicate, List.getElem?_map] at h
    cases e : js[i - n]? with
    | none => rw [e] at h; cases h
    | some j =>
      rw [e] at h
      refine ⟨i - n, j, by omega, e, ?_⟩
      have h' : (σ[j]?).join = some v := by simpa using h
      cases q : σ[j]? with
      | none => rw [q] at h'; cases h'
      | some o =>
        rw [q] at h'
        have : o = some v := h'
        rw [this]
theorem blk_inv (I : Inv X pins σ H s) {sc : Scope} {own : List Str} {js : List Nat} {fp : List Addr} {C D : Nat} {h1 : Heap} {tk : Nat} {o : Obj} {m : Str → Option Value} (hk : sc.kind = .function) (hb : okBlk sc X.env.scope = true) (hj : okCap sc X.N js = true)
    (hfp : ∀ b ∈ fp, FpOk X pins H b) (hlt : ∀ b ∈ fp, b < s.heap.objs.size) (hD : D = s.heap.objs.size) (hC : C = s.heap.objs.size + 1) (old : ∀ b o, s.heap.get? b = some o → h1.get? b = some o)
    (hDo : h1.get? D = some o) (hod : ∀ v, o.data ≠ .cell v) (hm : h1.Ns C m) :
    Inv (blk X sc own js ⟨s, H, fp, C⟩) [(D, o)] (capt own.length js σ) H { s with heap := h1, toks := tk } where
  ok := blk_ok I hk hb hfp (show @LE.le Nat _ s.heap.objs.size C by omega) hlt
  os := rfl
  bare := I.bare
  base := Un.kept old
  loc := by
    refine ⟨m, hm, fun i x v e1 e2 e3 => ?_⟩
    obtain ⟨k, j, rfl, ej, es⟩ := capt_get e2
    have e1' : (own ++ js.map fun j => X.N.getD j "")[own.length + k]? = some x := e1
    rw [List.getElem?_append_right (by omega), Nat.add_sub_cancel_left, List.getElem?_map, ej] at e1'
    have ex : X.N.getD j "" = x := by simpa using e1'
    have hjj := List.all_eq_true.mp hj j (List.mem_of_getElem? ej)
    simp only [Bool.and_eq_true, decide_eq_true_eq, beq_iff_eq] at hjj
    have exN : X.N[j]? = some x := by
      rw [← ex, List.getD_eq_getElem?_getD, List.getElem?_eq_getElem hjj.1]
      rfl
    have hfree : sc.names.lookup x = some .free := by rw [← ex]; exact hjj.2
    have hmem := mem_of_lookup' hfree
    have hout := okBlk_free hb hmem rfl
    obtain ⟨m0, hn0, hl0⟩ := I.loc
    obtain ⟨u, r, l⟩ := hl0 j x v exN es (by rcases hout with z | z; exact .inr (.inl z); exact .inr (.inr z))
    refine ⟨u, r, ?_⟩
    obtain ⟨c, hc⟩ := cl_has (cells := X.env.cells) hmem
    have hc' := cl_sub I.ok hb hc
    have hcell : s.heap.IsCell c (some u) := by
      rcases l with ⟨z, _⟩ | ⟨_, c', e', q⟩
      · have z' : X.env.scope.names.lookup x = some .local := z
        rcases hout with w | w <;> (rw [z'] at w; cases w)
      · rw [hc'] at e'; cases e'; exact q
    have hcell1 : h1.IsCell c (some u) := by
      obtain ⟨oc, ho, hd⟩ := hcell
      exact ⟨oc, old c oc ho, hd⟩
    right
    refine ⟨?_, c, hc, hcell1⟩
    have e3' : (relabel sc X.env).names.lookup x = some .local ∨ (relabel sc X.env).names.lookup x = some .cell ∨ (relabel sc X.env).names.lookup x = some .free := e3
    rcases e3' with z | z
    · obtain ⟨k', z1, z2⟩ := relabel_lookup (sc := sc) (env := X.env) z
      rw [hfree] at z1
      rcases z2 with z2 | ⟨_, z2⟩
      · rw [z2] at z1; cases z1
      · cases z2
    · exact z
  cell := fun x c e => by
    obtain ⟨v, oc, ho, hd⟩ := I.cell x c (cl_sub I.ok hb e)
    exact ⟨v, oc, old c oc ho, hd⟩
  free := I.hok.fresh (show @LE.le Nat _ s.heap.objs.size C by omega)
  freeC := fun x c e => I.freeC x c (cl_sub I.ok hb e)
  pin := fun p hp => by
    have e : p = (D, o) := by simpa [blk] using hp
    subst e
    refine ⟨hDo, I.hok.fresh (show @LE.le Nat _ s.heap.objs.size D by omega), ?_, fun z => ?_, hod⟩
    · exact Nat.ne_of_lt (show @LT.lt Nat _ D C by omega)
    · have h9 : @LT.lt Nat _ D s.heap.objs.size := I.stk_lt (b := D) z
      omega
  hok := I.hok.kept old
  len := by
    show (capt own.length js σ).length = (own ++ js.map fun j => X.N.getD j "").length
    simp [capt]
noncomputable def CompBody (J : It) (n : Nat) (js : List Nat) (g : TG) (tc : TT) (te : TE) (σ : St) (H : Hp) (Q : VK) : Prop :=
  ∃ W : Nat → Nat → List V → Hp → Prop, (∃ m, W 0 m [] H) ∧ ∀ i m ys H', W i m ys H' →
    (J.stop i H' ∧ ∀ p, H' p = none → Q (.ref p) (upd H' p (.lst ys))) ∨
    (J.go i H' ∧ ys.length < sizeLine ∧ ∃ N : List V → Hp → Prop, (∀ ys' H2, N ys' H2 → ∃ m', m' < m ∧ W (i + 1) m' ys' H2) ∧ ∀ x H2, J.yld i H' x H2 → g x (capt n js σ) H2 fun σ2 H3 => tc σ2 H3 fun b H4 =>
      if b = true then te σ2 H4 fun v H5 => N (ys ++ [v]) H5 else N ys H4)
noncomputable def tComp (n : Nat) (js : List Nat) (wi : TI) (g : TG) (tc : TT) (te : TE) : TE := fun σ H Q => wi σ H fun J H1 => CompBody J n js g tc te σ H1 Q
theorem comp_core {elt tg iter : Expr} {ifs : List Expr} {sc : Scope} {pos : Pos} {own : List Str} {js : List Nat} {g : TG} {tc : TT} {te : TE} {J : It} {it : Addr} {fp : List Addr} {tn : Nat → Heap → Prop} {RR : Value → Addr → Result → Shared → Prop} {E : Value → Shared → Prop}
    {Q : VK} {W : Nat → Nat → List V → Hp → Prop} (hk : sc.kind = .function) (hb : okBlk sc X.env.scope = true) (hj : okCap sc X.N js = true) (hc : X.calm = true)
    (hg : ∀ z, PG (blk X sc own js z) tg g) (ht : ∀ z, PCs (blk X sc own js z) ifs tc) (he : ∀ z, PE (blk X sc own js z) elt te)
    (I : Inv X pins σ H s) (T : Turn X.prog X.w X.K tg J fp it tn) (st : tn 0 s.heap) (hfp : ∀ b ∈ fp, FpOk X pins H b) (w0 : ∃ m, W 0 m [] H)
    (turn : ∀ i m ys H', W i m ys H' → (J.stop i H' ∧ ∀ p, H' p = none → Q (.ref p) (upd H' p (.lst ys))) ∨
      (J.go i H' ∧ ys.length < sizeLine ∧ ∃ N : List V → Hp → Prop, (∀ ys' H2, N ys' H2 → ∃ m', m' < m ∧ W (i + 1) m' ys' H2) ∧ ∀ x H2, J.yld i H' x H2 → g x (capt own.length js σ) H2 fun σ2 H3 => tc σ2 H3 fun b H4 =>
        if b = true then te σ2 H4 fun v H5 => N (ys ++ [v]) H5 else N ys H4))
    (fin : ∀ D C s' ys H', H' D = none → Inv X pins σ (upd H' D (.lst ys)) s' → FpOk X pins (upd H' D (.lst ys)) C → (∃ m, s'.heap.Ns C m) → s.heap.objs.size ≤ C → Q (.ref D) (upd H' D (.lst ys)) → RR (.ref D) C (.ok .next) s') :
    wpAny (model X.prog X.w) X.A (newList []) (fun acc s₃ => wpAny (model X.prog X.w) X.A (newFunctionEnv sc X.env.globals (clOf sc.names X.env.cells) [] X.env.qual none .none (some X.env)) (fun cenv s₄ =>
      codeAny (model X.prog X.w) X.A (.compStart (.ListComp elt [⟨tg, iter, ifs, 0⟩] sc pos) 0 (.ref it) acc { cenv with scope := relabel sc X.env }) (RR acc cenv.locals) s₄) E s₃) E s := by
  have hlt : ∀ b ∈ fp, b < s.heap.objs.size := fun b hb' => by
    obtain ⟨o, e, _⟩ := T.obj 0 s.heap st b hb'
    exact Heap.lt_size e
  refine wpAny_newObj_type (wpAny_newFunctionEnv (fun y hy => okBlk_cell hb hy) (by intro y hy; simp at hy) (fun h₁ hns₁ hsb₁ => ?_) hk)
  dsimp only at hns₁ hsb₁ ⊢
  generalize hH2 : s.heap.push { cls := .type "list", dict := none, data := .seq ([] : List Value).toArray } = H2 at hns₁ hsb₁ ⊢
  have hCs : H2.objs.size = s.heap.objs.size + 1 := by rw [← hH2, Heap.size_push]
  generalize hCe : H2.objs.size = C at *
  have below : ∀ b : Nat, b < s.heap.objs.size → b ≠ C := fun b hb' => by omega
  have old : ∀ b o, s.heap.get? b = some o → h₁.get? b = some o := fun b o e => hsb₁.extBut b o (below b (Heap.lt_size e)) (Heap.get?_push_of_some _ (hH2 ▸ Heap.get?_push_of_some _ e))
  have hDo : h₁.get? s.heap.objs.size = some (listObj [] 0) := hsb₁.extBut _ _ (show @Ne Nat s.heap.objs.size C by omega) (Heap.get?_push_of_some _ (hH2 ▸ Heap.get?_push_size _ rfl))
  generalize hDe : s.heap.objs.size = D at *
  -- the loop's word
  let Y : Cx := blk X sc own js ⟨s, H, fp, C⟩
  have J0 : Inv Y [(D, listObj [] 0)] (capt own.length js σ) H { s with heap := h₁, toks := s.toks + ([] : List (Str × Value)).length } :=
    blk_inv I hk hb hj hfp (by rw [hDe]; exact hlt) hDe.symm (by rw [hDe]; exact hCs) old hDo (fun v z => by cases z) hns₁
  have ndC : @Ne Nat D C := by omega
  have statF : ∀ {P' : List (Addr × Obj)} {H' : Hp}, (∀ b ∈ fp, H' b = none) → (∀ p ∈ P', p.1 ∉ fp) → ∀ b ∈ fp, FpOk Y P' H' b := fun {P' H'} hn hp b hb' => by
    obtain ⟨f0, f1, f2, f3, f4, f5⟩ := hfp b hb'
    refine ⟨hn b hb', fun z => below b (hlt b hb') z, fun z => ?_, .inl hb', fun x c e => f4 x c (cl_sub I.ok hb e), fun p hp' z => ?_⟩
    · rcases List.mem_cons.mp (I.stkSub b z) with e | h
      · exact f1 e
      · exact f2 h
    · have : p ∈ P' := by simpa [Y, blk] using hp'
      exact hp p this (by rw [z]; exact hb')
  have Dfp : D ∉ fp := fun z => by have h9 : @LT.lt Nat _ D D := hlt D z; omega
  have st1 : tn 0 h₁ := T.keep 0 s.heap h₁ st fun b _ o e => old b o e
  have loop : ∀ s₃ : Shared, s₃ = { s with heap := h₁, toks := s.toks + ([] : List (Str × Value)).length } →
      codeAny (model X.prog X.w) X.A (.compLoop (.ListComp elt [⟨tg, iter, ifs, 0⟩] sc pos) 0 (.ref it) (.ref D) Y.env) (RR (.ref D) C) s₃ := by
    rintro s₃ rfl
    obtain ⟨m0, w0⟩ := w0
    refine compLoop_own (fun n s' => ∃ i ys its q H', Inv Y [(D, listObj its q)] (capt own.length js σ) H' s' ∧ Vals ys its ∧ ys.length ≤ sizeLine ∧ tn i s'.heap ∧ (∀ b ∈ fp, H' b = none) ∧ W i n ys H') ?_ m0
      ⟨0, [], [], 0, H, J0, .nil, Nat.zero_le _, st1, fun b hb' => (hfp b hb').1, w0⟩
    rintro n s3 ⟨i, ys, its, q, H3, I3, rv, hz, st3, fr3, w3⟩
    have pD : ∀ p ∈ [(D, listObj its q)], p.1 ∉ fp := fun p hp => by
      have e : p = (D, listObj its q) := by simpa using hp
      rw [e]; exact Dfp
    rcases turn i n ys H3 w3 with ⟨stop, qn⟩ | ⟨go, hlen, N, hN, step⟩
    · -- the end
      refine thn (T.done Y rfl rfl rfl hc i _ s3 _ H3 _ I3 (statF fr3 pD) st3 stop) fun r s4 ⟨hr, I4⟩ => ?_
      subst hr
      show RR (.ref D) C (.ok .next) s4
      have hDp := I4.pin (D, listObj its q) (List.mem_append_right _ (List.mem_singleton.mpr rfl))
      have hD4 : s4.heap.get? D = some (listObj its q) := hDp.1
      have nD : H3 D = none := hDp.2.1
      have U : Un (frs X.stack) fp H H3 s.heap s4.heap := I4.base
      have neD : ∀ b o, s.heap.get? b = some o → b ≠ D := fun b o e => Nat.ne_of_lt (by have h9 : @LT.lt Nat _ b s.heap.objs.size := Heap.lt_size e; omega)
      have neDH : ∀ b o, H b = some o → b ≠ D := fun b o e => Nat.ne_of_lt (by have h9 : @LT.lt Nat _ b s.heap.objs.size := I.hok.lt e; omega)
      have U2 : Un (frs X.stack) fp H (upd H3 D (.lst ys)) s.heap s4.heap :=
        ⟨U.keep, U.slot, fun b o e n hx => by rw [upd_ne (neD b o e)]; exact U.free b o e n hx, U.there, fun b xs e => by rw [upd_ne (neDH b _ e)]; exact U.tups b xs e,
          fun b o u e => by rw [upd_ne (neDH b _ e)]; exact U.frzs b o u e, fun b ps e => by rw [upd_ne (neDH b _ e)]; exact U.tbls b ps e⟩
      have hok2 : HOk X.prog X.w (upd H3 D (.lst ys)) s4.heap := fun b o e => by
        by_cases hb' : b = D
        · subst hb'
          rw [upd_same] at e
          cases e
          exact ⟨hz, its, q, rv, hD4⟩
        · rw [upd_ne hb'] at e
          exact (I4.hok b o e).stay (fun c u _ z => z) (fun c z => by rw [upd_ne (ne_of_none z nD)]; exact z) fun c xs z => by rw [upd_ne (ne_of_none z nD)]; exact z
      have IX : Inv X pins σ (upd H3 D (.lst ys)) s4 := I.call' (ch := fp) I4.os U2 hok2 I4.bare fun b hb' => by
        obtain ⟨f0, f1, f2, f3, f4, f5⟩ := hfp b hb'
        exact ⟨f3, f1, f4, f5⟩
      obtain ⟨m4, hn4, _⟩ := I4.loc
      have nC : H3 C = none := I4.free
      refine fin D C s4 ys H3 nD IX ?_ ⟨m4, hn4⟩ (show @LE.le Nat _ D C by omega) (qn D nD)
      refine ⟨by rw [upd_ne (Ne.symm ndC)]; exact nC, ?_, ?_, ?_, ?_, ?_⟩
      · have h9 : @LT.lt Nat _ X.env.locals s.heap.objs.size := I.lt
        exact Nat.ne_of_gt (show @LT.lt Nat _ X.env.locals C by omega)
      · exact I.nofs (show @LE.le Nat _ s.heap.objs.size C by omega)
      · right
        have h9 : @LE.le Nat _ X.s₀.heap.objs.size s.heap.objs.size := I.sz
        exact (show @LE.le Nat _ X.s₀.heap.objs.size C by omega)
      · intro x c e
        have h9 : @LT.lt Nat _ c s.heap.objs.size := I.cell_lt e
        exact Nat.ne_of_lt (show @LT.lt Nat _ c C by omega)
      · intro p hp
        have h9 : @LT.lt Nat _ p.1 s.heap.objs.size := I.pin_lt hp
        exact Nat.ne_of_lt (show @LT.lt Nat _ p.1 C by omega)
    · -- a turn
      refine thn (T.item Y rfl rfl rfl hc i _ s3 _ H3 _ I3 (statF fr3 pD) st3 go) fun r s4 ⟨u, hr, h4⟩ => ?_
      subst hr
      refine thn h4 fun _ s5 ⟨x, H5, I5, r5, y5, st5, fr5⟩ => ?_
      have I5' := I5.pinned (statF fr5 pD) (T.obj _ _ st5)
      refine thn (hg _ _ s5 _ H5 x u _ I5' r5 (step x H5 y5)) fun _ s6 ⟨σ6, H6, I6, q6⟩ => ?_
      refine thn (ht _ _ s6 σ6 H6 _ I6 q6) fun ok s7 ⟨H7, I7, q7⟩ => ?_
      have back : ∀ {s' : Shared} {σ' : St} {H' : Hp} {ys' : List V} {its' : List Value} {q' : Nat}, Inv Y ([(D, listObj its' q')] ++ pinsAt fp s5.heap) σ' H' s' → Vals ys' its' → ys'.length ≤ sizeLine → N ys' H' →
          ∃ m, m < n ∧ ∃ i ys its q H', Inv Y [(D, listObj its q)] (capt own.length js σ) H' s' ∧ Vals ys its ∧ ys.length ≤ sizeLine ∧ tn i s'.heap ∧ (∀ b ∈ fp, H' b = none) ∧ W i m ys H' := by
        intro s' σ' H' ys' its' q' I' rv' hz' nn
        obtain ⟨m', hm, w'⟩ := hN ys' H' nn
        have hpin : ∀ b ∈ fp, ∀ o, s5.heap.get? b = some o → s'.heap.get? b = some o ∧ H' b = none := fun b hb' o e => by
          have := I'.pin (b, o) (List.mem_append_right _ (List.mem_append_right _ (mem_pinsAt hb' e)))
          exact ⟨this.1, this.2.1⟩
        refine ⟨m', hm, i + 1, ys', its', q', H', ?_, rv', hz', T.keep _ _ _ st5 fun b hb' o e => (hpin b hb' o e).1, fun b hb' => ?_, w'⟩
        · have I'' := I'.unpinned
          obtain ⟨mm, hmm, _⟩ := id I''.loc
          refine ⟨I''.ok, I''.os, I''.bare, I''.base, ⟨mm, hmm, fun k x v e1 e2 e3 => ?_⟩, I''.cell, I''.free, I''.freeC, I''.pin, I''.hok, ?_⟩
          · -- the captured names: their cells are as they were at the block's beginning
            obtain ⟨m1, hn1, hl1⟩ := J0.loc
            obtain ⟨u1, r1, l1⟩ := hl1 k x v e1 e2 e3
            refine ⟨u1, r1, ?_⟩
            rcases l1 with ⟨z, zz⟩ | ⟨z, c, e, zz⟩
            · -- a captured name is no local one
              exfalso
              obtain ⟨k', j, rfl, ej, es⟩ := capt_get e2
              have e1' : (own ++ js.map fun j => X.N.getD j "")[own.length + k']? = some x := e1
              rw [List.getElem?_append_right (by omega), Nat.add_sub_cancel_left, List.getElem?_map, ej] at e1'
              have ex : X.N.getD j "" = x := by simpa using e1'
              have hjj := List.all_eq_true.mp hj j (List.mem_of_getElem? ej)
              simp only [Bool.and_eq_true, decide_eq_true_eq, beq_iff_eq] at hjj
              have hfree : sc.names.lookup x = some .free := by rw [← ex]; exact hjj.2
              obtain ⟨k2, z1, z2⟩ := relabel_lookup (sc := sc) (env := X.env) (show (relabel sc X.env).names.lookup x = some .local from z)
              rw [hfree] at z1
              rcases z2 with z2 | ⟨_, z2⟩
              · rw [z2] at z1; cases z1
              · cases z2
            · refine .inr ⟨z, c, e, ?_⟩
              have hcs : X.env.cells.lookup x = some c := cl_sub I.ok hb e
              obtain ⟨ov, oc, hoc, hdc⟩ := I.cell x c hcs
              have hoc1 := old c oc hoc
              obtain ⟨oz, hoz, hdz⟩ := zz
              have hoz' : h₁.get? c = some oz := hoz
              rw [hoc1] at hoz'
              cases hoz'
              have cnf : c ∉ fp := fun z' => (hfp c z').2.2.2.2.1 x c hcs rfl
              obtain ⟨sl, hh⟩ := I''.base.any hoc (I.freeC x c hcs) cnf
              exact ⟨_, hh, hdz⟩
          · show (capt own.length js σ).length = _
            exact J0.len
        · obtain ⟨o, e, d⟩ := T.obj _ _ st5 b hb'
          exact (hpin b hb' o e).2
      cases ok with
      | false =>
        rw [if_neg Bool.false_ne_true] at q7 ⊢
        exact back I7 rv hz q7
      | true =>
        rw [if_pos rfl] at q7 ⊢
        refine thn (he _ _ s7 σ6 H7 _ I7 q7) fun xv s8 ⟨v, H8, I8, r8, q8⟩ => ?_
        have hDp := I8.pin (D, listObj its q) (List.mem_append_right _ (List.mem_append_left _ (List.mem_singleton.mpr rfl)))
        have hD8 : s8.heap.get? D = some { cls := .type "list", data := .seq its.toArray q } := hDp.1
        have hl := rv.length
        refine call_meets F.slot_list_append ⟨_, hD8, rfl⟩ F.entry_list_append (F.args_list_append_2 _ _) (PySem.list_append D its.toArray q xv (by rw [List.size_toArray]; omega)) ⟨hD8, ?_⟩
        have qq := PySem.IsL.update hD8 (fun a => a.push xv)
        have eqs : its.toArray.push xv = (its ++ [xv]).toArray := by simp
        rw [eqs] at qq
        obtain ⟨q2, hq2⟩ : ∃ q2, (s8.heap.update D (Obj.mapSeq fun a => a.push xv)).get? D = some (listObj (its ++ [xv]) q2) := ⟨_, qq⟩
        -- without the pin of D, the record turns, then it is pinned again
        have I8a : Inv Y (pinsAt fp s5.heap) σ6 H8 s8 := I8.pins_of fun p hp => I8.pin p (List.mem_append_right _ (List.mem_append_right _ hp))
        have nD8 : H8 D = none := hDp.2.1
        have I9 : Inv Y (pinsAt fp s5.heap) σ6 H8 { s8 with heap := s8.heap.update D (Obj.mapSeq fun a => a.push xv), toks := s8.toks } := by
          refine I8a.turned (it := D) (fun b o hb' e => (Heap.get?_update_other s8.heap (Obj.mapSeq fun a => a.push xv) (Ne.symm hb')).trans e) nD8 ndC (.inr (show @LE.le Nat _ s.heap.objs.size D by omega)) (fun x c e => ?_) fun p hp => ?_
          · have h9 : @LT.lt Nat _ c s.heap.objs.size := I.cell_lt (cl_sub I.ok hb e)
            exact Nat.ne_of_lt (show @LT.lt Nat _ c D by omega)
          · have hp' : p ∈ pinsAt fp s5.heap := by simpa [Y, blk] using hp
            obtain ⟨h1, _⟩ := of_pinsAt hp'
            exact fun z => Dfp (z ▸ h1)
        refine back (ys' := ys ++ [v]) (its' := its ++ [xv]) (q' := q2) (I9.pins_of fun p hp => ?_) (rv.append (.cons r8 .nil)) (by rw [List.length_append, List.length_singleton]; omega) q8
        rcases List.mem_append.mp hp with hp | hp
        · have e : p = (D, listObj (its ++ [xv]) q2) := by simpa using hp
          subst e
          refine ⟨hq2, nD8, ndC, fun z => ?_, fun v z => by cases z⟩
          have h9 : @LT.lt Nat _ D s.heap.objs.size := I.stk_lt (b := D) z
          omega
        · exact I9.pin p (List.mem_append_right _ hp)
  exact codeAny_compStart_list (loop _ rfl) (T.self X.A 0 { s with heap := h₁, toks := s.toks + ([] : List (Str × Value)).length } _ _ st1 (loop _ rfl))
theorem pe_comp {elt tg iter : Expr} {ifs : List Expr} {sc : Scope} {pos : Pos} (own : List Str) (js : List Nat) {wi : TI} {g : TG} {tc : TT} {te : TE} (hi : PI X tg iter wi) (hg : ∀ z, PG (blk X sc own js z) tg g) (ht : ∀ z, PCs (blk X sc own js z) ifs tc)
    (he : ∀ z, PE (blk X sc own js z) elt te) (hc : X.calm = true := by rfl) (hk : sc.kind = .function := by rfl) (hb : okBlk sc X.env.scope = true := by rfl) (hj : okCap sc X.N js = true := by rfl)
    (hs : ∀ x, foldedSetIterable iter X.env x = pure x := by intro _; rfl) : PE X (.ListComp elt [⟨tg, iter, ifs, 0⟩] sc pos) (tComp own.length js wi g tc te) := by
  intro pins s σ H Q I h
  rw [eval_ListComp]
  refine wpAny_comprehension_free (use := none) rfl hs (closure_eq fun p hp hf => I.ok.has p.1 (okBlk_free hb hp hf)) hk (fun p hp hl => okBlk_local hb hp hl) (thn (hi pins s σ H _ I h) fun v s1 h1 => thn h1 fun itv s2 h2 => ?_)
  obtain ⟨it, fp, tn, J, H2, e, I2, T, st2, f2, W, w0, turn⟩ := h2
  subst e
  refine comp_core (RR := fun acc C => compPost (model X.prog X.w) X.A X.xe none (EP X pins σ Q) acc C) hk hb hj hc hg ht he I2 T st2 f2 w0 turn ?_
  intro D C s' ys H' nD I' hC ⟨m, hm⟩ _ q
  refine ⟨m, hm, fun h' hs' => ?_⟩
  obtain ⟨f0, f1, f2, f3, f4, f5⟩ := hC
  exact ⟨.ref D, _, I'.turned (t' := s'.toks) (it := C) (fun b o hb' e => (hs'.2 b hb').trans e) f0 f1 f3 f4 f5, rfl, q⟩
theorem ps_setComp {i : Nat} {y : Str} {py : Pos} {elt tg iter : Expr} {ifs : List Expr} {sc : Scope} {pos spos : Pos} (own : List Str) (js : List Nat) {wi : TI} {g : TG} {tc : TT} {te : TE} (hN : X.N.Nodup) (hi' : X.N[i]? = some y) (hx : Loc X.env.scope y)
    (hi : PI X tg iter wi) (hg : ∀ z, PG (blk X sc own js z) tg g) (ht : ∀ z, PCs (blk X sc own js z) ifs tc)
    (he : ∀ z, PE (blk X sc own js z) elt te) (hsw : swapsWith (.ListComp elt [⟨tg, iter, ifs, 0⟩] sc pos) (some (.Name y py)) spos.line X.env = pure true := by rfl) (hc : X.calm = true := by rfl) (hk : sc.kind = .function := by rfl) (hb : okBlk sc X.env.scope = true := by rfl) (hj : okCap sc X.N js = true := by rfl)
    (hs : ∀ x, foldedSetIterable iter X.env x = pure x := by intro _; rfl) (hf : X.fn y = true ∨ X.env.scope.names.lookup y = some .local := by first | exact .inl rfl | exact .inr rfl | assumption) :
    PS X (.Assign [.Name y py] (.ListComp elt [⟨tg, iter, ifs, 0⟩] sc pos) spos) (tAsg (tComp own.length js wi g tc te) (gName i)) := by
  intro pins s σ H D' I h
  rw [exec_Assign_Name_used _ _ _ _ hsw]
  refine wpAny_bind (wpAny_standAt (wpAny_bind ?_))
  show wpAny _ X.A (do let _ ← comprehension (.ListComp elt [⟨tg, iter, ifs, 0⟩] sc pos) sc X.env _ (newList []) false (eval iter X.env) (some (assign (.Name y py) X.env))) _ _ s
  refine wpAny_bind (wpAny_mono (wpAny_comprehension_free (use := some (assign (.Name y py) X.env)) (Q := fun _ s' => SP X pins D' .next s') rfl hs (closure_eq fun p hp hf => I.ok.has p.1 (okBlk_free hb hp hf)) hk (fun p hp hl => okBlk_local hb hp hl)
    (thn (hi pins s σ H _ I h) fun v s1 h1 => thn h1 fun itv s2 h2 => ?_)) (fun _ s' hq => wpAny_pure (wpAny_pure hq)) fun _ _ e => e)
  obtain ⟨it, fp, tn, J, H2, e, I2, T, st2, f2, W, w0, turn⟩ := h2
  subst e
  refine comp_core (Q := fun x H1 => gName i x σ H1 D'.nx) (RR := fun acc C => compPost (model X.prog X.w) X.A X.xe (some (assign (.Name y py) X.env)) (fun _ s' => SP X pins D' .next s') acc C) hk hb hj hc hg ht he I2 T st2 f2 w0 turn ?_
  intro D C s' ys H' nD I' hC ⟨m, hm⟩ hCs q
  show wpAny _ X.A (assign (.Name y py) X.env (.ref D)) _ _ _
  refine wpAny_assign_Name (store_ok2 I' hN hi' hx (v := .ref D) rfl (fun s'' I'' ⟨a, hsb, ha⟩ => ?_) hf)
  obtain ⟨f0, f1, f2, f3, f4, f5⟩ := hC
  have hac : a ≠ C := by
    rcases ha with rfl | ha
    · exact Ne.symm f1
    · exact f4 y a ha
  refine ⟨m, hm.sameBut hsb (Ne.symm hac), fun h' hs' => ?_⟩
  exact ⟨_, _, I''.turned (t' := s''.toks) (it := C) (fun b o hb' e => (hs'.2 b hb').trans e) f0 f1 f3 f4 f5, q⟩
end
theorem comp_list {K : PySem.W.Frag} {a : Addr} {xs : List V} {n : Nat} {js : List Nat} {g : TG} {tc : TT} {te : TE} {Q : VK} {σ : St} {H : Hp} (Pv : Nat → List V → Hp → Prop) (hz : xs.length ≤ sizeLine) (h0 : Pv 0 [] H) (hl : ∀ i ys H, i ≤ xs.length → Pv i ys H → SqL K H a xs ∧ ys.length ≤ i)
    (hs : ∀ i x ys H, xs[i]? = some x → Pv i ys H → g x (capt n js σ) H fun σ2 H3 => tc σ2 H3 fun b H4 => if b = true then te σ2 H4 fun v H5 => Pv (i + 1) (ys ++ [v]) H5 else Pv (i + 1) ys H4)
    (hd : ∀ ys H p, Pv xs.length ys H → H p = none → Q (.ref p) (upd H p (.lst ys))) : CompBody (Itl K a) n js g tc te σ H Q := by
  refine ⟨fun i m ys H => m = xs.length - i ∧ i ≤ xs.length ∧ Pv i ys H, ⟨xs.length, by simp, Nat.zero_le _, h0⟩, ?_⟩
  rintro i m ys H ⟨rfl, hi, p⟩
  have q := hl i ys H hi p
  by_cases hlt : i < xs.length
  · refine .inr ⟨⟨xs, xs[i], q.1, by simp [hlt]⟩, by have := q.2; omega, Pv (i + 1), fun ys' H' p' => ⟨xs.length - (i + 1), by omega, rfl, hlt, p'⟩, fun x H' y => ?_⟩
    obtain ⟨e, y⟩ := y
    subst e
    exact hs i x ys _ (y xs q.1) p
  · have e : i = xs.length := by omega
    subst e
    exact .inl ⟨⟨xs, q.1, Nat.le_refl _⟩, fun p' hp => hd ys H p' p hp⟩
theorem comp_tup {K : PySem.W.Frag} {a : Addr} {xs : List V} {n : Nat} {js : List Nat} {g : TG} {tc : TT} {te : TE} {Q : VK} {σ : St} {H : Hp} (Pv : Nat → List V → Hp → Prop) (hz : xs.length ≤ sizeLine) (h0 : Pv 0 [] H) (hl : ∀ i ys H, i ≤ xs.length → Pv i ys H → SqT K H a xs ∧ ys.length ≤ i)
    (hs : ∀ i x ys H, xs[i]? = some x → Pv i ys H → g x (capt n js σ) H fun σ2 H3 => tc σ2 H3 fun b H4 => if b = true then te σ2 H4 fun v H5 => Pv (i + 1) (ys ++ [v]) H5 else Pv (i + 1) ys H4)
    (hd : ∀ ys H p, Pv xs.length ys H → H p = none → Q (.ref p) (upd H p (.lst ys))) : CompBody (Itt K a) n js g tc te σ H Q := by
  refine ⟨fun i m ys H => m = xs.length - i ∧ i ≤ xs.length ∧ Pv i ys H, ⟨xs.length, by simp, Nat.zero_le _, h0⟩, ?_⟩
  rintro i m ys H ⟨rfl, hi, p⟩
  have q := hl i ys H hi p
  by_cases hlt : i < xs.length
  · refine .inr ⟨⟨xs, xs[i], q.1, by simp [hlt]⟩, by have := q.2; omega, Pv (i + 1), fun ys' H' p' => ⟨xs.length - (i + 1), by omega, rfl, hlt, p'⟩, fun x H' y => ?_⟩
    obtain ⟨e, y⟩ := y
    subst e
    exact hs i x ys _ (y xs q.1) p
  · have e : i = xs.length := by omega
    subst e
    exact .inl ⟨⟨xs, q.1, Nat.le_refl _⟩, fun p' hp => hd ys H p' p hp⟩
theorem comp_range {lo : Int} {N n : Nat} {js : List Nat} {g : TG} {tc : TT} {te : TE} {Q : VK} {σ : St} {H : Hp} (Pv : Nat → List V → Hp → Prop) (hz : N ≤ sizeLine) (h0 : Pv 0 [] H) (hl : ∀ i ys H, i ≤ N → Pv i ys H → ys.length ≤ i)
    (hs : ∀ i ys H, i < N → Pv i ys H → g (.int (lo + i)) (capt n js σ) H fun σ2 H3 => tc σ2 H3 fun b H4 => if b = true then te σ2 H4 fun v H5 => Pv (i + 1) (ys ++ [v]) H5 else Pv (i + 1) ys H4)
    (hd : ∀ ys H p, Pv N ys H → H p = none → Q (.ref p) (upd H p (.lst ys))) : CompBody (Itr lo N) n js g tc te σ H Q := by
  refine ⟨fun i m ys H => m = N - i ∧ i ≤ N ∧ Pv i ys H, ⟨N, by simp, Nat.zero_le _, h0⟩, ?_⟩
  rintro i m ys H ⟨rfl, hi, p⟩
  have q := hl i ys H hi p
  by_cases hlt : i < N
  · refine .inr ⟨hlt, by omega, Pv (i + 1), fun ys' H' p' => ⟨N - (i + 1), by omega, rfl, hlt, p'⟩, fun x H' y => ?_⟩
    obtain ⟨e, y⟩ := y
    subst e y
    exact hs i ys _ hlt p
  · have e : i = N := by omega
    subst e
    exact .inl ⟨Nat.le_refl _, fun p' hp => hd ys H p' p hp⟩
end L2
set_option Elab.async false
set_option linter.all false
set_option maxRecDepth 100000
set_option maxHeartbeats 4000000
namespace L2
open PySem PySem.Spec PyProof.Rows
structure Cal (P : Program) (w : World) (K : PySem.W.Frag) (mg : Str → Option Value) (base : Heap) (x : Str) (k : Nat) (ps : List Str) (sp : Sp) : Prop where
  ex : ∃ (f : Addr) (fd : FuncData), mg x = some (.ref f) ∧ PySem.W.keepIn K (.ref f) = true ∧ Binds K fd ps [] ∧ FnOk P w K mg base CX0 k f fd ps sp
structure Dfn (K : PySem.W.Frag) (mg : Str → Option Value) (x : Str) (st : Stmt) (ps : List Str) : Prop where
  ex : ∃ (f : Addr) (fd : FuncData), mg x = some (.ref f) ∧ Fun K x x st f fd ∧ Binds K fd ps []
section
variable {P : Program} {w : World} {K : PySem.W.Frag} {mg : Str → Option Value} {base : Heap}
theorem Dfn.ok {x : Str} {st : Stmt} {N ps : List Str} {k : Nat} {sp : Sp} (D : Dfn K mg x st ps) (S : FnScope N ps (defScope st)) (len : ∀ vs H Q E, sp vs H Q E → vs.length = ps.length)
    (hbody : ∀ (X : Cx) (hX : ∃ f cdv A outer s H E, X = (cxOf CX0 P w K mg base N x (defScope st) f cdv A outer s H E).nox ∧ Room k X.A) (H : Hp) (vs : List V) (Q : VK) (E : XK), sp vs H Q E →
      ∃ t, PSs X (defBody st) t ∧ t { nx := fun _ H' => Q .non H', rt := Q } (start N vs) H) : Cal P w K mg base x (k + 1) ps sp := by
  obtain ⟨f, fd, hm, F, hb⟩ := D.ex
  exact ⟨f, fd, hm, F.kp, hb, F.ok S len fun cdv A outer s H vs Q E hr h => hbody _ ⟨f, cdv, A, outer, s, H, E, rfl, hr⟩ H vs Q E h⟩
end
section
variable {X : Cx}
theorem pe_cal {x : Str} {k j : Nat} {ps : List Str} {sp : Sp} {e : Expr} {es : List Expr} {t : TA} {p pos : Pos} (C : Cal X.prog X.w X.K X.mg X.base x j ps sp) (hr : Room k X.A) (ha : PA X (e :: es) t) (hjk : j ≤ k := by decide) (hg : Gl X x := by rfl) (hdb : (x == ("__debug__" : Str)) = false := by decide)
    (he : starEach (e :: es) X.env = (false, eval e X.env) :: starEach es X.env := by rfl) (hpl : (backTo pos (starEach es X.env)).any (·.1) = false := by rfl) :
    PE X (.Call (.Name x p) (e :: es) [] pos) (tCall sp [] E0 t) := by
  obtain ⟨f, fd, hm, hk, hb, F⟩ := C.ex
  exact pe_call F (hr.mono hjk) hg hm hk hb .nil pass0 ha hdb he hpl
theorem op_fdivL : OpR X (binaryOp .FloorDiv) (rI (fun _ j => 0 < j ∧ j < 2 ^ 64) fun i j => .int (i / j)) := opI fun i j _ _ _ _ _ hc q => by
  have h1 : (0 : Int) < j := hc.1
  have h2 : j < 2 ^ 64 := hc.2
  refine floordiv_int (by omega) (by rw [Int.fdiv_eq_ediv_of_nonneg i (by omega)]; exact q) (.inl (PyProof.noPylong_of_log2 ?_))
  have h0 : j.natAbs ≠ 0 := by omega
  have h64 : j.natAbs < 2 ^ 64 := by omega
  have := (Nat.log2_lt h0).mpr h64
  omega
noncomputable def kindV (H : Hp) : V → String → Prop
  | .non, n => n = "NoneType"
  | .bl _, n => n = "bool"
  | .int _, n => n = "int"
  | .str _, n => n = "str"
  | .ref a, n => (n = "list" ∧ ∃ xs, H a = some (.lst xs)) ∨ (n = "tuple" ∧ ∃ xs, H a = some (.tup xs))
  | _, _ => False
theorem kindV.ty {K : PySem.W.Frag} {H : Hp} {x : V} {n : String} (h : kindV H x n) : TyOf K H x (.type n) := by
  cases x with
  | non => cases (show n = "NoneType" from h); exact .non
  | bl b => cases (show n = "bool" from h); exact .bl b
  | int i => cases (show n = "int" from h); exact .int i
  | str z => cases (show n = "str" from h); exact .str z
  | ref a =>
    rcases h with ⟨rfl, xs, e⟩ | ⟨rfl, xs, e⟩
    · exact .lst e
    · exact .tup e
  | _ => exact False.elim h
noncomputable def isiR (a b c d e : Bool) : String → Option Bool
  | "tuple" => some a | "int" => some b | "bool" => some c | "list" => some d | "str" => some e | _ => none
noncomputable def isiB : String → String → Option Bool
  | "NoneType" => isiR false false false false false
  | "bool" => isiR false true true false false
  | "int" => isiR false true false false false
  | "str" => isiR false false false false true
  | "list" => isiR false false false true false
  | "tuple" => isiR true false false false false
  | _ => fun _ => none
theorem isiB_kit {K : PySem.W.Frag} {n T : String} {b : Bool} (h : isiB n T = some b) : PySem.W.kitOne K (.type n) (.type T) = some b := by
  unfold isiB at h
  split at h <;> first
    | (unfold isiR at h; split at h <;> first | (cases h; kernel_rfl) | cases h)
    | cases h
noncomputable def rIsi : List V → Hp → VK → Prop := fun xs H Q => ∃ x n T b, xs = [x, .ty T] ∧ kindV H x n ∧ isiB n T = some b ∧ Q (.bl b) H
theorem call_isi : CallR X (.builtin "isinstance") rIsi := by
  intro pins s σ H xs us Q I r h
  obtain ⟨x, n, T, b, rfl, hk, hb, q⟩ := h
  obtain ⟨u, w', rfl, r1, r2⟩ := vals2 r
  cases (show w' = Value.type T from r2)
  exact isinst_ok I r1 hk.ty (isiB_kit hb) fun tk => ⟨.bl b, H, I.tok tk, rfl, q⟩
noncomputable def ItrS (lo c : Int) (n : Nat) : It := ⟨fun i _ => i < n, fun i H x H' => H' = H ∧ x = .int (lo + i * c), fun i _ => n ≤ i⟩
theorem turn_rangeS {P : Program} {w : World} {K : PySem.W.Frag} {tg : Expr} (it : Addr) (lo c : Int) (n : Nat) : Turn P w K tg (ItrS lo c n) [it] it (fun i h => IsRangeIter h it (lo + (i : Nat) * c) ((n : Int) - (i : Nat)) c) where
  mem := by simp
  obj := fun i h st b hb => by
    have e : b = it := by simpa using hb
    subst e
    exact ⟨_, st, fun v z => by
      have z' : Data.fields _ = Data.cell v := z
      cases z'⟩
  keep := fun i h h' st k => k it (by simp) _ st
  item := by
    intro X hP hw hK hc i pins s σ H E I hf st hg
    subst hP hw hK
    obtain ⟨f0, f1, f2, f3, f4, f5⟩ := hf it (by simp)
    have W := Walks.range (prog := X.prog) (w := X.w) (I.ok.hd hc) it lo c n
    refine W.item i s _ _ hg st fun v h' tk hv st' kk => ?_
    obtain ⟨t, rfl⟩ := hv
    have I1 : Inv X pins σ H { s with heap := h', toks := tk } := I.turned (fun b o hb e => kk b o (by simpa using hb) e) f0 f1 f3 f4 f5
    exact ⟨_, rfl, go_of (s := { s with heap := h', toks := tk }) (n := "range_iterator") st' rfl rfl (by decide) ⟨.int (lo + i * c), H, I1, ⟨t, rfl⟩, ⟨rfl, rfl⟩, st', fun b hb => (hf b hb).1⟩⟩
  done := by
    intro X hP hw hK hc i pins s σ H E I hf st hg
    subst hP hw hK
    obtain ⟨f0, f1, f2, f3, f4, f5⟩ := hf it (by simp)
    exact wpAny_pyNext_range_end (I.ok.hd hc) st (by have : n ≤ i := hg; omega) fun h' eb => ⟨rfl, I.turned (t' := s.toks) (fun b o hb e => eb b o hb e) f0 f1 f3 f4 f5⟩
  self := fun _ _ _ _ _ st h => wpAny_pyIter_rangeiter st h
noncomputable def SmallR (i j c : Int) : Prop := (-(2 ^ 40) ≤ i ∧ i < 2 ^ 40) ∧ (-(2 ^ 40) ≤ j ∧ j < 2 ^ 40) ∧ (-(2 ^ 29) < c ∧ c < 2 ^ 29) ∧ c ≠ 0
noncomputable def nRng (i j c : Int) : Nat := if 0 < c then (if i < j then ((j - i - 1) / c + 1).toNat else 0) else (if j < i then ((i - j - 1) / (-c) + 1).toNat else 0)
theorem rangeSize_nn (i j c : Int) (hc : c ≠ 0) : Builtin.Range.rangeSize i j c = (nRng i j c : Nat) := by
  unfold Builtin.Range.rangeSize nRng
  by_cases h : 0 < c
  · rw [if_pos h, if_pos h]
    by_cases h2 : i < j
    · rw [if_pos h2, if_pos h2]
      have : 0 ≤ (j - i - 1) / c := Int.ediv_nonneg (by omega) (by omega)
      omega
    · rw [if_neg h2, if_neg h2]; rfl
  · rw [if_neg h, if_neg h]
    by_cases h2 : j < i
    · rw [if_pos (show i > j from h2), if_pos h2]
      have : 0 ≤ (i - j - 1) / (-c) := Int.ediv_nonneg (by omega) (by omega)
      omega
    · rw [if_neg (show ¬ i > j from h2), if_neg h2]; rfl
theorem rangeSmall {i j c : Int} (h : SmallR i j c) : Builtin.Range.small i j c = true := by
  obtain ⟨⟨h1, h2⟩, ⟨h3, h4⟩, ⟨h5, h6⟩, h0⟩ := h
  have hb : Builtin.Range.rangeSize i j c ≤ 2 ^ 42 ∧ 0 ≤ Builtin.Range.rangeSize i j c := by
    unfold Builtin.Range.rangeSize
    by_cases hc : c > 0
    · rw [if_pos hc]
      by_cases h' : i < j
      · rw [if_pos h']
        have e1 : (j - i - 1) / c ≤ j - i - 1 := Int.ediv_le_self _ (by omega)
        have e2 : 0 ≤ (j - i - 1) / c := Int.ediv_nonneg (by omega) (by omega)
        omega
      · rw [if_neg h']; omega
    · rw [if_neg hc]
      by_cases h' : i > j
      · rw [if_pos h']
        have e1 : (i - j - 1) / (-c) ≤ i - j - 1 := Int.ediv_le_self _ (by omega)
        have e2 : 0 ≤ (i - j - 1) / (-c) := Int.ediv_nonneg (by omega) (by omega)
        omega
      · rw [if_neg h']; omega
  unfold Builtin.Range.small
  generalize Builtin.Range.rangeSize i j c = z at hb ⊢
  have f : ∀ x : Int, -(2 ^ 62) ≤ x → x < 2 ^ 62 → Builtin.Range.rangeFitsLong x = true := fun x h1 h2 => by
    unfold Builtin.Range.rangeFitsLong
    rw [decide_eq_true (show -(2 ^ 63) ≤ x by omega), decide_eq_true (show x < 2 ^ 63 by omega)]
    rfl
  rw [f i (by omega) (by omega), f j (by omega) (by omega), f c (by omega) (by omega), f z (by omega) (by omega)]
  by_cases hc : c > 0
  · rw [if_pos hc, f (j + (c - 1)) (by omega) (by omega), Bool.or_true]; rfl
  · rw [if_neg hc, f (j + (c + 1)) (by omega) (by omega), Bool.or_true]; rfl
noncomputable def iRng3 (ta : TA) : TI := fun σ H R => ta σ H fun vs H1 => ∃ i j c : Int, vs = [.int i, .int j, .int c] ∧ SmallR i j c ∧ R (ItrS i c (nRng i j c)) H1
theorem pi_range3 {tg a b c : Expr} {ta : TA} {p pos : Pos} (hg : Gl X "range") (hm : X.mg "range" = none) (ha : PA X [a, b, c] ta) (hs : starEach [a, b, c] X.env = [(false, eval a X.env), (false, eval b X.env), (false, eval c X.env)] := by rfl)
    (hs2 : starEach [b, c] X.env = [(false, eval b X.env), (false, eval c X.env)] := by rfl) :
    PI X tg (.Call (.Name "range" p) [a, b, c] [] pos) (iRng3 ta) := by
  intro pins s σ H R I h
  refine Call_ (ld_blt I hg hm boot_range (PyProof.Rows.callWith_type1 (thn (ha pos pins s σ H _ I h) fun us s1 ⟨vs, H1, I1, r1, q1⟩ => ?_) (by rw [hs, hs2]) (by rw [hs2]; rfl)))
  obtain ⟨i, j, c, e, hsm, q⟩ := q1
  subst e
  cases r1 with
  | cons r rr =>
    cases rr with
    | cons r' rr =>
      cases rr with
      | cons r'' rr =>
        cases rr
        obtain ⟨t, rfl⟩ := r
        obtain ⟨t', rfl⟩ := r'
        obtain ⟨t'', rfl⟩ := r''
        have h0 : c ≠ 0 := hsm.2.2.2
        have h5 : c.natAbs < 1073741824 := by have := hsm.2.2.1; omega
        refine call_range_3 h0 ?_ (.inl (PyProof.noPylong_small h5))
        refine wpAny_pyIter_range (IsRange.new ..) (rangeSmall hsm) ?_
        have I2 : Inv X pins σ H1 { s1 with heap := s1.heap.push { cls := .type "range", data := .fields #[.int i t, .int j t', .int c t''] }, toks := s1.toks } := I1.kept fun b o e => Heap.get?_push_of_some _ e
        refine ⟨_, [_], _, _, H1, rfl, I2.kept (t' := s1.toks) fun b o e => Heap.get?_push_of_some _ e, turn_rangeS _ i c (nRng i j c), ?_, fun b hb => ?_, q⟩
        · show IsRangeIter _ _ (i + ((0 : Nat) : Int) * c) (((nRng i j c : Nat) : Int) - ((0 : Nat) : Int)) c
          rw [show i + ((0 : Nat) : Int) * c = i by simp, show ((nRng i j c : Nat) : Int) - ((0 : Nat) : Int) = Builtin.Range.rangeSize i j c by rw [rangeSize_nn i j c h0]; simp]
          exact Heap.get?_push_size _ rfl
        · have e := List.mem_singleton.mp hb
          subst e
          exact I2.fpOk (Nat.le_refl _) (I2.hok.fresh (Nat.le_refl _))
theorem for_rangeS {lo c : Int} {n : Nat} {g : TG} {tb : TS} {D : Ends} {σ : St} {H : Hp} (Pv : Nat → St → Hp → Prop) (h0 : Pv 0 σ H)
    (hs : ∀ i σ H, i < n → Pv i σ H → g (.int (lo + i * c)) σ H fun σ2 H2 => tb { D with nx := Pv (i + 1), ct := Pv (i + 1), bk := D.nx } σ2 H2) (hd : ∀ σ H, Pv n σ H → D.nx σ H) :
    ∃ W : Nat → Nat → St → Hp → Prop, (∃ m, W 0 m σ H) ∧ ∀ i m σ H, W i m σ H →
      ((ItrS lo c n).stop i H ∧ D.nx σ H) ∨ ((ItrS lo c n).go i H ∧ ∃ N : St → Hp → Prop, (∀ σ' H', N σ' H' → ∃ m', m' < m ∧ W (i + 1) m' σ' H') ∧ ∀ x H', (ItrS lo c n).yld i H x H' → g x σ H' fun σ2 H2 => tb { D with nx := N, ct := N, bk := D.nx } σ2 H2) := by
  refine ⟨fun i m σ H => m = n - i ∧ i ≤ n ∧ Pv i σ H, ⟨n, by simp, Nat.zero_le _, h0⟩, ?_⟩
  rintro i m σ H ⟨rfl, hi, p⟩
  by_cases hlt : i < n
  · refine .inr ⟨hlt, Pv (i + 1), fun σ' H' p' => ⟨n - (i + 1), by omega, rfl, hlt, p'⟩, fun x H' y => ?_⟩
    obtain ⟨e, y⟩ := y
    subst e y
    exact hs i σ _ hlt p
  · have e : i = n := by omega
    subst e
    exact .inl ⟨Nat.le_refl _, hd σ H p⟩
noncomputable def rMaxL (K : PySem.W.Frag) : List V → Hp → VK → Prop := fun xs H Q => ∃ (p : Addr) (ns : List Int), xs = [.ref p] ∧ SqL K H p (ns.map V.int) ∧ 0 < ns.length ∧ ∀ M, M ∈ ns → (∀ a, a ∈ ns → a ≤ M) → Q (.int M) H
theorem call_maxL (hc : X.calm = true) : CallR X (.builtin "max") (rMaxL X.K) := by
  intro pins s σ H xs us Q I r h
  obtain ⟨p, ns, rfl, hq, hl, q⟩ := h
  obtain ⟨u, rfl, rx⟩ := vals1 r
  cases rx
  obtain ⟨its, r', pl, hz⟩ := I.list hq
  have i1 : IntsAre its ns := intsAre_of r'
  obtain ⟨its0, e0⟩ := i1.allInts.items
  have en : ns = its0.toList.map (·.1) := (i1.numsOf.symm.trans (by rw [← e0])).trans (nums_intItems its0)
  have el : its0.toList.length = its0.size := Array.length_toList
  have ln : ns.length = its0.size := by rw [en, List.length_map, el]
  have hL : s.heap.IsList p (intItems its0) := e0 ▸ pl.isList
  refine max_intList (I.ok.hd hc) hL (by omega) fun best h' tk hbest kept => ?_
  obtain ⟨tok, hv⟩ := intItems_at hbest
  subst hv
  have am := argBest_gt (numAt its0) (its0.size - 1)
  refine ⟨.int _, H, I.kept kept, ⟨tok, rfl⟩, q _ ?_ fun z hz => ?_⟩
  · rw [en]
    have := am.1
    rw [numAt_eq]
    exact getD_mem (by rw [List.length_map, el]; omega)
  · rw [en] at hz
    obtain ⟨k, hk, ez⟩ := mem_getD hz
    subst ez
    have hk2 : k < its0.size := by rw [List.length_map, el] at hk; exact hk
    have := am.2 k (by omega)
    rw [numAt_eq] at this
    exact this
noncomputable def rLen (K : PySem.W.Frag) : List V → Hp → VK → Prop := fun xs H Q => ∃ p ys, xs = [.ref p] ∧ (SqL K H p ys ∨ SqT K H p ys) ∧ Q (.int ys.length) H
theorem call_lenN : CallR X (.builtin "len") (rLen X.K) := call_len_seq
noncomputable def rTupOf (K : PySem.W.Frag) : List V → Hp → VK → Prop := fun xs H Q => ∃ p ys, xs = [.ref p] ∧ ((SqL K H p ys ∧ ∀ l, H l = none → Q (.ref l) (upd H l (.tup ys))) ∨ (SqT K H p ys ∧ Q (.ref p) H))
theorem call_tupN : CallR X (.type "tuple") (rTupOf X.K) := call_tuple_of
noncomputable def rInt1 : List V → Hp → VK → Prop := fun xs H Q => (∃ i, xs = [.int i] ∧ Q (.int i) H) ∨ ∃ k, xs = [.bl k] ∧ Q (.int (if k then 1 else 0)) H
theorem call_intN : CallR X (.type "int") rInt1 := call_int1
noncomputable def rMax2 : List V → Hp → VK → Prop := fun xs H Q => ∃ i j, xs = [.int i, .int j] ∧ Q (.int (if j > i then j else i)) H
theorem call_max2N (hc : X.calm = true) : CallR X (.builtin "max") rMax2 := call_max2 hc
end
end L2
set_option Elab.async false
set_option linter.all false
set_option maxRecDepth 100000
set_option maxHeartbeats 4000000
namespace L2
open PySem PySem.Spec PyProof.Rows
noncomputable def Ext (H H' : Hp) : Prop := ∀ b o, H b = some o → H' b = some o
theorem Ext.rfl' (H : Hp) : Ext H H := fun _ _ h => h
theorem Ext.trans {H H1 H2 : Hp} (a : Ext H H1) (b : Ext H1 H2) : Ext H H2 := fun x o h => b x o (a x o h)
theorem Ext.none {H H' : Hp} (e : Ext H H') {l : Addr} (h : H' l = Option.none) : H l = Option.none := by
  cases q : H l with
  | none => rfl
  | some o => rw [e l o q] at h; cases h
section
variable {X : Cx} (K : PySem.W.Frag)
theorem ix_listK (h : X.K = K := by rfl) : IxR X (rIxL K) := by subst h; exact ix_list
theorem ix_tupK (h : X.K = K := by rfl) : IxR X (rIxT K) := by subst h; exact ix_tup
theorem sl_listK (h : X.K = K := by rfl) : SlR X (rSlL K) := by subst h; exact sl_list
theorem call_lenK (h : X.K = K := by rfl) : CallR X (.builtin "len") (rLen K) := by subst h; exact call_lenN
theorem call_tupK (h : X.K = K := by rfl) : CallR X (.type "tuple") (rTupOf K) := by subst h; exact call_tupN
theorem call_maxLK (hc : X.calm = true) (h : X.K = K := by rfl) : CallR X (.builtin "max") (rMaxL K) := by subst h; exact call_maxL hc
theorem pi_listK {tg l : Expr} {tl : TE} (hl : PE X l tl) (h : X.K = K := by rfl) : PI X tg l (iList K tl) := by subst h; exact pi_list hl
theorem pi_tupK {tg l : Expr} {tl : TE} (hl : PE X l tl) (h : X.K = K := by rfl) : PI X tg l (iTup K tl) := by subst h; exact pi_tup hl
theorem pg_tupK {es : List Expr} {k : Nat} {t : TGs} {n : Nat} {pos : Pos} (hc : X.calm = true) (hg : PGs X es t) (h : X.K = K := by rfl)
    (hn : (assignEach es X.env).length = n := by rfl) (hst : (assignEach es X.env).findIdx? (·.1) = none := by rfl) : PG X (.Tuple es k pos) (gTup K n t) := by subst h; exact pg_tup hc hg hn hst
theorem pe_bmK {o e : Expr} {es : List Expr} {to : TE} {t : TA} {name : Str} {apos cpos : Pos} {T id : String} {r : V → List V → Hp → VK → Prop} (pa : PlainAttrs T) (slot : Slot T name id) (hty : typeOf (.builtin id) = pure (.type "method_descriptor")) (hm : MtR X id r) (ho : PE X o to) (ha : PA X (e :: es) t) (h : X.K = K := by rfl)
    (hbase : attributeBase o name X.env (eval o X.env) = eval o X.env := by rfl)
    (hfew : ((backTo cpos (starEach (e :: es) X.env)).all (fun x => !x.1) && (backToKw cpos (keywordEach [] X.env)).all (fun x => x.1.isSome)
      && decide ((e :: es).length + ([] : List Keyword).length + (if ([] : List Keyword).isEmpty then 0 else 1) < 30)) = true := by rfl)
    (hline : (apos.endLine == cpos.line) = true := by rfl) (hs : starEach (e :: es) X.env = (false, eval e X.env) :: starEach es X.env := by rfl) (hplain : (backTo cpos (starEach es X.env)).any (·.1) = false := by rfl) :
    PE X (.Call (.Attribute o name apos) (e :: es) [] cpos) (tBM K T r to t) := by subst h; exact pe_bm pa slot hty hm ho ha hbase hfew hline hs hplain
end
noncomputable def tInts (ns : List Int) : TA := fun _ H Q => Q (ns.map V.int) H
inductive IntsE : List Expr → List Int → Prop
  | n : IntsE [] []
  | c {i j pos es ns} : IntsE es ns → IntsE (.Constant (.int i) j pos :: es) (i :: ns)
theorem pa_ints {X : Cx} {es : List Expr} {ns : List Int} (h : IntsE es ns) : PA X es (tInts ns) := by
  induction h with
  | n => exact pa_nil
  | @c i j pos es ns _ ih =>
    intro p pins s σ H Q I hq
    exact pa_cons (e := .Constant (.int i) j pos) pe_int ih rfl p pins s σ H Q I hq
theorem rd_ints {σ : St} {H : Hp} {ns : List Int} {R : List V → Hp → Prop} (h : R (ns.map V.int) H) : tInts ns σ H R := h
theorem ps_menu {X : Cx} {K : PySem.W.Frag} {i : Nat} {x : Str} {es : List Expr} {ns : List Int} {b : Expr} {tb : TE} {p1 p2 pos pos' : Pos} (hN : X.N.Nodup) (hi : X.N[i]? = some x) (hx : Loc X.env.scope x) (hE : IntsE es ns) (hb : PE X b tb) (hs : PlainIx b) (hK : X.K = K)
    (hsw : swapsWith (.Subscript (.List es p1) b p2) (some (.Name x pos')) pos.line X.env = pure false) (hf : X.fn x = true ∨ X.env.scope.names.lookup x = some .local) :
    PSs X [.Assign [.Name x pos'] (.Subscript (.List es p1) b p2) pos] (tAsg (tOp (rIxL K) (tLst (tInts ns)) tb) (gName i)) :=
  pss_one (ps_set hN hi hx (pe_ix (ix_listK K hK) (pe_lst (pa_ints hE)) hb hs) hsw hf)
noncomputable def tIfJ (c : TT) (t u : TS) : TS := fun D σ H => ∃ R : St → Hp → Prop, (c σ H fun b H1 => if b = true then t { D with nx := R } σ H1 else u { D with nx := R } σ H1) ∧ ∀ σ' H', R σ' H' → D.nx σ' H'
theorem ps_ifJ {X : Cx} {c : Expr} {a b : List Stmt} {tc : TT} {t u : TS} {pos : Pos} (hc : PT X c tc) (ha : PSs X a t) (hb : PSs X b u) : PS X (.If c a b pos) (tIfJ tc t u) := by
  intro pins s σ H D I h
  obtain ⟨R, h, hR⟩ := h
  refine thn (ps_if hc ha hb pins s σ H { D with nx := R } I h) fun f s1 q => ?_
  cases f with
  | next =>
    obtain ⟨σ', H', I', q⟩ := q
    exact ⟨σ', H', I', hR σ' H' q⟩
  | ret v => exact q
  | brk => exact q
  | cont => exact q
noncomputable def rItL (K : PySem.W.Frag) : V → Hp → (It → Hp → Prop) → Prop := fun x H R => ∃ a, x = .ref a ∧ (∃ xs, SqL K H a xs) ∧ R (Itl K a) H
noncomputable def rItT (K : PySem.W.Frag) : V → Hp → (It → Hp → Prop) → Prop := fun x H R => ∃ a, x = .ref a ∧ (∃ xs, SqT K H a xs) ∧ R (Itt K a) H
noncomputable def rIt1 : List V → Hp → (It → Hp → Prop) → Prop := fun vs H R => ∃ j : Int, vs = [.int j] ∧ -(2 ^ 62) ≤ j ∧ j < 2 ^ 62 ∧ R (Itr 0 j.toNat) H
noncomputable def rIt2 : List V → Hp → (It → Hp → Prop) → Prop := fun vs H R => ∃ i j : Int, vs = [.int i, .int j] ∧ (-(2 ^ 62) ≤ i ∧ i < 2 ^ 62 ∧ -(2 ^ 62) ≤ j ∧ j < 2 ^ 62) ∧ R (Itr i (j - i).toNat) H
noncomputable def rIt3 : List V → Hp → (It → Hp → Prop) → Prop := fun vs H R => ∃ i j c : Int, vs = [.int i, .int j, .int c] ∧ SmallR i j c ∧ R (ItrS i c (nRng i j c)) H
noncomputable def ForBody (J : It) (g : TG) (tb : TS) (D : Ends) (σ : St) (H : Hp) : Prop := ∃ W : Nat → Nat → St → Hp → Prop, (∃ m, W 0 m σ H) ∧ ∀ i m σ H, W i m σ H →
  (J.stop i H ∧ D.nx σ H) ∨ (J.go i H ∧ ∃ N : St → Hp → Prop, (∀ σ' H', N σ' H' → ∃ m', m' < m ∧ W (i + 1) m' σ' H') ∧ ∀ x H', J.yld i H x H' → g x σ H' fun σ2 H2 => tb { D with nx := N, ct := N, bk := D.nx } σ2 H2)
theorem forT {K : PySem.W.Frag} {a : Addr} {xs : List V} {g : TG} {tb : TS} {D : Ends} {σ : St} {H : Hp} (Pv : Nat → St → Hp → Prop) (h0 : Pv 0 σ H) (hl : ∀ i σ H, i ≤ xs.length → Pv i σ H → SqT K H a xs)
    (hs : ∀ i x σ H, xs[i]? = some x → Pv i σ H → g x σ H fun σ2 H2 => tb ⟨Pv (i + 1), D.rt, D.nx, Pv (i + 1)⟩ σ2 H2) (hd : ∀ σ H, Pv xs.length σ H → D.nx σ H) : ForBody (Itt K a) g tb D σ H := for_tup Pv h0 hl hs hd
theorem forR {lo : Int} {n : Nat} {g : TG} {tb : TS} {D : Ends} {σ : St} {H : Hp} (Pv : Nat → St → Hp → Prop) (h0 : Pv 0 σ H)
    (hs : ∀ i σ H, i < n → Pv i σ H → g (.int (lo + i)) σ H fun σ2 H2 => tb ⟨Pv (i + 1), D.rt, D.nx, Pv (i + 1)⟩ σ2 H2) (hd : ∀ σ H, Pv n σ H → D.nx σ H) : ForBody (Itr lo n) g tb D σ H := for_range Pv h0 hs hd
theorem forS {lo c : Int} {n : Nat} {g : TG} {tb : TS} {D : Ends} {σ : St} {H : Hp} (Pv : Nat → St → Hp → Prop) (h0 : Pv 0 σ H)
    (hs : ∀ i σ H, i < n → Pv i σ H → g (.int (lo + i * c)) σ H fun σ2 H2 => tb ⟨Pv (i + 1), D.rt, D.nx, Pv (i + 1)⟩ σ2 H2) (hd : ∀ σ H, Pv n σ H → D.nx σ H) : ForBody (ItrS lo c n) g tb D σ H := for_rangeS Pv h0 hs hd
noncomputable def New (H : Hp) (o : HO) (R : VK) : Prop := ∀ p, H p = none → R (.ref p) (upd H p o)
section
variable {K : PySem.W.Frag} {D : Ends} {σ : St} {H : Hp} {Q : VK} {ta tb tc te : TE} {t u : TS} {c c' : TT}
theorem rd_seq (h : t ⟨u D, D.rt, D.bk, D.ct⟩ σ H) : tSeq t u D σ H := h
theorem rd_next (h : D.nx σ H) : tNext D σ H := h
theorem rd_ret (h : te σ H D.rt) : tRet te D σ H := h
theorem rd_asg {g : TG} (h : te σ H fun x H1 => g x σ H1 D.nx) : tAsg te g D σ H := h
theorem rd_drop (h : te σ H fun _ H1 => D.nx σ H1) : tDrop te D σ H := h
theorem rd_ifS (h : c σ H fun b H1 => if b = true then t D σ H1 else u D σ H1) : tIfS c t u D σ H := h
theorem rd_ifJ (R : St → Hp → Prop) (h : c σ H fun b H1 => if b = true then t ⟨R, D.rt, D.bk, D.ct⟩ σ H1 else u ⟨R, D.rt, D.bk, D.ct⟩ σ H1) (k : ∀ σ' H', R σ' H' → D.nx σ' H') : tIfJ c t u D σ H := ⟨R, h, k⟩
theorem rd_ifN (h : c σ H fun b H1 => if b = true then t D σ H1 else u D σ H1) : tIfJ c t u D σ H := ⟨D.nx, h, fun _ _ h => h⟩
theorem rd_name {i : Nat} {v : V} {R : St → Hp → Prop} (h : R (σ.set i (some v)) H) : gName i v σ H R := h
theorem rd_var {i : Nat} {v : V} (e : σ[i]? = some (some v)) (h : Q v H) : tVar i σ H Q := ⟨v, e, h⟩
theorem rd_c {v : V} (h : Q v H) : tC v σ H Q := h
theorem rd_op {r : R2} (h : ta σ H fun x H1 => tb σ H1 fun y H2 => r x y H2 Q) : tOp r ta tb σ H Q := h
theorem rd_un {r : V → Hp → VK → Prop} (h : ta σ H fun x H1 => r x H1 Q) : tUn r ta σ H Q := h
theorem rd_CB {r : List V → Hp → VK → Prop} {a : TA} (h : a σ H fun vs H1 => r vs H1 Q) : tCB r a σ H Q := h
theorem rd_cons {a : TA} {R : List V → Hp → Prop} (h : ta σ H fun x H1 => a σ H1 fun xs H2 => R (x :: xs) H2) : tCons ta a σ H R := h
theorem rd_nil {R : List V → Hp → Prop} (h : R [] H) : tNil σ H R := h
theorem rd_test {R : Bool → Hp → Prop} (h : te σ H fun x H' => ∃ k, x = .bl k ∧ R k H') : tTest te σ H R := h
theorem rd_B {R : Bool → Hp → Prop} (h : te σ H fun x H' => ∃ k, x = .bl k ∧ R k H') : tB te σ H R := h
theorem rd_exb {b : Bool} {R : Bool → Prop} (h : R b) : ∃ k, V.bl b = V.bl k ∧ R k := ⟨b, rfl, h⟩
theorem rd_not {R : Bool → Hp → Prop} (h : c σ H fun b H1 => R (!b) H1) : tNot c σ H R := h
theorem rd_and {R : Bool → Hp → Prop} (h : c σ H fun b H1 => if b = true then c' σ H1 R else R false H1) : tAnd c c' σ H R := h
theorem rd_or {R : Bool → Hp → Prop} (h : c σ H fun b H1 => if b = true then R true H1 else c' σ H1 R) : tOr c c' σ H R := h
theorem rd_andV (h : ta σ H fun x H1 => ∃ k, x = .bl k ∧ if k = true then tb σ H1 Q else Q (.bl false) H1) : tAndV ta tb σ H Q := h
theorem rd_notV (h : ta σ H fun x H1 => ∃ k, x = .bl k ∧ Q (.bl (!k)) H1) : tNotV ta σ H Q := h
theorem rd_yes {R : Bool → Hp → Prop} (h : R true H) : tYes σ H R := h
theorem rd_I0 {g : Int → Int → V} {i j : Int} (h : Q (g i j) H) : rI0 g (.int i) (.int j) H Q := ⟨i, j, rfl, rfl, h⟩
theorem rd_I {C : Int → Int → Prop} {g : Int → Int → V} {i j : Int} (hc : C i j) (h : Q (g i j) H) : rI C g (.int i) (.int j) H Q := ⟨i, j, rfl, rfl, hc, h⟩
theorem rd_U {g : Int → V} {i : Int} (h : Q (g i) H) : rU g (.int i) H Q := ⟨i, rfl, h⟩
theorem rd_EqI {i j : Int} (h : Q (.bl (decide (i = j))) H) : rEq (.int i) (.int j) H Q := ⟨rfl, by
  have e : decide (V.int i = V.int j) = decide (i = j) := by rw [Bool.eq_iff_iff]; simp
  rw [e]; exact h⟩
theorem rd_NeI {i j : Int} (h : Q (.bl (!decide (i = j))) H) : rNe (.int i) (.int j) H Q := ⟨rfl, by
  have e : decide (V.int i = V.int j) = decide (i = j) := by rw [Bool.eq_iff_iff]; simp
  rw [e]; exact h⟩
theorem rd_EqB {i j : Bool} (h : Q (.bl (i == j)) H) : rEq (.bl i) (.bl j) H Q := ⟨rfl, by rw [dec_bl]; exact h⟩
theorem rd_ixL {p : Addr} {xs : List V} {i : Int} {v : V} (e : SqL K H p xs) (a : atI xs i = some v) (h : Q v H) : rIxL K (.ref p) (.int i) H Q := ⟨p, xs, i, v, rfl, rfl, e, a, h⟩
theorem rd_ixT {p : Addr} {xs : List V} {i : Int} {v : V} (e : SqT K H p xs) (a : atI xs i = some v) (h : Q v H) : rIxT K (.ref p) (.int i) H Q := ⟨p, xs, i, v, rfl, rfl, e, a, h⟩
theorem rd_lenL {p : Addr} {xs : List V} (e : SqL K H p xs) (h : Q (.int xs.length) H) : rLen K [.ref p] H Q := ⟨p, xs, rfl, .inl e, h⟩
theorem rd_lenT {p : Addr} {xs : List V} (e : SqT K H p xs) (h : Q (.int xs.length) H) : rLen K [.ref p] H Q := ⟨p, xs, rfl, .inr e, h⟩
theorem rd_tupL {p : Addr} {xs : List V} (e : SqL K H p xs) (h : New H (.tup xs) Q) : rTupOf K [.ref p] H Q := ⟨p, xs, rfl, .inl ⟨e, h⟩⟩
theorem rd_isi {x : V} {n T : String} {b : Bool} (hk : kindV H x n) (hb : isiB n T = some b) (h : Q (.bl b) H) : rIsi [x, .ty T] H Q := ⟨x, n, T, b, rfl, hk, hb, h⟩
theorem rd_intB {k : Bool} (h : Q (.int (if k then 1 else 0)) H) : rInt1 [.bl k] H Q := .inr ⟨k, rfl, h⟩
theorem rd_max2 {i j : Int} (h : Q (.int (if j > i then j else i)) H) : rMax2 [.int i, .int j] H Q := ⟨i, j, rfl, h⟩
theorem rd_call {sp : Sp} {a : TA} {E : XK} (h : a σ H fun vs H1 => sp (vs ++ []) H1 Q E) : tCall sp [] E a σ H Q := h
theorem rd_BM {T : String} {r : V → List V → Hp → VK → Prop} {a : TA} (h : te σ H fun x H1 => tyV K T x H1 ∧ a σ H1 fun xs H2 => r x xs H2 Q) : tBM K T r te a σ H Q := h
theorem rd_tup {a : TA} (h : a σ H fun xs H1 => xs.length ≤ sizeLine ∧ New H1 (.tup xs) Q) : tTup a σ H Q := h
theorem rd_lst {a : TA} (h : a σ H fun xs H1 => xs.length ≤ sizeLine ∧ New H1 (.lst xs) Q) : tLst a σ H Q := h
theorem rd_sl {r : V → Option Int → Option Int → Hp → VK → Prop} {tl th : TO} (h : te σ H fun x H1 => tl σ H1 fun l H2 => th σ H2 fun v H3 => r x l v H3 Q) : tSl r te tl th σ H Q := h
theorem rd_noPart {R : Option Int → Hp → Prop} (h : R none H) : tNoPart σ H R := h
theorem rd_part {R : Option Int → Hp → Prop} (h : te σ H fun x H1 => ∃ i, x = .int i ∧ R (some i) H1) : tPart te σ H R := h
theorem rd_exi {i : Int} {R : Int → Prop} (h : R i) : ∃ k, V.int i = V.int k ∧ R k := ⟨i, rfl, h⟩
theorem rd_chain {r r' : R2} (h : ta σ H fun x H1 => tb σ H1 fun y H2 => r x y H2 fun z H3 => ∃ k, z = .bl k ∧ (if k = true then tc σ H3 fun w' H4 => r' y w' H4 Q else Q (.bl false) H3)) : tChain r r' ta tb tc σ H Q := h
theorem rd_comp {n : Nat} {js : List Nat} {wi : TI} {g : TG} (h : wi σ H fun J H1 => CompBody J n js g c te σ H1 Q) : tComp n js wi g c te σ H Q := h
theorem rd_iL {R : It → Hp → Prop} (h : te σ H fun x H1 => rItL K x H1 R) : iList K te σ H R := h
theorem rd_iT {R : It → Hp → Prop} (h : te σ H fun x H1 => rItT K x H1 R) : iTup K te σ H R := h
theorem rd_iLx {p : Addr} {xs : List V} {R : It → Hp → Prop} (e : SqL K H p xs) (h : R (Itl K p) H) : rItL K (.ref p) H R := ⟨p, rfl, ⟨xs, e⟩, h⟩
theorem rd_iTx {p : Addr} {xs : List V} {R : It → Hp → Prop} (e : SqT K H p xs) (h : R (Itt K p) H) : rItT K (.ref p) H R := ⟨p, rfl, ⟨xs, e⟩, h⟩
theorem rd_i1 {a : TA} {R : It → Hp → Prop} (h : a σ H fun vs H1 => rIt1 vs H1 R) : iRng1 a σ H R := h
theorem rd_i1x {j : Int} {R : It → Hp → Prop} (h1 : -(2 ^ 62) ≤ j ∧ j < 2 ^ 62) (h : R (Itr 0 j.toNat) H) : rIt1 [.int j] H R := ⟨j, rfl, h1.1, h1.2, h⟩
theorem rd_i2 {a : TA} {R : It → Hp → Prop} (h : a σ H fun vs H1 => rIt2 vs H1 R) : iRng2 a σ H R := h
theorem rd_i2x {i j : Int} {R : It → Hp → Prop} (h1 : -(2 ^ 62) ≤ i ∧ i < 2 ^ 62 ∧ -(2 ^ 62) ≤ j ∧ j < 2 ^ 62) (h : R (Itr i (j - i).toNat) H) : rIt2 [.int i, .int j] H R := ⟨i, j, rfl, h1, h⟩
theorem rd_i3 {a : TA} {R : It → Hp → Prop} (h : a σ H fun vs H1 => rIt3 vs H1 R) : iRng3 a σ H R := h
theorem rd_i3x {i j c : Int} {R : It → Hp → Prop} (h1 : SmallR i j c) (h : R (ItrS i c (nRng i j c)) H) : rIt3 [.int i, .int j, .int c] H R := ⟨i, j, c, rfl, h1, h⟩
theorem rd_for {wi : TI} {g : TG} (h : wi σ H fun J H1 => ForBody J g t D σ H1) : tFor wi g t D σ H := h
theorem rd_append {l : Addr} {xs : List V} {y : V} (e : H l = some (.lst xs)) (hz : xs.length < sizeLine) (h : Q .non (upd H l (.lst (xs ++ [y])))) : rAppend (.ref l) [y] H Q := ⟨l, xs, y, rfl, rfl, e, hz, h⟩
theorem rd_tyL {p : Addr} {xs : List V} (e : SqL K H p xs) : tyV K "list" (.ref p) H := .inl ⟨rfl, xs, e⟩
theorem rd_sub {to ti : TE} {w : TSet} {v : V} {R : St → Hp → Prop} (h : to σ H fun o H1 => ti σ H1 fun i H2 => w o i v H2 fun H3 => R σ H3) : gSub to ti w v σ H R := h
theorem rd_setL {p : Addr} {xs : List V} {k : Int} {j : Nat} {v : V} {R : Hp → Prop} (e : H p = some (.lst xs)) (a : ixN xs.length k = some j) (h : R (upd H p (.lst (xs.set j v)))) : rSetL (.ref p) (.int k) v H R := ⟨p, xs, k, j, rfl, rfl, e, a, h⟩
theorem rd_gtup {n : Nat} {g : TGs} {a : Addr} {xs : List V} {R : St → Hp → Prop} (e : SqT K H a xs) (hl : xs.length = n) (h : g xs σ H R) : gTup K n g (.ref a) σ H R := ⟨a, xs, rfl, e, hl, h⟩
theorem rd_gcons {g : TG} {gs : TGs} {v : V} {r : List V} {R : St → Hp → Prop} (h : g v σ H fun σ' H' => gs r σ' H' R) : gCons g gs (v :: r) σ H R := ⟨v, r, rfl, h⟩
theorem rd_gnil {R : St → Hp → Prop} (h : R σ H) : gNil [] σ H R := ⟨rfl, h⟩
theorem rd_cat {l b : Addr} {xs zs : List V} (e1 : H l = some (.lst xs)) (e2 : H b = some (.lst zs)) (hz : xs.length + zs.length ≤ sizeLine) (h : New H (.lst (xs ++ zs)) Q) : rCat (.ref l) (.ref b) H Q := ⟨l, b, xs, zs, rfl, rfl, e1, e2, hz, h⟩
theorem rd_rep {l : Addr} {k : Int} {xs : List V} (e : H l = some (.lst xs)) (hk : 0 ≤ k ∧ k < 10 ^ 6) (hz : xs.length * k.toNat ≤ sizeLine) (h : New H (.lst (List.replicate k.toNat xs).flatten) Q) : rRep (.ref l) (.int k) H Q :=
  ⟨l, k, xs, rfl, rfl, e, by omega, by omega, hz, h⟩
theorem rd_slL {a : Addr} {xs : List V} {lo hi : Option Int} (e : SqL K H a xs) (h : New H (.lst (cutV xs lo hi)) Q) : rSlL K (.ref a) lo hi H Q := ⟨a, xs, rfl, e, h⟩
theorem rd_new {o : HO} {R : VK} (h : ∀ p H', Ext H H' → H' p = some o → H p = none → R (.ref p) H') : New H o R := fun p hp =>
  h p _ (fun b u e => by rw [upd_ne (ne_of_none e hp)]; exact e) upd_same hp
theorem ext_upd {p : Addr} {o : HO} (hp : H p = none) : Ext H (upd H p o) := fun b u e => by rw [upd_ne (ne_of_none e hp)]; exact e
theorem SqL.ext {H' : Hp} {p : Addr} {xs : List V} (e : Ext H H') (h : SqL K H p xs) : SqL K H' p xs := by
  rcases h with (h | ⟨o, h⟩) | h
  · exact .inl (.inl (e _ _ h))
  · exact .inl (.inr ⟨o, e _ _ h⟩)
  · exact .inr h
end
theorem atI_of {α : Type} {xs : List α} {i : Int} {v : α} (h0 : 0 ≤ i) (h : xs[i.toNat]? = some v) : atI xs i = some v := by
  have := atI_nat h
  rwa [Int.toNat_of_nonneg h0] at this
theorem ixN_of {n : Nat} {i : Int} (h0 : 0 ≤ i) (h : i < n) : ixN n i = some i.toNat := by unfold ixN; rw [if_pos h0, if_pos h]
end L2
set_option Elab.async false
set_option linter.all false
set_option maxRecDepth 100000
set_option maxHeartbeats 4000000
namespace L2
open PySem PySem.Spec PyProof.Rows
noncomputable def flatD : V → PyData → Prop
  | .non, .none => True
  | .bl b, .bool c => b = c
  | .int i, .int j => i = j
  | .str x, .str y => x = y ∧ (PyData.str y).canLay0 = true
  | _, _ => False
noncomputable def RepD (H : Hp) : Nat → V → PyData → Prop
  | 0, x, d => flatD x d
  | n + 1, x, d => flatD x d ∨ ∃ a xs ds, x = .ref a ∧ ((H a = some (.tup xs) ∧ d = .tuple ds) ∨ (H a = some (.lst xs) ∧ d = .list ds)) ∧ Paired (RepD H n) xs ds
section
variable {X : Cx} {pins : List (Addr × Obj)} {σ : St} {H : Hp} {s : Shared}
theorem flatD.reads {x : V} {d : PyData} {u : Value} (h : flatD x d) (r : RelV x u) : ∃ as, Reads s.heap u d as := by
  cases x with
  | non => cases d <;> first | exact False.elim h | (cases r; exact ⟨_, .none⟩)
  | bl b => cases d <;> first | exact False.elim h | (cases (show b = _ from h); cases r; exact ⟨_, .bool _⟩)
  | int i => cases d <;> first | exact False.elim h | (cases (show i = _ from h); obtain ⟨t, rfl⟩ := r; exact ⟨_, .int _ t⟩)
  | str z => cases d <;> first | exact False.elim h | (cases (show z = _ ∧ _ from h).1; obtain ⟨t, rfl⟩ := r; exact ⟨_, .str _ t⟩)
  | _ => cases d <;> exact False.elim h
theorem flatD.lay {x : V} {d : PyData} (h : flatD x d) : d.canLay0 = true ∧ d.depth = 0 := by
  cases x <;> cases d <;> first | exact False.elim h | exact ⟨rfl, rfl⟩ | exact ⟨h.2, rfl⟩
theorem reads_all {R : V → PyData → Prop} (ih : ∀ {x : V} {d : PyData} {u : Value}, R x d → RelV x u → ∃ as, Reads s.heap u d as) : ∀ {xs : List V} {ds : List PyData} {us : List Value}, Paired R xs ds → Vals xs us → ∃ as, ReadsAll s.heap us ds as := by
  intro xs ds us h
  induction h generalizing us with
  | nil => intro q; cases q; exact ⟨_, .nil⟩
  | cons h t ih2 =>
    intro q
    cases q with
    | cons r rt =>
      obtain ⟨as, ha⟩ := ih h r
      obtain ⟨bs, hb⟩ := ih2 rt
      exact ⟨_, .cons ha hb⟩
theorem RepD.reads (I : Inv X pins σ H s) : ∀ (n : Nat) {x : V} {d : PyData} {u : Value}, RepD H n x d → RelV x u → ∃ as, Reads s.heap u d as
  | 0, _, _, _, h, r => flatD.reads h r
  | n + 1, x, d, u, h, r => by
    rcases h with h | ⟨a, xs, ds, rfl, hh, hp⟩
    · exact flatD.reads h r
    · cases r
      rcases hh with ⟨e, rfl⟩ | ⟨e, rfl⟩
      · obtain ⟨its, rv, ⟨o, ho, hc, k, hd⟩, _⟩ := I.tuple (SqT.of e)
        obtain ⟨as, ha⟩ := reads_all (fun {x d u} => RepD.reads I n) hp rv
        exact ⟨_, .tuple ho hc hd (by simpa using ha)⟩
      · obtain ⟨its, k, rv, ho, _⟩ := I.lst e
        obtain ⟨as, ha⟩ := reads_all (fun {x d u} => RepD.reads I n) hp rv
        exact ⟨_, .list ho rfl rfl (by simpa using ha)⟩
theorem lay_all {R : V → PyData → Prop} {m : Nat} (ih : ∀ {x : V} {d : PyData}, R x d → d.canLay0 = true ∧ d.depth ≤ m) : ∀ {xs : List V} {ds : List PyData}, Paired R xs ds → PyData.canLayAll0 ds = true ∧ PyData.depthAll ds ≤ m
  | _, _, .nil => ⟨rfl, Nat.zero_le _⟩
  | _, _, .cons h t => by
    obtain ⟨h1, h2⟩ := ih h
    obtain ⟨h3, h4⟩ := lay_all ih t
    refine ⟨?_, ?_⟩
    · simp only [PyData.canLayAll0, h1, h3, Bool.and_self]
    · simp only [PyData.depthAll]
      exact Nat.max_le.mpr ⟨h2, h4⟩
theorem RepD.lay : ∀ (n : Nat) {x : V} {d : PyData}, RepD H n x d → d.canLay0 = true ∧ d.depth ≤ n
  | 0, _, _, h => ⟨(flatD.lay h).1, Nat.le_of_eq (flatD.lay h).2⟩
  | n + 1, x, d, h => by
    rcases h with h | ⟨a, xs, ds, rfl, hh, hp⟩
    · exact ⟨(flatD.lay h).1, by rw [(flatD.lay h).2]; exact Nat.zero_le _⟩
    · obtain ⟨h1, h2⟩ := lay_all (fun {x d} => RepD.lay n) hp
      rcases hh with ⟨e, rfl⟩ | ⟨e, rfl⟩
      · exact ⟨h1, Nat.succ_le_succ h2⟩
      · exact ⟨h1, Nat.succ_le_succ h2⟩
noncomputable def rEqD (neg : Bool) : R2 := fun x y H Q => ∃ n m d e, RepD H n x d ∧ RepD H m y e ∧ n ≤ 50 ∧ Q (.bl (if neg then !PyData.eqv d e else PyData.eqv d e)) H
theorem op_eqD {k : Nat} (hr : Room k X.A) : OpR X (compareOp .Eq) (rEqD false) := by
  intro pins s σ H x y v u Q I rx ry h
  obtain ⟨n, m, d, e, h1, h2, hn, q⟩ := h
  obtain ⟨as, ra⟩ := RepD.reads I n h1 rx
  obtain ⟨bs, rb⟩ := RepD.reads I m h2 ry
  have l1 := RepD.lay n h1
  have l2 := RepD.lay m h2
  have hu := hr.units
  have hm : min d.depth e.depth ≤ 50 := Nat.le_trans (Nat.min_le_left _ _) (Nat.le_trans l1.2 hn)
  exact SeqAt.compareEq_reads ra rb l1.1 l2.1 (by omega) ⟨.bl _, H, I, rfl, q⟩
theorem op_neD {k : Nat} (hr : Room k X.A) : OpR X (compareOp .NotEq) (rEqD true) := by
  intro pins s σ H x y v u Q I rx ry h
  obtain ⟨n, m, d, e, h1, h2, hn, q⟩ := h
  obtain ⟨as, ra⟩ := RepD.reads I n h1 rx
  obtain ⟨bs, rb⟩ := RepD.reads I m h2 ry
  have l1 := RepD.lay n h1
  have l2 := RepD.lay m h2
  have hu := hr.units
  have hm : min d.depth e.depth ≤ 50 := Nat.le_trans (Nat.min_le_left _ _) (Nat.le_trans l1.2 hn)
  exact SeqAt.compareNe_reads ra rb l1.1 l2.1 (by omega) ⟨.bl _, H, I, rfl, q⟩
end
end L2
set_option Elab.async false
set_option linter.all false
set_option maxRecDepth 100000
set_option maxHeartbeats 4000000
namespace L2
open PySem PySem.Spec PyProof.Rows
noncomputable def rAllL (K : PySem.W.Frag) : List V → Hp → VK → Prop := fun xs H Q => ∃ (p : Addr) (bs : List Bool), xs = [.ref p] ∧ SqL K H p (bs.map V.bl) ∧ Q (.bl (bs.all id)) H
theorem vals_bools : ∀ {bs : List Bool} {us : List Value}, Vals (bs.map V.bl) us → us = bs.map Value.bool
  | [], _, r => by cases r; rfl
  | b :: bs, _, r => by
    cases r with
    | cons r t => cases r; rw [vals_bools t]; rfl
theorem all_range (bs : List Bool) : ((List.range bs.length).all fun i => bs.getD i false) = bs.all id := by
  rw [Bool.eq_iff_iff, List.all_eq_true, List.all_eq_true]
  constructor
  · intro h b hb
    obtain ⟨i, hi, e⟩ := List.mem_iff_getElem.mp hb
    have := h i (List.mem_range.mpr hi)
    rw [List.getD_eq_getElem?_getD, List.getElem?_eq_getElem hi] at this
    rw [← e]
    exact this
  · intro h i hi
    have hi' := List.mem_range.mp hi
    rw [List.getD_eq_getElem?_getD, List.getElem?_eq_getElem hi']
    exact h _ (List.getElem_mem hi')
theorem call_allL {X : Cx} (K : PySem.W.Frag) (hc : X.calm = true) (hK : X.K = K := by rfl) : CallR X (.builtin "all") (rAllL K) := by
  subst hK
  intro pins s σ H xs us Q I r h
  obtain ⟨p, bs, rfl, hq, q⟩ := h
  obtain ⟨u, rfl, rx⟩ := vals1 r
  cases rx
  obtain ⟨its, rv, pl, hz⟩ := I.list hq
  have eb := vals_bools rv
  have hne : p ≠ s.heap.objs.size := Nat.ne_of_lt (by obtain ⟨o, n, e, _⟩ := pl; exact Heap.lt_size e)
  refine call_all_walk (wpAny_pyIter_list pl.isList ?_)
  have I1 : Inv X pins σ H { s with heap := s.heap.push { cls := .type "list_iterator", data := .fields #[.ref p, .int 0 0] } } := I.kept (t' := s.toks) fun b o e => Heap.get?_push_of_some _ e
  have hf := I.fpOk (H' := H) (Nat.le_refl s.heap.objs.size) I.fresh
  refine ⟨s.heap.objs.size, _, _, _, _, _, (fun i => bs.getD i false), rfl, Walks.list (A := X.A.in1) (I.ok.hd hc) _ p hne its.toArray, ⟨⟨_, Heap.get?_push_size _ rfl, rfl, rfl⟩, ?_⟩, ?_, fun h' tk hk => ?_⟩
  · exact pl.isList.push _
  · intro i v s' Q' E' hv hQ
    rw [eb] at hv
    have hv' : (bs.map Value.bool)[i]? = some v := by simpa using hv
    rw [List.getElem?_map] at hv'
    cases eg : bs[i]? with
    | none => rw [eg] at hv'; cases hv'
    | some b =>
      rw [eg] at hv'
      cases hv'
      have eb' : bs.getD i false = b := by rw [List.getD_eq_getElem?_getD, eg]; rfl
      have hQ' : Q' (bs.getD i false) s' := hQ
      rw [eb'] at hQ'
      exact wpAny_truthy_bool hQ'
  · obtain ⟨f0, f1, f2, f3, f4, f5⟩ := hf
    have hl := rv.length
    rw [List.length_map] at hl
    refine ⟨.bl (bs.all id), H, I1.turned (it := s.heap.objs.size) (fun b o hb e => hk b o (by simpa using hb) e) f0 f1 f3 f4 f5, ?_, q⟩
    show Value.bool _ = Value.bool _
    rw [List.size_toArray, ← hl, all_range]
end L2
set_option Elab.async false
set_option linter.all false
set_option maxRecDepth 100000
set_option maxHeartbeats 4000000
namespace L2
open PySem PySem.Spec PyProof.Rows
noncomputable def tWhileJ (c : TT) (tb : TS) : TS := fun D σ H => ∃ (W : Nat → St → Hp → Prop) (R : St → Hp → Prop), (∃ m, W m σ H) ∧ (∀ m σ H, W m σ H →
  c σ H fun b H1 => if b = true then ∃ N : St → Hp → Prop, (∀ σ' H', N σ' H' → ∃ m', m' < m ∧ W m' σ' H') ∧ tb ⟨N, D.rt, R, N⟩ σ H1 else R σ H1) ∧ ∀ σ H, R σ H → D.nx σ H
theorem ps_whileJ {X : Cx} {pos : Pos} {c : Expr} {body : List Stmt} {tc : TT} {tb : TS} (hp : PassesOwn (model X.prog X.w) X.A X.env X.xe) (hc : PT X c tc) (hb : PSs X body tb) : PS X (.While c body [] pos) (tWhileJ tc tb) := by
  intro pins s σ H D I h
  obtain ⟨W, R, w0, hs, hR⟩ := h
  refine thn (ps_while hp hc hb pins s σ H { D with nx := R } I ⟨W, w0, hs⟩) fun f s1 q => ?_
  cases f with
  | next =>
    obtain ⟨σ', H', I', q⟩ := q
    exact ⟨σ', H', I', hR σ' H' q⟩
  | ret v => exact q
  | brk => exact q
  | cont => exact q
section
variable {D : Ends} {σ : St} {H : Hp} {Q : VK} {te : TE} {t : TS} {c : TT}
theorem rd_while (W : Nat → St → Hp → Prop) (R : St → Hp → Prop) (m : Nat) (h0 : W m σ H) (hs : ∀ m σ H, W m σ H → c σ H fun b H1 => if b = true then ∃ N : St → Hp → Prop, (∀ σ' H', N σ' H' → ∃ m', m' < m ∧ W m' σ' H') ∧ t ⟨N, D.rt, R, N⟩ σ H1 else R σ H1) (k : ∀ σ H, R σ H → D.nx σ H) : tWhileJ c t D σ H := ⟨W, R, ⟨m, h0⟩, hs, k⟩
theorem rd_aug {i : Nat} {ti : TIp} {x : V} (e : σ[i]? = some (some x)) (h : te σ H fun y H1 => ti x y H1 fun z H2 => D.nx (σ.set i (some z)) H2) : tAug i te ti D σ H := ⟨x, e, h⟩
theorem rd_ipI {f : Int → Int → Int} {i j : Int} (h : Q (.int (f i j)) H) : ipI f (.int i) (.int j) H Q := ⟨i, j, rfl, rfl, h⟩
end
section
variable {prog : Program} {w : World} {A : Around} {E : Value → Shared → Prop} {s : Shared}
theorem next_tup {it t : Addr} {i : Nat} {ys : Array Value} {x : Value} {Q : Value → Shared → Prop} (gi : s.heap.IsTupleIter it t i) (gt : s.heap.IsTuple t ys) (gx : ys[i]? = some x)
    (q : ∀ h', h'.IsTupleIter it t (i + 1) → Heap.SameBut it s.heap h' → Q x { s with heap := h' }) : wpAny (model prog w) A (Builtin.SmallTypes.nextOf (.ref it)) Q E s := by
  obtain ⟨u, gu, gc, gd⟩ := id gi
  obtain ⟨v, gv, _, k, gk⟩ := gt
  unfold Builtin.SmallTypes.nextOf
  refine wpAny_bind (wpAny_callSpecial?_slot (name := Str.ofString "__next__") gi.typeIs F.slot_tuple_iterator_next (wpAny_call_entry F.slot_tuple_iterator_next gi.typeIs F.entry_tuple_iterator_next ?_ (F.args_tuple_iterator_next_1 _)))
  show wpAny _ _ (field (Value.ref it) 0 >>= _) _ _ s
  refine wpAny_bind (wpAny_field gu gd (x := Value.ref t) rfl ?_)
  show wpAny _ _ (if (Value.ref t == Value.none) = true then _ else _) _ _ s
  rw [if_neg (show ¬ (Value.ref t == Value.none) = true from Bool.false_ne_true)]
  show wpAny _ _ (field (Value.ref it) 1 >>= _) _ _ s
  refine wpAny_bind (wpAny_field gu gd (x := Value.int i 0) rfl ?_)
  show wpAny _ _ (seqItems? (Value.ref t) >>= _) _ _ s
  refine wpAny_bind (wpAny_seqItems gv gk ?_)
  simp only [Int.toNat_natCast, gx]
  refine wpAny_bind (wpAny_setField gu gd (by simp) (wpAny_pure ⟨x, rfl, wpAny_pure (q _ ?_ (Heap.SameBut.update ..))⟩))
  exact ⟨_, Heap.get?_update_self _ gu (Obj.isFreed_of_fields (Obj.data_mapFields gd _)), (Obj.cls_mapFields ..).trans gc, by rw [Obj.data_mapFields gd]; simp [rawInt]⟩
theorem stop_tup {it t : Addr} {i : Nat} {ys : Array Value} {Q : Value → Shared → Prop} (hA : A.handled = none) (gi : s.heap.IsTupleIter it t i) (gt : s.heap.IsTuple t ys) (gx : ys[i]? = none)
    (q : ∀ h' e, Heap.ExtBut it s.heap h' → (∃ o, h'.get? e = some o ∧ o.cls = .type "StopIteration") → E (.ref e) { s with heap := h' }) : wpAny (model prog w) A (Builtin.SmallTypes.nextOf (.ref it)) Q E s := by
  obtain ⟨u, gu, gc, gd⟩ := id gi
  obtain ⟨v, gv, _, k, gk⟩ := gt
  unfold Builtin.SmallTypes.nextOf
  refine wpAny_bind (wpAny_callSpecial?_slot (name := Str.ofString "__next__") gi.typeIs F.slot_tuple_iterator_next (wpAny_call_entry F.slot_tuple_iterator_next gi.typeIs F.entry_tuple_iterator_next ?_ (F.args_tuple_iterator_next_1 _)))
  show wpAny _ _ (field (Value.ref it) 0 >>= _) _ _ s
  refine wpAny_bind (wpAny_field gu gd (x := Value.ref t) rfl ?_)
  show wpAny _ _ (if (Value.ref t == Value.none) = true then _ else _) _ _ s
  rw [if_neg (show ¬ (Value.ref t == Value.none) = true from Bool.false_ne_true)]
  show wpAny _ _ (field (Value.ref it) 1 >>= _) _ _ s
  refine wpAny_bind (wpAny_field gu gd (x := Value.int i 0) rfl ?_)
  show wpAny _ _ (seqItems? (Value.ref t) >>= _) _ _ s
  refine wpAny_bind (wpAny_seqItems gv gk ?_)
  simp only [Int.toNat_natCast, gx]
  refine wpAny_bind (wpAny_rule (wpAny_bind (wpAny_setField gu gd (by simp) ?_)))
  show wpAny _ _ (newExc (Value.type "StopIteration") [] >>= _) _ _ _
  refine wpAny_bind ?_
  simp only [newExc, newTuple]
  refine wpAny_bind (wpAny_newObj_type (hd := by size_fits) ?_)
  refine wpAny_bind (m := firstArgMember _ _) (wpAny_of_eq (a := Value.none) (by first | rfl | (unfold firstArgMember; rfl)) ?_)
  refine wpAny_newObj_type (hd := by size_fits) ?_
  simp only [raiseNew]
  refine wpAny_bind (wpAny_handled ?_)
  first | rw [show Around.handled A.in1 = none from hA] | rw [hA]
  refine wpAny_bind (wpAny_pure (wpAny_throw ?_))
  exact q _ _ (((Heap.SameBut.update ..).extBut.push _).push _) ⟨_, Heap.get?_push_size _ rfl, rfl⟩
end
structure Sub (P : Program) (w : World) (K : PySem.W.Frag) (J : It) (it : Addr) (tn : Nat → Heap → Prop) : Prop where
  obj : ∀ i h, tn i h → ∃ o, h.get? it = some o ∧ ∀ v, o.data ≠ .cell v
  keep : ∀ i h h', tn i h → (∀ o, h.get? it = some o → h'.get? it = some o) → tn i h'
  item : ∀ (X : Cx), X.prog = P → X.w = w → X.K = K → ∀ (A : Around) (i : Nat) (pins : List (Addr × Obj)) (s : Shared) (σ : St) (H : Hp) (Q : Value → Shared → Prop) (E : Value → Shared → Prop), Inv X pins σ H s → FpOk X pins H it → tn i s.heap → J.go i H →
    (∀ x u h', Inv X pins σ H { s with heap := h' } → RelV x u → J.yld i H x H → tn (i + 1) h' → Heap.SameBut it s.heap h' → Q u { s with heap := h' }) → wpAny (model P w) A (Builtin.SmallTypes.nextOf (.ref it)) Q E s
  done : ∀ (X : Cx), X.prog = P → X.w = w → X.K = K → ∀ (A : Around), A.handled = none → ∀ (i : Nat) (pins : List (Addr × Obj)) (s : Shared) (σ : St) (H : Hp) (Q : Value → Shared → Prop) (E : Value → Shared → Prop), Inv X pins σ H s → FpOk X pins H it → tn i s.heap → J.stop i H →
    (∀ h' e, Heap.ExtBut it s.heap h' → (∃ o, h'.get? e = some o ∧ o.cls = .type "StopIteration") → E (.ref e) { s with heap := h' }) → wpAny (model P w) A (Builtin.SmallTypes.nextOf (.ref it)) Q E s
theorem sub_list {P : Program} {w : World} {K : PySem.W.Frag} (a it : Addr) : Sub P w K (Itl K a) it (fun i h => h.IsListIter it a i) where
  obj := fun i h st => by
    obtain ⟨o, e, c, d⟩ := st
    exact ⟨o, e, fun v z => by rw [d] at z; cases z⟩
  keep := fun i h h' st k => st.at k
  item := by
    intro X hP hw hK A i pins s σ H Q E I hf st hg hQ
    subst hP hw hK
    obtain ⟨xs, x, hq, hx⟩ := hg
    obtain ⟨its, rv, p, hz⟩ := I.list hq
    obtain ⟨u, hu, ru⟩ := rv.get hx
    obtain ⟨f0, f1, f2, f3, f4, f5⟩ := hf
    exact wpAny_nextOf_list_item st p.isList (x := u) (by simpa using hu) fun h' st' sb => hQ x u h' (I.turned (t' := s.toks) (it := it) (fun b o hb e => (sb.2 b hb).trans e) f0 f1 f3 f4 f5) ru ⟨rfl, fun ys hy => by rw [I.list_inj hy hq]; exact hx⟩ st' sb
  done := by
    intro X hP hw hK A hA i pins s σ H Q E I hf st hg hE
    subst hP hw hK
    obtain ⟨xs, hq, hx⟩ := hg
    obtain ⟨its, rv, p, hz⟩ := I.list hq
    have hl := rv.length
    exact wpAny_nextOf_list_end hA st p.isList (by simp; omega) hE
theorem sub_tup {P : Program} {w : World} {K : PySem.W.Frag} (a it : Addr) : Sub P w K (Itt K a) it (fun i h => h.IsTupleIter it a i) where
  obj := fun i h st => by
    obtain ⟨o, e, c, d⟩ := st
    exact ⟨o, e, fun v z => by rw [d] at z; cases z⟩
  keep := fun i h h' st k => st.at k
  item := by
    intro X hP hw hK A i pins s σ H Q E I hf st hg hQ
    subst hP hw hK
    obtain ⟨xs, x, hq, hx⟩ := hg
    obtain ⟨its, rv, p, hz⟩ := I.tuple hq
    obtain ⟨u, hu, ru⟩ := rv.get hx
    obtain ⟨f0, f1, f2, f3, f4, f5⟩ := hf
    exact next_tup st (show s.heap.IsTuple a its.toArray from p) (x := u) (by simpa using hu) fun h' st' sb => hQ x u h' (I.turned (t' := s.toks) (it := it) (fun b o hb e => (sb.2 b hb).trans e) f0 f1 f3 f4 f5) ru ⟨rfl, fun ys hy => by rw [I.tuple_inj hy hq]; exact hx⟩ st' sb
  done := by
    intro X hP hw hK A hA i pins s σ H Q E I hf st hg hE
    subst hP hw hK
    obtain ⟨xs, hq, hx⟩ := hg
    obtain ⟨its, rv, p, hz⟩ := I.tuple hq
    have hl := rv.length
    exact stop_tup hA st (show s.heap.IsTuple a its.toArray from p) (by simp; omega) hE
noncomputable def Itz (J1 J2 : It) : It := ⟨fun i H => J1.go i H ∧ J2.go i H, fun i H x H' => ∃ p u v, x = .ref p ∧ H p = none ∧ H' = upd H p (.tup [u, v]) ∧ J1.yld i H u H ∧ J2.yld i H v H, fun i H => J1.stop i H ∨ (J1.go i H ∧ J2.stop i H)⟩
structure Apart (z TI TO i1 i2 : Addr) : Prop where
  a : TI ≠ z
  b : TO ≠ z
  c : i1 ≠ z
  d : i2 ≠ z
  e : TI ≠ TO
  f : TI ≠ i1
  g : TI ≠ i2
  h : TO ≠ i1
  i : TO ≠ i2
  j : i1 ≠ i2
section
variable {X : Cx} {pins : List (Addr × Obj)} {σ : St} {H : Hp} {s : Shared}
theorem Inv.same {it : Addr} {k h' : Heap} (I : Inv X pins σ H { s with heap := k }) (f : FpOk X pins H it) (b : Heap.ExtBut it k h') : Inv X pins σ H { s with heap := h' } := by
  obtain ⟨f0, f1, f2, f3, f4, f5⟩ := f
  exact Inv.turned (s := { s with heap := k }) (t' := s.toks) (it := it) I (fun c o hb e => b c o hb e) f0 f1 f3 f4 f5
theorem zip_step {J1 J2 : It} {z TI TO i1 i2 : Addr} {t1 t2 : Nat → Heap → Prop} {A : Around} {E : Value → Shared → Prop} {a b : Value} {i : Nat} {Q : Value → Shared → Prop} (S1 : Sub X.prog X.w X.K J1 i1 t1) (S2 : Sub X.prog X.w X.K J2 i2 t2) (N : Apart z TI TO i1 i2)
    (I : Inv X pins σ H s) (hf : ∀ b ∈ [z, TI, TO, i1, i2], FpOk X pins H b) (gz : IsZip s.heap z TI TO .none) (gI : IsPair s.heap TI (.ref i1) (.ref i2)) (gO : IsPair s.heap TO a b) (g1 : t1 i s.heap) (g2 : t2 i s.heap) (go1 : J1.go i H) (go2 : J2.go i H)
    (q : ∀ x y h', Inv X pins σ (upd H s.heap.objs.size (.tup [x, y])) { s with heap := h' } → J1.yld i H x H → J2.yld i H y H → IsZip h' z TI TO (rawInt s.heap.objs.size) → IsPair h' TI (.ref i1) (.ref i2) → (∃ a b, IsPair h' TO a b) → t1 (i + 1) h' → t2 (i + 1) h' → Q (.ref s.heap.objs.size) { s with heap := h' }) :
    wpAny (model X.prog X.w) A (Builtin.«zip.__next__» ⟨[.ref z], []⟩) (fun fin s' => ∃ v, fin = .done (.ret v) ∧ Q v s') E s := by
  have fz := hf z (by simp)
  have fO := hf TO (by simp)
  have f1 := hf i1 (by simp)
  have f2 := hf i2 (by simp)
  show wpAny _ _ (field (Value.ref z) 2 >>= _) _ _ _
  refine wpAny_bind (wpAny_field gz rfl (x := Value.bool false) rfl ?_)
  show wpAny _ _ (field (Value.ref z) 3 >>= _) _ _ _
  refine wpAny_bind (wpAny_field gz rfl (x := Value.ref TI) rfl ?_)
  refine wpAny_bind (wpAny_seqItems gI rfl ?_)
  show wpAny _ _ (Builtin.SmallTypes.ownedTupleIsFree (Value.ref z) >>= _) _ _ _
  refine wpAny_bind ?_
  unfold Builtin.SmallTypes.ownedTupleIsFree
  refine wpAny_bind (wpAny_field gz rfl (x := Value.none) rfl (wpAny_pure ?_))
  simp only [if_true]
  refine wpAny_bind (wpAny_rule ?_)
  refine wpAny_bind (wpAny_field gz rfl (x := Value.ref TO) rfl ?_)
  refine wpAny_bind (wpAny_setField_rec gz (by simp) fun k1 gz1 b1 => ?_)
  replace gz1 : IsZip k1 z TI TO .ellipsis := gz1
  have s1 := b1.1
  replace b1 := b1.extBut
  have I1 : Inv X pins σ H { s with heap := k1 } := Inv.same (show Inv X pins σ H { s with heap := s.heap } from I) fz b1
  refine wpAny_bind ?_
  simp only [List.zipIdx_cons, List.zipIdx_nil, List.forIn_cons, List.forIn_nil]
  refine wpAny_bind (wpAny_bind (wpAny_onRaise ?_))
  show wpAny _ _ (Builtin.SmallTypes.nextOf (Value.ref i1) >>= _) _ _ _
  refine wpAny_bind (S1.item X rfl rfl rfl _ i pins _ σ H _ _ I1 f1 (S1.keep i _ _ g1 fun o e => b1 _ _ N.c e) go1 fun x ux k2 I2 rx yx t12 b2 => wpAny_pure ?_)
  replace I2 : Inv X pins σ H { s with heap := k2 } := I2
  have s2 := b2.1
  replace b2 := b2.extBut
  have gO2 : IsPair k2 TO a b := b2 _ _ N.h (b1 _ _ N.b gO)
  refine wpAny_bind (wpAny_seqItems gO2 rfl ?_)
  refine wpAny_bind (wpAny_updateSeq_pair gO2 fun k3 gO3 b3 => ?_)
  replace gO3 : IsPair k3 TO ux b := gO3
  have s3 := b3.1
  replace b3 := b3.extBut
  have I3 : Inv X pins σ H { s with heap := k3 } := Inv.same I2 fO b3
  refine wpAny_bind (wpAny_letGo (wpAny_pure ?_))
  refine wpAny_bind (wpAny_bind (wpAny_onRaise ?_))
  show wpAny _ _ (Builtin.SmallTypes.nextOf (Value.ref i2) >>= _) _ _ _
  refine wpAny_bind (S2.item X rfl rfl rfl _ i pins _ σ H _ _ I3 f2 (S2.keep i _ _ g2 fun o e => b3 _ _ (Ne.symm N.i) (b2 _ _ (Ne.symm N.j) (b1 _ _ N.d e))) go2 fun y uy k4 I4 ry yy t24 b4 => wpAny_pure ?_)
  replace I4 : Inv X pins σ H { s with heap := k4 } := I4
  have s4 := b4.1
  replace b4 := b4.extBut
  have gO4 : IsPair k4 TO ux b := b4 _ _ N.i gO3
  refine wpAny_bind (wpAny_seqItems gO4 rfl ?_)
  refine wpAny_bind (wpAny_updateSeq_pair gO4 fun k5 gO5 b5 => ?_)
  replace gO5 : IsPair k5 TO ux uy := gO5
  have s5 := b5.1
  replace b5 := b5.extBut
  have I5 : Inv X pins σ H { s with heap := k5 } := Inv.same I4 fO b5
  refine wpAny_bind (wpAny_letGo (wpAny_pure (wpAny_pure ?_)))
  refine wpAny_bind (wpAny_seqItems gO5 rfl ?_)
  refine wpAny_bind (wpAny_newTuple ?_)
  have sz : k5.objs.size = s.heap.objs.size := by rw [s5, s4, s3, s2, s1]
  have gz5 : IsZip k5 z TI TO .ellipsis := b5 _ _ (Ne.symm N.b) (b4 _ _ (Ne.symm N.d) (b3 _ _ (Ne.symm N.b) (b2 _ _ (Ne.symm N.c) gz1)))
  have gI5 : IsPair k5 TI (.ref i1) (.ref i2) := b5 _ _ N.e (b4 _ _ N.g (b3 _ _ N.e (b2 _ _ N.f (b1 _ _ N.a gI))))
  have t15 : t1 (i + 1) k5 := S1.keep _ _ _ (S1.keep _ _ _ (S1.keep _ _ _ t12 fun o e => b3 _ _ (Ne.symm N.h) e) fun o e => b4 _ _ N.j e) fun o e => b5 _ _ (Ne.symm N.h) e
  have t25 : t2 (i + 1) k5 := S2.keep _ _ _ t24 fun o e => b5 _ _ (Ne.symm N.i) e
  have lz : z < k5.objs.size := Heap.lt_size gz5
  have I6 : Inv X pins σ (upd H k5.objs.size (.tup [x, y])) { s with heap := k5.push { cls := .type "tuple", data := .seq #[ux, uy] } } :=
    I5.laid (t' := s.toks) (o := .tup [x, y]) (fun b ob e => Heap.get?_push_of_some _ e) (Nat.le_refl _) ⟨by show 2 ≤ sizeLine; decide, [ux, uy], .cons rx (.cons ry .nil), IsTup.new _ _⟩
  have fz6 : FpOk X pins (upd H k5.objs.size (.tup [x, y])) z := by
    obtain ⟨c0, c1, c2, c3, c4, c5⟩ := fz
    exact ⟨by rw [upd_ne (Nat.ne_of_lt lz)]; exact c0, c1, c2, c3, c4, c5⟩
  show wpAny _ _ (Builtin.SmallTypes.ownedTupleHandOut (Value.ref z) (Value.ref k5.objs.size) >>= _) _ _ _
  refine wpAny_bind ?_
  unfold Builtin.SmallTypes.ownedTupleHandOut
  have gz6 : IsZip (k5.push { cls := .type "tuple", data := .seq #[ux, uy] }) z TI TO .ellipsis := Heap.get?_push_of_some _ gz5
  refine wpAny_bind (wpAny_setField_rec gz6 (by simp) fun k7 gz7 b7 => ?_)
  replace gz7 : IsZip k7 z TI TO (rawInt k5.objs.size) := gz7
  replace b7 := b7.extBut
  have I7 : Inv X pins σ (upd H k5.objs.size (.tup [x, y])) { s with heap := k7 } := Inv.same I6 fz6 b7
  refine wpAny_setField_rec gz7 (by simp) fun k8 gz8 b8 => ?_
  replace gz8 : IsZip k8 z TI TO (rawInt k5.objs.size) := gz8
  replace b8 := b8.extBut
  have I8 : Inv X pins σ (upd H k5.objs.size (.tup [x, y])) { s with heap := k8 } := Inv.same I7 fz6 b8
  have up : ∀ b o, b ≠ z → k5.get? b = some o → k8.get? b = some o := fun b o ne e => b8 _ _ ne (b7 _ _ ne (Heap.get?_push_of_some _ e))
  rw [sz] at I8 gz8
  refine wpAny_pure ⟨_, rfl, ?_⟩
  show Q (.ref k5.objs.size) _
  rw [sz]
  exact q x y k8 I8 yx yy gz8 (up _ _ N.a gI5) ⟨_, _, up _ _ N.b gO5⟩ (S1.keep _ _ _ t15 fun o e => up _ o N.c e) (S2.keep _ _ _ t25 fun o e => up _ o N.d e)
theorem zip_stop {J1 J2 : It} {z TI TO i1 i2 : Addr} {t1 t2 : Nat → Heap → Prop} {A : Around} {E : Value → Shared → Prop} {a b : Value} {i : Nat} {Q : Fin → Shared → Prop} (hA : A.handled = none) (S1 : Sub X.prog X.w X.K J1 i1 t1) (S2 : Sub X.prog X.w X.K J2 i2 t2) (N : Apart z TI TO i1 i2)
    (I : Inv X pins σ H s) (hf : ∀ b ∈ [z, TI, TO, i1, i2], FpOk X pins H b) (gz : IsZip s.heap z TI TO .none) (gI : IsPair s.heap TI (.ref i1) (.ref i2)) (gO : IsPair s.heap TO a b) (g1 : t1 i s.heap) (g2 : t2 i s.heap) (st : J1.stop i H ∨ (J1.go i H ∧ J2.stop i H))
    (q : ∀ h' e, Inv X pins σ H { s with heap := h' } → (∃ o, h'.get? e = some o ∧ o.cls = .type "StopIteration") → E (.ref e) { s with heap := h' }) :
    wpAny (model X.prog X.w) A (Builtin.«zip.__next__» ⟨[.ref z], []⟩) Q E s := by
  have fz := hf z (by simp)
  have fO := hf TO (by simp)
  have f1 := hf i1 (by simp)
  have f2 := hf i2 (by simp)
  show wpAny _ _ (field (Value.ref z) 2 >>= _) _ _ _
  refine wpAny_bind (wpAny_field gz rfl (x := Value.bool false) rfl ?_)
  show wpAny _ _ (field (Value.ref z) 3 >>= _) _ _ _
  refine wpAny_bind (wpAny_field gz rfl (x := Value.ref TI) rfl ?_)
  refine wpAny_bind (wpAny_seqItems gI rfl ?_)
  show wpAny _ _ (Builtin.SmallTypes.ownedTupleIsFree (Value.ref z) >>= _) _ _ _
  refine wpAny_bind ?_
  unfold Builtin.SmallTypes.ownedTupleIsFree
  refine wpAny_bind (wpAny_field gz rfl (x := Value.none) rfl (wpAny_pure ?_))
  simp only [if_true]
  refine wpAny_bind (wpAny_rule ?_)
  refine wpAny_bind (wpAny_field gz rfl (x := Value.ref TO) rfl ?_)
  refine wpAny_bind (wpAny_setField_rec gz (by simp) fun k1 gz1 b1 => ?_)
  replace gz1 : IsZip k1 z TI TO .ellipsis := gz1
  replace b1 := b1.extBut
  have I1 : Inv X pins σ H { s with heap := k1 } := Inv.same (show Inv X pins σ H { s with heap := s.heap } from I) fz b1
  refine wpAny_bind ?_
  simp only [List.zipIdx_cons, List.zipIdx_nil, List.forIn_cons, List.forIn_nil]
  refine wpAny_bind (wpAny_bind (wpAny_onRaise ?_))
  show wpAny _ _ (Builtin.SmallTypes.nextOf (Value.ref i1) >>= _) _ _ _
  have t11 : t1 i k1 := S1.keep i _ _ g1 fun o e => b1 _ _ N.c e
  rcases st with st | ⟨go, st⟩
  · refine wpAny_bind (S1.done X rfl rfl rfl _ hA i pins _ σ H _ _ I1 f1 t11 st fun k2 e b2 he => ?_)
    obtain ⟨oe, hoe, hce⟩ := he
    have gz2 : IsZip k2 z TI TO .ellipsis := b2 _ _ (Ne.symm N.c) gz1
    have I2 : Inv X pins σ H { s with heap := k2 } := Inv.same I1 f1 b2
    have ne : e ≠ z := fun x => by subst x; rw [gz2] at hoe; cases hoe; simp at hce
    exact wpAny_setField_rec gz2 (by simp) fun k3 _ b3 => q k3 e (Inv.same I2 fz b3.extBut) ⟨oe, b3.extBut _ _ ne hoe, hce⟩
  · refine wpAny_bind (S1.item X rfl rfl rfl _ i pins _ σ H _ _ I1 f1 t11 go fun x ux k2 I2 rx yx t12 b2 => wpAny_pure ?_)
    replace I2 : Inv X pins σ H { s with heap := k2 } := I2
    replace b2 := b2.extBut
    have gO2 : IsPair k2 TO a b := b2 _ _ N.h (b1 _ _ N.b gO)
    refine wpAny_bind (wpAny_seqItems gO2 rfl ?_)
    refine wpAny_bind (wpAny_updateSeq_pair gO2 fun k3 gO3 b3 => ?_)
    replace b3 := b3.extBut
    have I3 : Inv X pins σ H { s with heap := k3 } := Inv.same I2 fO b3
    refine wpAny_bind (wpAny_letGo (wpAny_pure ?_))
    refine wpAny_bind (wpAny_bind (wpAny_onRaise ?_))
    show wpAny _ _ (Builtin.SmallTypes.nextOf (Value.ref i2) >>= _) _ _ _
    refine wpAny_bind (S2.done X rfl rfl rfl _ hA i pins _ σ H _ _ I3 f2 (S2.keep i _ _ g2 fun o e => b3 _ _ (Ne.symm N.i) (b2 _ _ (Ne.symm N.j) (b1 _ _ N.d e))) st fun k4 e b4 he => ?_)
    obtain ⟨oe, hoe, hce⟩ := he
    have gz4 : IsZip k4 z TI TO .ellipsis := b4 _ _ (Ne.symm N.d) (b3 _ _ (Ne.symm N.b) (b2 _ _ (Ne.symm N.c) gz1))
    have I4 : Inv X pins σ H { s with heap := k4 } := Inv.same I3 f2 b4
    have ne : e ≠ z := fun x => by subst x; rw [gz4] at hoe; cases hoe; simp at hce
    exact wpAny_setField_rec gz4 (by simp) fun k5 _ b5 => q k5 e (Inv.same I4 fz b5.extBut) ⟨oe, b5.extBut _ _ ne hoe, hce⟩
end
theorem turn_zip {P : Program} {w : World} {K : PySem.W.Frag} {elts : List Expr} {kk : Nat} {ps : Pos} {J1 J2 : It} {z TI TO i1 i2 : Addr} {t1 t2 : Nat → Heap → Prop} (S1 : Sub P w K J1 i1 t1) (S2 : Sub P w K J2 i2 t2) (N : Apart z TI TO i1 i2) :
    Turn P w K (.Tuple elts kk ps) (Itz J1 J2) [z, TI, TO, i1, i2] z (fun i h => IsZip h z TI TO .none ∧ IsPair h TI (.ref i1) (.ref i2) ∧ (∃ a b, IsPair h TO a b) ∧ t1 i h ∧ t2 i h) where
  mem := by simp
  obj := fun i h st b hb => by
    obtain ⟨gz, gI, ⟨a, c, gO⟩, g1, g2⟩ := st
    simp only [List.mem_cons, List.not_mem_nil, or_false] at hb
    rcases hb with rfl | rfl | rfl | rfl | rfl
    · exact ⟨_, gz, fun v e => by cases (show Data.fields _ = Data.cell v from e)⟩
    · exact ⟨_, gI, fun v e => by cases (show Data.seq _ _ = Data.cell v from e)⟩
    · exact ⟨_, gO, fun v e => by cases (show Data.seq _ _ = Data.cell v from e)⟩
    · exact S1.obj _ _ g1
    · exact S2.obj _ _ g2
  keep := fun i h h' st k => by
    obtain ⟨gz, gI, ⟨a, c, gO⟩, g1, g2⟩ := st
    exact ⟨k z (by simp) _ gz, k TI (by simp) _ gI, ⟨a, c, k TO (by simp) _ gO⟩, S1.keep _ _ _ g1 fun o e => k i1 (by simp) o e, S2.keep _ _ _ g2 fun o e => k i2 (by simp) o e⟩
  item := by
    intro X hP hw hK hc i pins s σ H E I hf st hg
    subst hP hw hK
    obtain ⟨gz, gI, ⟨a, c, gO⟩, g1, g2⟩ := st
    have gT : s.TypeIs (.ref z) "zip" := ⟨_, gz, rfl⟩
    unfold pyNext
    refine wpAny_bind (wpAny_attempt (wpAny_callSpecial?_slot (name := Str.ofString "__next__") gT F.slot_zip_next (wpAny_call_entry F.slot_zip_next gT F.entry_zip_next
      (zip_step S1 S2 N I hf gz gI gO g1 g2 hg.1 hg.2 fun x y h' I' yx yy gz' gI' gO' g1' g2' => wpAny_pure ⟨_, rfl, ?_⟩) (F.args_zip_next_1 _))))
    have lt : ∀ b ∈ [z, TI, TO, i1, i2], b ≠ s.heap.objs.size := fun b hb => by
      obtain ⟨f0, f1, f2, f3, f4, f5⟩ := hf b hb
      simp only [List.mem_cons, List.not_mem_nil, or_false] at hb
      rcases hb with rfl | rfl | rfl | rfl | rfl
      · exact Nat.ne_of_lt (Heap.lt_size gz)
      · exact Nat.ne_of_lt (Heap.lt_size gI)
      · exact Nat.ne_of_lt (Heap.lt_size gO)
      · obtain ⟨o, e, _⟩ := S1.obj _ _ g1; exact Nat.ne_of_lt (Heap.lt_size e)
      · obtain ⟨o, e, _⟩ := S2.obj _ _ g2; exact Nat.ne_of_lt (Heap.lt_size e)
    have fz : FpOk X pins (upd H s.heap.objs.size (.tup [x, y])) z := by
      obtain ⟨c0, c1, c2, c3, c4, c5⟩ := hf z (by simp)
      exact ⟨by rw [upd_ne (lt z (by simp))]; exact c0, c1, c2, c3, c4, c5⟩
    obtain ⟨a', c', gO'⟩ := gO'
    refine wpAny_letOwnedTupleGo_zip (s := { s with heap := h' }) gz' fun k gk bk => ?_
    refine ⟨.ref s.heap.objs.size, upd H s.heap.objs.size (.tup [x, y]), Inv.same I' fz bk.extBut, rfl, ⟨_, x, y, rfl, I.hok.fresh (Nat.le_refl _), rfl, yx, yy⟩,
      ⟨gk, bk.extBut _ _ N.a gI', ⟨_, _, bk.extBut _ _ N.b gO'⟩, S1.keep _ _ _ g1' fun o e => bk.extBut _ _ N.c e, S2.keep _ _ _ g2' fun o e => bk.extBut _ _ N.d e⟩, fun b hb => ?_⟩
    rw [upd_ne (lt b hb)]
    exact (hf b hb).1
  done := by
    intro X hP hw hK hc i pins s σ H E I hf st hg
    subst hP hw hK
    obtain ⟨gz, gI, ⟨a, c, gO⟩, g1, g2⟩ := st
    have gT : s.TypeIs (.ref z) "zip" := ⟨_, gz, rfl⟩
    unfold pyNext
    refine wpAny_bind (wpAny_attempt (wpAny_callSpecial?_slot (name := Str.ofString "__next__") gT F.slot_zip_next (wpAny_call_entry F.slot_zip_next gT F.entry_zip_next
      (zip_stop (I.ok.hd hc) S1 S2 N I hf gz gI gO g1 g2 hg fun h' e I' he => ?_) (F.args_zip_next_1 _))))
    obtain ⟨o, ho, hc'⟩ := he
    refine wpAny_bind (wpAny_isInstance (s := { s with heap := h' }) (T := "StopIteration") (b := true) ⟨o, ho, hc'⟩ isSubtype_stop ?_)
    exact wpAny_pure ⟨rfl, I'⟩
  self := fun _ _ _ _ _ st h => wpAny_pyIter_zip st.1 h
noncomputable abbrev zT1 (h : Heap) (a : Addr) : Heap := h.push { cls := .type "tuple_iterator", data := .fields #[.ref a, .int 0 0] }
noncomputable abbrev zT2 (h : Heap) (a b : Addr) : Heap := (zT1 h a).push { cls := .type "tuple_iterator", data := .fields #[.ref b, .int 0 0] }
noncomputable abbrev zT3 (h : Heap) (a b : Addr) : Heap := (zT2 h a b).push { cls := .type "tuple", data := .seq #[.ref h.objs.size, .ref (zT1 h a).objs.size] }
noncomputable abbrev zT4 (h : Heap) (a b : Addr) : Heap := (zT3 h a b).push { cls := .type "tuple", data := .seq #[.none, .none] }
noncomputable abbrev zT5 (h : Heap) (a b : Addr) : Heap := (zT4 h a b).push { cls := .type "zip", data := .fields #[.none, .bool false, .bool false, .ref (zT2 h a b).objs.size, .ref (zT3 h a b).objs.size] }
theorem zipT_new (a b : Addr) (xs ys : Array Value) : Meets (Builtin.«zip.__new__» ⟨[.type "zip", .ref a, .ref b], []⟩) (fun _ R s => s.heap.IsTuple a xs ∧ s.heap.IsTuple b ys ∧ R (.ok (.ret (.ref (zT4 s.heap a b).objs.size))) { s with heap := zT5 s.heap a b }) :=
  .of_wp fun prog w A R s q => by
    obtain ⟨hp, g, d, tk, os⟩ := s; obtain ⟨ga, gb, q⟩ := q
    have hsub := sub_zip
    have gA : Heap.IsTuple (Shared.heap ⟨hp, g, d, tk, os⟩) a xs := ga
    have gB : Heap.IsTuple (Shared.heap ⟨hp.push { cls := .type "tuple_iterator", data := .fields #[.ref a, .int 0 0] }, g, d, tk, os⟩) b ys := Heap.IsTuple.push gb _
    wp_walk using wpAny_pyIter_tuple gA, wpAny_pyIter_tuple gB
    exact ⟨_, rfl, q⟩
theorem call_zipT {prog : Program} {w : World} {A : Around} {E : Value → Shared → Prop} {s : Shared} {a b : Addr} {xs ys : Array Value} {Q : Value → Shared → Prop} (ga : s.heap.IsTuple a xs) (gb : s.heap.IsTuple b ys)
    (q : ∀ h', IsZip h' (s.heap.objs.size + 4) (s.heap.objs.size + 2) (s.heap.objs.size + 3) .none → IsPair h' (s.heap.objs.size + 2) (.ref s.heap.objs.size) (.ref (s.heap.objs.size + 1)) → IsPair h' (s.heap.objs.size + 3) .none .none →
      h'.IsTupleIter s.heap.objs.size a 0 → h'.IsTupleIter (s.heap.objs.size + 1) b 0 → (∀ c o, s.heap.get? c = some o → h'.get? c = some o) → Q (.ref (s.heap.objs.size + 4)) { s with heap := h' }) :
    wpAny (model prog w) A (call (.type "zip") [.ref a, .ref b]) Q E s := by
  refine callType_new F.called_zip (by decide) (F.typeCall_zip_2 _ _) (F.newCall_zip_2 _ _) (fun ob => F.args_object_init_3 ob _ _) F.entry_zip_new (zipT_new a b xs ys) ⟨ga, gb, ?_⟩
  have n1 : (zT1 s.heap a).objs.size = s.heap.objs.size + 1 := Heap.size_push ..
  have n2 : (zT2 s.heap a b).objs.size = s.heap.objs.size + 2 := by rw [Heap.size_push, n1]
  have n3 : (zT3 s.heap a b).objs.size = s.heap.objs.size + 3 := by rw [Heap.size_push, n2]
  have n4 : (zT4 s.heap a b).objs.size = s.heap.objs.size + 4 := by rw [Heap.size_push, n3]
  have k5 : (zT5 s.heap a b).get? (zT4 s.heap a b).objs.size = some _ := Heap.get?_push_size _ rfl
  have k4 : (zT5 s.heap a b).get? (zT3 s.heap a b).objs.size = some _ := Heap.get?_push_of_some _ (Heap.get?_push_size _ rfl)
  have k3 : (zT5 s.heap a b).get? (zT2 s.heap a b).objs.size = some _ := Heap.get?_push_of_some _ (Heap.get?_push_of_some _ (Heap.get?_push_size _ rfl))
  have k2 : (zT5 s.heap a b).get? (zT1 s.heap a).objs.size = some _ := Heap.get?_push_of_some _ (Heap.get?_push_of_some _ (Heap.get?_push_of_some _ (Heap.get?_push_size _ rfl)))
  have k1 : (zT5 s.heap a b).get? s.heap.objs.size = some _ := Heap.get?_push_of_some _ (Heap.get?_push_of_some _ (Heap.get?_push_of_some _ (Heap.get?_push_of_some _ (Heap.get?_push_size _ rfl))))
  show _ ∧ _
  rw [n2, n3, n4] at k5
  rw [n1, n2] at k3
  rw [n3] at k4
  rw [n1] at k2
  rw [n4]
  exact ⟨⟨_, k5, rfl⟩, q _ k5 k3 k4 ⟨_, k1, rfl, rfl⟩ ⟨_, k2, rfl, rfl⟩ fun c o x => Heap.get?_push_of_some _ (Heap.get?_push_of_some _ (Heap.get?_push_of_some _ (Heap.get?_push_of_some _ (Heap.get?_push_of_some _ x))))⟩
section
variable {K : PySem.W.Frag} {σ : St} {H : Hp} {Q : VK}
noncomputable def rZip (K : PySem.W.Frag) : List V → Hp → (It → Hp → Prop) → Prop := fun vs H R => ∃ a b xs ys, vs = [.ref a, .ref b] ∧ ((SqT K H a xs ∧ SqT K H b ys ∧ R (Itz (Itt K a) (Itt K b)) H) ∨ (SqL K H a xs ∧ SqL K H b ys ∧ R (Itz (Itl K a) (Itl K b)) H))
noncomputable def iZip (K : PySem.W.Frag) (ta : TA) : TI := fun σ H R => ta σ H fun vs H1 => rZip K vs H1 R
theorem pi_zip {X : Cx} {elts : List Expr} {kk : Nat} {ps : Pos} (K : PySem.W.Frag) {a b : Expr} {ta : TA} {p pos : Pos} (hg : Gl X "zip") (hm : X.mg "zip" = none) (ha : PA X [a, b] ta) (hK : X.K = K := by rfl) (hs : starEach [a, b] X.env = [(false, eval a X.env), (false, eval b X.env)] := by rfl) (hs2 : starEach [b] X.env = [(false, eval b X.env)] := by rfl) :
    PI X (.Tuple elts kk ps) (.Call (.Name "zip" p) [a, b] [] pos) (iZip K ta) := by
  subst hK
  intro pins s σ H R I h
  refine Call_ (ld_blt I hg hm PyProof.Rows.boot_zip (PyProof.Rows.callWith_type1 (thn (ha pos pins s σ H _ I h) fun us s1 ⟨vs, H1, I1, r1, q1⟩ => ?_) (by rw [hs, hs2]) (by rw [hs2]; rfl)))
  obtain ⟨l, m, xs, ys, e, q1⟩ := q1
  subst e
  cases r1 with
  | cons r rr =>
    cases rr with
    | cons r' rr =>
      cases rr
      cases r
      cases r'
      have mk : ∀ {J1 J2 : It} {t1 t2 : Nat → Heap → Prop}, Sub X.prog X.w X.K J1 s1.heap.objs.size t1 → Sub X.prog X.w X.K J2 (s1.heap.objs.size + 1) t2 → ∀ h', IsZip h' (s1.heap.objs.size + 4) (s1.heap.objs.size + 2) (s1.heap.objs.size + 3) .none → IsPair h' (s1.heap.objs.size + 2) (.ref s1.heap.objs.size) (.ref (s1.heap.objs.size + 1)) →
          IsPair h' (s1.heap.objs.size + 3) .none .none → t1 0 h' → t2 0 h' → (∀ c o, s1.heap.get? c = some o → h'.get? c = some o) → R (Itz J1 J2) H1 → wpAny (model X.prog X.w) X.A (pyIter (.ref (s1.heap.objs.size + 4))) (PIE X pins σ (.Tuple elts kk ps) R) X.xe { s1 with heap := h' } := by
        intro J1 J2 t1 t2 S1 S2 h' gz gI gO g1 g2 k q
        refine wpAny_pyIter_zip (s := { s1 with heap := h' }) gz ?_
        have N : Apart (s1.heap.objs.size + 4) (s1.heap.objs.size + 2) (s1.heap.objs.size + 3) s1.heap.objs.size (s1.heap.objs.size + 1) := by
          constructor <;> (intro h; have h' : @Eq Nat _ _ := h; omega)
        refine ⟨s1.heap.objs.size + 4, [s1.heap.objs.size + 4, s1.heap.objs.size + 2, s1.heap.objs.size + 3, s1.heap.objs.size, s1.heap.objs.size + 1], _, _, H1, rfl, I1.kept (t' := s1.toks) k, turn_zip S1 S2 N, ⟨gz, gI, ⟨_, _, gO⟩, g1, g2⟩, fun b hb => ?_, q⟩
        have le : @LE.le Nat _ s1.heap.objs.size b := by
          simp only [List.mem_cons, List.not_mem_nil, or_false] at hb
          rcases hb with rfl | rfl | rfl | rfl | rfl
          · exact Nat.le_add_right _ _
          · exact Nat.le_add_right _ _
          · exact Nat.le_add_right _ _
          · exact Nat.le_refl _
          · exact Nat.le_add_right _ _
        exact I1.fpOk le (I1.hok.fresh le)
      rcases q1 with ⟨ga, gb, q⟩ | ⟨ga, gb, q⟩
      · obtain ⟨its, _, p1, _⟩ := I1.tuple ga
        obtain ⟨its2, _, p2, _⟩ := I1.tuple gb
        exact call_zipT (show s1.heap.IsTuple l its.toArray from p1) (show s1.heap.IsTuple m its2.toArray from p2) fun h' gz gI gO g1 g2 k => mk (sub_tup l _) (sub_tup m _) h' gz gI gO g1 g2 k q
      · obtain ⟨its, _, p1, _⟩ := I1.list ga
        obtain ⟨its2, _, p2, _⟩ := I1.list gb
        exact call_zip_2 p1.isList p2.isList fun h' gz gI gO g1 g2 _ k => mk (sub_list l _) (sub_list m _) h' gz gI gO g1 g2 k q
theorem rd_zip {a : TA} {R : It → Hp → Prop} (h : a σ H fun vs H1 => rZip K vs H1 R) : iZip K a σ H R := h
theorem rd_zipT {a b : Addr} {xs ys : List V} {R : It → Hp → Prop} (ha : SqT K H a xs) (hb : SqT K H b ys) (h : R (Itz (Itt K a) (Itt K b)) H) : rZip K [.ref a, .ref b] H R := ⟨a, b, xs, ys, rfl, .inl ⟨ha, hb, h⟩⟩
theorem comp_zipT {a b : Addr} {xs ys : List V} {n : Nat} {js : List Nat} {g : TG} {tc : TT} {te : TE} (Pv : Nat → List V → Hp → Prop) (hz : xs.length ≤ sizeLine) (h0 : Pv 0 [] H) (hl : ∀ i zs H, Pv i zs H → SqT K H a xs ∧ SqT K H b ys ∧ zs.length ≤ i)
    (hs : ∀ i u v zs H p H', xs[i]? = some u → ys[i]? = some v → Pv i zs H → Ext H H' → H' p = some (.tup [u, v]) → H p = none → g (.ref p) (capt n js σ) H' fun σ2 H3 => tc σ2 H3 fun b H4 => if b = true then te σ2 H4 fun v H5 => Pv (i + 1) (zs ++ [v]) H5 else Pv (i + 1) zs H4)
    (hd : ∀ zs H p, Pv (min xs.length ys.length) zs H → H p = none → Q (.ref p) (upd H p (.lst zs))) : CompBody (Itz (Itt K a) (Itt K b)) n js g tc te σ H Q := by
  refine ⟨fun i m zs H => m = min xs.length ys.length - i ∧ i ≤ min xs.length ys.length ∧ Pv i zs H, ⟨min xs.length ys.length, by simp, Nat.zero_le _, h0⟩, ?_⟩
  rintro i m zs H ⟨rfl, hi, p⟩
  obtain ⟨qa, qb, ql⟩ := hl i zs H p
  by_cases hlt : i < min xs.length ys.length
  · have hx : i < xs.length := by omega
    have hy : i < ys.length := by omega
    refine .inr ⟨⟨⟨xs, xs[i], qa, by simp [hx]⟩, ⟨ys, ys[i], qb, by simp [hy]⟩⟩, by omega, Pv (i + 1), fun zs' H' p' => ⟨min xs.length ys.length - (i + 1), by omega, rfl, hlt, p'⟩, fun x H' y => ?_⟩
    obtain ⟨pp, u, v, rfl, hn, rfl, yu, yv⟩ := y
    exact hs i u v zs H pp _ (yu.2 xs qa) (yv.2 ys qb) p (ext_upd hn) upd_same hn
  · have e : i = min xs.length ys.length := by omega
    refine .inl ⟨?_, fun p' hp => hd zs H p' (e ▸ p) hp⟩
    by_cases h : xs.length ≤ i
    · exact .inl ⟨xs, qa, h⟩
    · exact .inr ⟨⟨xs, xs[i]'(by omega), qa, List.getElem?_eq_getElem (by omega)⟩, ⟨ys, qb, by omega⟩⟩
end
theorem tup_whole {prog : Program} {w : World} {A : Around} {E : Value → Shared → Prop} {s : Shared} {t sl : Addr} {ys : Array Value} {vl vu : Value} {lo hi : Option Int} {Q : Value → Shared → Prop} (gt : IsTup s.heap t ys) (gs : s.heap.IsSliceOf sl vl vu .none) (pl : IsPart vl lo) (pu : IsPart vu hi)
    (gw : HT.sIx ys.size 0 lo = 0 ∧ HT.sIx ys.size ys.size hi = ys.size) (q : Q (.ref t) s) : wpAny (model prog w) A (getItem (.ref t) (.ref sl)) Q E s := by
  obtain ⟨u, gu, gc, gd⟩ := id gs
  have gT : s.TypeIs (.ref sl) "slice" := ⟨u, gu, gc⟩
  unfold getItem
  try with_reducible refine wpAny_holding ?_
  first | refine wpAny_bind (wpAny_pure ?_) | skip
  refine wpAny_bind (wpAny_sequenceKey gt.typeIs (by decide) ?_)
  refine wpAny_bind (wpAny_callSpecial?_slot (name := Str.ofString "__getitem__") gt.typeIs PyProof.Rows.slot_tuple_getitem (wpAny_call_entry PyProof.Rows.slot_tuple_getitem gt.typeIs entry_tuple_getitem ?_ (args_tuple_getitem _ _)))
  show wpAny _ _ (Builtin.Tuple.tupleItemsOf (Value.ref t) >>= _) _ _ s
  refine wpAny_bind (tupleItemsOf_ gt ?_)
  refine wpAny_bind (wpAny_typeOf gT ?_)
  rw [if_pos (by decide)]
  refine wpAny_bind (HT.sliceApplied_gen gs pl pu ?_)
  show wpAny _ _ (if (((HT.sIx ys.size 0 lo : Nat) : Int) == 0 && (1 : Int) == 1 && (HT.sIx ys.size ys.size hi - HT.sIx ys.size 0 lo) == ys.size) = true then _ else _) _ _ s
  rw [if_pos (by rw [gw.1, gw.2]; simp)]
  show wpAny _ _ (Builtin.Tuple.tupleIsExact (Value.ref t) >>= _) _ _ s
  unfold Builtin.Tuple.tupleIsExact
  refine wpAny_bind (wpAny_bind (wpAny_typeOf gt.typeIs (wpAny_pure ?_)))
  rw [if_pos (by decide)]
  refine wpAny_bind (wpAny_rule ?_)
  exact wpAny_pure ⟨_, rfl, wpAny_pure q⟩
noncomputable def rSlT1 : V → Option Int → Option Int → Hp → VK → Prop := fun x lo hi H Q => ∃ a xs, x = .ref a ∧ H a = some (.tup xs) ∧ ∀ p H', Ext H H' → H' p = some (.tup (cutV xs lo hi)) → Q (.ref p) H'
theorem sl_tup1 {X : Cx} : SlR X rSlT1 := by
  intro pins s σ H x v vl vu lo hi sl Q I rx hs pl pu h
  obtain ⟨a, xs, rfl, hx, q⟩ := h
  by_cases gw : HT.sIx xs.length 0 lo = 0 ∧ HT.sIx xs.length xs.length hi = xs.length
  · cases rx
    obtain ⟨its, r, ht, hz⟩ := I.tuple (SqT.of hx)
    have hlen : its.toArray.size = xs.length := by rw [List.size_toArray]; exact r.length.symm
    refine ⟨"tuple", _, PyProof.Rows.slot_tuple_getitem.lookup, ht.typeIs, ?_⟩
    refine tup_whole ht hs pl pu (by rw [hlen]; exact gw) ⟨.ref a, H, I, rfl, q a H (Ext.rfl' H) ?_⟩
    have : cutV xs lo hi = xs := by
      unfold cutV
      rw [gw.1, gw.2, List.drop_zero, Nat.sub_zero, List.take_length]
    rw [this]
    exact hx
  · exact sl_tup pins s σ H (.ref a) v vl vu lo hi sl Q I rx hs pl pu ⟨a, xs, rfl, SqT.of hx, gw, fun p hp => q p _ (ext_upd hp) upd_same⟩
theorem rd_slT1 {H : Hp} {Q : VK} {a : Addr} {xs : List V} {lo hi : Option Int} (e : H a = some (.tup xs)) (h : ∀ p H', Ext H H' → H' p = some (.tup (cutV xs lo hi)) → Q (.ref p) H') : rSlT1 (.ref a) lo hi H Q := ⟨a, xs, rfl, e, h⟩
end L2
set_option Elab.async false
set_option linter.all false
set_option maxRecDepth 100000
set_option maxHeartbeats 4000000
namespace L2
open PySem PySem.Spec PyProof.Rows
mutual
inductive LitE : Expr → TE → Prop
  | non {j pos} : LitE (.Constant .none j pos) (tC .non)
  | bl {b j pos} : LitE (.Constant (.bool b) j pos) (tC (.bl b))
  | int {i j pos} : LitE (.Constant (.int i) j pos) (tC (.int i))
  | str {x j pos} : LitE (.Constant (.str x) j pos) (tC (.str x))
  | tup {es ta k pos} : LitsE es ta → LitE (.Tuple es k pos) (tTup ta)
inductive LitsE : List Expr → TA → Prop
  | nil : LitsE [] tNil
  | cons {e te es ta} : LitE e te → LitsE es ta → LitsE (e :: es) (tCons te ta)
end
end L2
set_option Elab.async false
set_option linter.all false
set_option maxRecDepth 100000
set_option maxHeartbeats 4000000
namespace L2
open PySem PySem.Spec PyProof.Rows
section
variable {X : Cx} {pins : List (Addr × Obj)} {σ : St} {H : Hp} {s : Shared}
end
section
variable {X : Cx} {pins : List (Addr × Obj)} {σ : St} {H : Hp} {s : Shared}
end
end L2
set_option Elab.async false
set_option linter.all false
set_option maxRecDepth 100000
set_option maxHeartbeats 4000000
namespace L2
open PySem PySem.Spec PyProof.Rows
section
variable {P : Program} {w : World} {K : PySem.W.Frag} {mg : Str → Option Value} {base : Heap}
end
end L2
set_option Elab.async false
set_option linter.all false
set_option maxRecDepth 100000
set_option maxHeartbeats 4000000
namespace L2
open PySem PySem.Spec PyProof.Rows
section
variable {prog : Program} {w : World} {A : Around} {E : Value → Shared → Prop}
end
section
variable {X : Cx} {pos : Pos}
end
end L2
set_option Elab.async false
set_option linter.all false
set_option maxRecDepth 100000
set_option maxHeartbeats 4000000
namespace L2
open PySem PySem.Spec PyProof.Rows
section
variable {κ : Type} [DecidableEq κ]
end
section
variable {P : Program} {w : World} {H : Hp} {h : Heap} {a : Addr}
end
section
variable {X : Cx} {pins : List (Addr × Obj)} {σ : St} {H : Hp} {s : Shared} {a : Addr} {y v : V} {u r : Value} {o : Option V} {A : Around} {E : Value → Shared → Prop}
end
section
variable {X : Cx} {pins : List (Addr × Obj)} {σ : St} {H : Hp} {s : Shared} {a : Addr} {kvs : List (Key × V)} {k : Key} {u : Value} {A : Around} {E : Value → Shared → Prop}
end
section
variable {X : Cx} {o i e value : Expr} {pos pos' tpos : Pos} {td ty tv : TE}
end
section
variable {X : Cx} {pos : Pos}
end
section
variable {X : Cx} {pins : List (Addr × Obj)} {σ : St} {H : Hp} {s : Shared} {a : Addr} {y d : V} {u r : Value} {o : Option V} {A : Around} {E : Value → Shared → Prop}
end
section
variable {X : Cx} {o e f : Expr} {apos cpos : Pos} {td ty tx : TE}
end
section
variable {X : Cx} {pins : List (Addr × Obj)} {σ : St} {H : Hp} {s : Shared} {a : Addr} {kvs : List (Key × V)} {A : Around} {E : Value → Shared → Prop}
end
section
variable {X : Cx} {pins : List (Addr × Obj)} {σ : St} {H : Hp} {s : Shared} {a : Addr} {y : V} {u : Value} {A : Around} {E : Value → Shared → Prop}
end
end L2
namespace L2
open PySem PySem.Spec PyProof.Rows
section
variable {X : Cx}
end
section
variable {κ : Type} [DecidableEq κ]
end
end L2
set_option Elab.async false
set_option linter.all false
set_option maxRecDepth 100000
set_option maxHeartbeats 4000000
namespace L2
open PySem PySem.Spec PyProof.Rows
theorem ObjOk.obj {P : Program} {w : World} {H : Hp} {h : Heap} {a : Addr} {o : HO} (x : ObjOk P w H h a o) : ∃ ob, h.get? a = some ob := by
  cases o with
  | lst xs => obtain ⟨_, _, _, _, e⟩ := x; exact ⟨_, e⟩
  | tup xs => obtain ⟨_, _, _, ob, e, _⟩ := x; exact ⟨_, e⟩
  | dK kvs => obtain ⟨_, _, _, _, ob, es, ep, e, _⟩ := x; exact ⟨_, e⟩
  | dT kvs => obtain ⟨_, _, _, _, ob, es, ep, e, _⟩ := x; exact ⟨_, e⟩
  | set S n => obtain ⟨ob, es, ep, t, e, _⟩ := x; exact ⟨_, e⟩
  | ins C dx fs => obtain ⟨_, _, _, e, _⟩ := x; exact ⟨_, e⟩
  | own y => exact x
  | xd fs => obtain ⟨mA, hn, _⟩ := x; obtain ⟨ob, es, ep, e, _⟩ := hn; exact ⟨_, e⟩
  | rng lo hi => obtain ⟨_, _, _, e⟩ := x; exact ⟨_, e⟩
  | frz ob u => exact ⟨_, x.1⟩
  | tbl ps => exact ⟨_, x⟩
  | met f y => exact ⟨_, x⟩
  | ext φ => exact x.2.1
structure Fly (P : Program) (w : World) (outer : List Env) (H : Hp) (s : Shared) (x : Addr) (cls : Value) (H' : Hp) (s' : Shared) : Prop where
  os : s'.os = s.os
  bare : AllBare s'.gens
  un : Un (frs outer) [] H H' s.heap s'.heap
  hok : HOk P w H' s'.heap
  new : H' x = none
  fly : ∃ B a0, Heap.FlyingW B outer x cls a0 s'.heap ∧ (∀ b o, s'.heap.get? b = some o → H' b ≠ none → B.get? b = some o) ∧
    ∀ b o o', s.heap.get? b = some o → b ∉ frs outer → s'.heap.get? b = some o' → B.get? b = some o'
noncomputable def CXE (P : Program) (w : World) : CXT := fun outer H s E e s' => ∃ x cls H', e = .ref x ∧ E cls none H' ∧ Fly P w outer H s x cls H' s'
section
variable {P : Program} {w : World} {K : PySem.W.Frag} {mg : Str → Option Value} {base : Heap} {N : List Str} {qual : Str} {scope : Scope} {f : Addr} {cd : Value} {A : Around} {outer : List Env} {s₀ : Shared} {H₀ : Hp} {E : XK}
theorem frs_mem {l : List Env} {env : Env} {a : Addr} (h : env ∈ l) (e : env.frame = some a) : a ∈ frs l := List.mem_filterMap.mpr ⟨env, h, e⟩
theorem fly_made {pins : List (Addr × Obj)} {σ : St} {H : Hp} {s : Shared} {h1 : Heap} {tk : Nat} {e : Addr} {cls : Value} {args : List Value} (I : Inv (cxOf (CXE P w) P w K mg base N qual scope f cd A outer s₀ H₀ E) pins σ H s)
    (hx : Heap.MadeExcOf s.heap h1 e cls args) (hE : E cls none H) : (cxOf (CXE P w) P w K mg base N qual scope f cd A outer s₀ H₀ E).xe (.ref e) { s with heap := h1, toks := tk } := by
  have stk : (cxOf (CXE P w) P w K mg base N qual scope f cd A outer s₀ H₀ E).stack = envOfC qual scope s₀.heap.objs.size f cd :: outer := rfl
  have hL : ∀ b ∈ frs (envOfC qual scope s₀.heap.objs.size f cd :: outer), b ∈ frs outer ∨ b = s₀.heap.objs.size := fun b hb => by
    have := I.stkSub b hb
    rcases List.mem_cons.mp this with z | z
    · exact .inr z
    · exact .inl z
  have hfr : ∀ env ∈ (envOfC qual scope s₀.heap.objs.size f cd :: outer), ∀ a, env.frame = some a → a ∈ frs (envOfC qual scope s₀.heap.objs.size f cd :: outer) := fun env he a ha => frs_mem he ha
  have hff := PySem.W.funFrames_hide I.stack hfr
  have low : ∀ b o, s₀.heap.get? b = some o → b ∉ frs outer → b ∉ frs (envOfC qual scope s₀.heap.objs.size f cd :: outer) := fun b o hb hn hm => by
    rcases hL b hm with z | z
    · exact hn z
    · exact absurd (Heap.lt_size hb) (by rw [z]; exact Nat.lt_irrefl _)
  refine wpAny_leaves_madeW (base := PySem.W.hideAll s.heap (frs (envOfC qual scope s₀.heap.objs.size f cd :: outer))) (h := s.heap) I.ok.frames rfl (fun b o q => PySem.W.of_hideAll _ q) hff hx fun h' t x1 x2 x3 x4 => ?_
  have up : ∀ b ∈ frs (envOfC qual scope s₀.heap.objs.size f cd :: outer), ∀ o, s.heap.get? b = some o → ∃ sl, h'.get? b = some { o with slots := sl } := fun b hb o ho => by
    obtain ⟨_, o', ho', hd⟩ := hff.mem hb
    rw [ho] at ho'
    cases ho'
    exact x4 b o (hx.keeps b o ho) hd
  have stay : ∀ b o, b ∉ frs (envOfC qual scope s₀.heap.objs.size f cd :: outer) → s.heap.get? b = some o → h'.get? b = some o := fun b o hn ho => x1.1 b o (PySem.W.hideAll_get _ ho hn)
  have trk : ∀ b, H b ≠ none → b ∉ frs (envOfC qual scope s₀.heap.objs.size f cd :: outer) := fun b hb hm => hb (I.stkFree b hm)
  have U := I.base
  have hnew : H e = none := by
    cases hq : H e with
    | none => rfl
    | some u =>
      obtain ⟨ob, z⟩ := (I.hok e u hq).obj
      rw [hx.new] at z
      cases z
  refine ⟨e, cls, H, rfl, hE, I.os, I.bare, ⟨fun b o q n hb _ => stay b o (low b o q hb) (U.keep b o q n hb (by intro z; cases z)), fun b o q n hb _ => ?_, fun b o q n _ => U.free b o q n (by intro z; cases z), fun b o q _ => ?_, U.tups, U.frzs, U.tbls⟩, fun a o q => ?_, hnew, _, _, x1, fun b o q hb => ?_, fun b o o' q hb q' => ?_⟩
  · obtain ⟨sl, e1⟩ := U.slot b o q n hb (by intro z; cases z)
    obtain ⟨sl', e2⟩ := up b (by show b ∈ List.filterMap _ (_ :: _); exact List.mem_cons_of_mem _ hb) _ e1
    exact ⟨sl', e2⟩
  · obtain ⟨o1, e1⟩ := U.there b o q (by intro z; cases z)
    by_cases hb : b ∈ frs (envOfC qual scope s₀.heap.objs.size f cd :: outer)
    · obtain ⟨sl, e2⟩ := up b hb _ e1
      exact ⟨_, e2⟩
    · exact ⟨_, stay b _ hb e1⟩
  · refine (I.hok a o q).stay (fun b u hb z => stay b u (trk b ?_) z) (fun _ z => z) fun _ _ z => z
    rcases hb with rfl | hb
    · rw [q]; intro z; cases z
    · rw [hb]; intro z; cases z
  · obtain ⟨o1, e1⟩ : ∃ o1, s.heap.get? b = some o1 := by
      cases hq : H b with
      | none => exact absurd hq hb
      | some u => exact (I.hok b u hq).obj
    have := stay b o1 (trk b hb) e1
    rw [q] at this
    cases this
    exact PySem.W.hideAll_get _ e1 (trk b hb)
  · obtain ⟨o1, e1⟩ := U.there b o q (by intro z; cases z)
    have hn := low b o q hb
    have := stay b o1 hn e1
    rw [q'] at this
    cases this
    exact PySem.W.hideAll_get _ e1 hn
end
end L2
set_option Elab.async false
set_option linter.all false
set_option maxRecDepth 100000
set_option maxHeartbeats 4000000
namespace L2
open PySem PySem.Spec PyProof.Rows
section
variable {prog : Program} {w : World} {A : Around} {E : Value → Shared → Prop} {K : PySem.W.Frag} {x D : Addr} {ox : Obj} {s : Shared}
structure InstC (h : Heap) (x : Addr) (ox : Obj) (D : Addr) : Prop where
  at_ : h.get? x = some ox
  cls : ox.cls = .ref D
theorem InstC.type {M : Model} {h : Heap} {y C : Addr} {oy : Obj} (I : InstC h y oy C) : PySem.W.Looks M h (typeOf (.ref y)) (.ref C) := by
  have z : PySem.W.Looks M h (typeOf (.ref y)) oy.cls := (PySem.W.Looks.ld I.at_).andThen .now
  rwa [I.cls] at z
theorem xc_find {M : Model} {h : Heap} (X : K.In h) (ha : PySem.W.findIn K (.ref D) "__class__" = some (some (.builtin "object.__class__"))) (hg : PySem.W.specialIn K (.builtin "object.__class__") "__get__" = some (some (.builtin "getset_descriptor.__get__")))
    (ht : PySem.W.takesIn K (.builtin "object.__class__") = some true) : PySem.W.Looks M h (Builtin.ObjectAttr.find (.ref x) (.ref D) "__class__") (.bind (.builtin "getset_descriptor.__get__") (.builtin "object.__class__")) := by
  have L1 := PySem.W.looks_findIn (M := M) X ha
  have L2 : PySem.W.Looks M h (Builtin.ObjectAttr.getOf (some (.builtin "object.__class__"))) (some (.builtin "getset_descriptor.__get__")) := PySem.W.looks_specialIn X hg
  have L3 := PySem.W.looks_takesIn (M := M) X ht
  refine L1.andThen (L2.andThen ?_)
  refine PySem.W.Looks.andThen (a := some (.builtin "getset_descriptor.__get__", .builtin "object.__class__")) (L3.andThen ?_) (PySem.W.Looks.tag .now)
  rw [if_pos rfl]
  exact .now
theorem xc_get {tp : Value} {R : Result → Shared → Prop} (X : K.In s.heap) (I : InstC s.heap x ox D) (hm : PySem.W.mroIn K D (.type "object") = some true) (hq : R (.ok (.ret (.ref D))) s) :
    codeAny (model prog w) A (.call (.builtin "getset_descriptor.__get__") ⟨[.builtin "object.__class__", .ref x, tp], []⟩) R s := by
  obtain ⟨hh, g, d, t, os⟩ := s
  have T0 := I.type (M := model prog w)
  have T1 := PySem.W.looks_mroIn (M := model prog w) X hm
  refine codeAny_call_builtin PySem.W.KF.slot_gs.plain PySem.W.KF.entry_gs (PySem.W.KF.slot_gs.check _ _ _ _ _ _ _ _ PySem.W.KF.type_class (PySem.W.KF.args_gs _ _ _) ?_)
  unfold Builtin.«getset_descriptor.__get__» Builtin.Getset_descriptor.descrGet; rw [PySem.W.dga_obj]
  refine wpAny_bind (wpAny_pure ?_); unfold Builtin.Getset_descriptor.descrGetter Builtin.Getset_descriptor.descrCheckInstance Builtin.Getset_descriptor.descrNameAndClass isInstance
  simp only [PySem.W.KF.owner_class]; repeat lk
  refine ⟨Code.quiet_builtin _ (by decide +kernel), codeAny_builtin PySem.W.KF.entry_class ?_⟩
  unfold Builtin.«object.__class__» shownTypeOf; repeat lk
  exact hq
theorem xc_entry {tk : Tok} {Q : Fin → Shared → Prop} (X : K.In s.heap) (I : InstC s.heap x ox D) (ha : PySem.W.findIn K (.ref D) "__class__" = some (some (.builtin "object.__class__"))) (hg : PySem.W.specialIn K (.builtin "object.__class__") "__get__" = some (some (.builtin "getset_descriptor.__get__")))
    (ht : PySem.W.takesIn K (.builtin "object.__class__") = some true) (hm : PySem.W.mroIn K D (.type "object") = some true)
    (hq : Q (.done (.ret (.ref D))) s) : wpAny (model prog w) A (Builtin.«object.__getattribute__» ⟨[.ref x, .str "__class__" tk], []⟩) Q E s := by
  obtain ⟨hh, g, d, t, os⟩ := s
  have L0 := I.type (M := model prog w)
  have L1 := xc_find (M := model prog w) (x := x) X ha hg ht
  unfold Builtin.«object.__getattribute__»
  refine wpAny_bind (wpAny_pure (wpAny_bind (wpAny_pure (wpAny_bind (L0.at (wpAny_bind (L1.at ?_)))))))
  show wpAny _ _ (holding [Value.builtin "object.__class__"] (call (Value.builtin "getset_descriptor.__get__") [.builtin "object.__class__", .ref x, .ref D]) >>= ret) _ _ _
  exact wpAny_bind (wpAny_holding (wpAny_call (xc_get (s := ⟨hh, g, d, t, os⟩) X I hm (wpAny_pure hq))))
theorem xc_check {nameV : Value} {M : Model} {Q : Unit → Shared → Prop} (X : K.In s.heap) (I : InstC s.heap x ox D) (hs : PySem.W.subIn K (.ref D) (.type "BaseException") = some true) (hq : Q () s) :
    wpAny M A (checkBuiltinCall "BaseException.__getattribute__" ⟨[.ref x, nameV], []⟩) Q E s := by
  have k1 : builtinKind "BaseException.__getattribute__" = some .slot := by decide +kernel
  have k2 : splitId "BaseException.__getattribute__" = some ("BaseException", "__getattribute__") := by decide +kernel
  have k3 := PySem.F.args_bexc_ga (.ref x) nameV
  have LI : PySem.W.Looks M s.heap (isInstance (.ref x) (.type "BaseException")) true := (I.type (M := M)).andThen (PySem.W.looks_subIn X hs)
  obtain ⟨hh, g, d, t, os⟩ := s
  simp only [checkBuiltinCall, k1, k2]
  refine wpAny_bind (LI.at ?_)
  repeat (any_goals (first | assumption | wp_step))
structure ExcK (K : PySem.W.Frag) (D : Addr) : Prop where
  lk : ∃ c d cd sl, K.lookup D = some ⟨c, d, .cls cd, sl⟩
  ga : PySem.W.findIn K (.ref D) "__getattribute__" = some (some (.builtin "BaseException.__getattribute__"))
  gt : PySem.W.findIn K (.ref D) "__getattr__" = some none
  sb : PySem.W.subIn K (.ref D) (.type "BaseException") = some true
  cf : PySem.W.findIn K (.ref D) "__class__" = some (some (.builtin "object.__class__"))
  cg : PySem.W.specialIn K (.builtin "object.__class__") "__get__" = some (some (.builtin "getset_descriptor.__get__"))
  ct : PySem.W.takesIn K (.builtin "object.__class__") = some true
  mo : PySem.W.mroIn K D (.type "object") = some true
theorem xc_attr {Q : Option Value → Shared → Prop} (X : K.In s.heap) (I : InstC s.heap x ox D) (F : ExcK K D)
    (h : Q (some (.ref D)) { s with toks := s.toks + 1 }) : wpAny (model prog w) A (getAttr? (.ref x) "__class__") Q E s := by
  obtain ⟨hh, g, d, t, os⟩ := s
  have L0 := I.type (M := model prog w)
  have L1 := PySem.W.looks_findIn (M := model prog w) X F.ga
  have L2 := PySem.W.looks_findIn (M := model prog w) X F.gt
  unfold getAttr? getAttrBy? getAttrBy
  refine wpAny_bind (wpAny_mkText (wpAny_bind (wpAny_attempt (wpAny_holding (wpAny_bind (L0.at (wpAny_bind (L1.at ?_))))))))
  repeat (any_goals (first | assumption | wp_step | lk))
  refine codeAny_call_builtin (PySem.F.excAttr_ValueError).ga.plain PySem.F.entry_bexc_ga (xc_check (s := ⟨hh, g, d, t + 1, os⟩) X I F.sb (xc_entry (s := ⟨hh, g, d, t + 1, os⟩) X I F.cf F.cg F.ct F.mo ?_))
  repeat (any_goals (first | assumption | wp_step | lk))
theorem kitx_exc (F : ExcK K D) : PySem.W.KitX K (.ref x) (.ref D) (fun h => InstC h x ox D) where
  ty := fun _ _ _ I => I.type
  it := fun M h X _ => by
    obtain ⟨c, d, cd, sl, ho⟩ := F.lk
    intro A' Q' E' s' k q
    unfold isType loadHead
    exact wpAny_bind (wpAny_loadPart (k _ _ (X _ _ ho)) (wpAny_pure q))
  ne := fun h tp dd its n sl X htp => by
    obtain ⟨c, d, cd, sl', ho⟩ := F.lk
    rw [Bool.eq_false_iff]
    intro q
    cases (show D = tp from Value.ref.inj (eq_of_beq q))
    have z := X _ _ ho
    rw [htp] at z
    cases z
  ca := fun X I k => xc_attr X I F k
end
noncomputable abbrev inH (X : Cx) (x : Addr) (oe : Obj) : Cx := { X with A := X.A.mark (some (.ref x)), calm := false, pn := (x, oe) :: X.pn, xe := fun _ _ => False }
noncomputable abbrev inM (X : Cx) (x : Addr) : Cx := { X with A := X.A.mark (some (.ref x)), calm := false, xe := fun _ _ => False }
section
variable {X : Cx} {pins : List (Addr × Obj)} {σ : St} {H : Hp} {s : Shared} {x : Addr} {oe : Obj}
theorem Cx.Ok.marked (ok : X.Ok) (x : Addr) : (inM X x).Ok :=
  ⟨ok.mod, ok.kind, ok.glob, ok.blt, ok.above, ok.inj, ok.has, ok.cab, (fun z => Bool.noConfusion z), ok.frames, ok.stk, ok.exf, ok.bs, ok.bsz, ok.noex, ok.exfs, ok.funs, ok.frf⟩
theorem Inv.marked (I : Inv X pins σ H s) (x : Addr) : Inv (inM X x) pins σ H s := ⟨I.ok.marked x, I.os, I.bare, I.base, I.loc, I.cell, I.free, I.freeC, I.pin, I.hok, I.len⟩
theorem Inv.pinH (I : Inv X pins σ H s) (h1 : s.heap.get? x = some oe) (h2 : H x = none) (h3 : x ≠ X.env.locals) (h4 : x ∉ X.fs) (h5 : ∀ v, oe.data ≠ .cell v) : Inv (inH X x oe) pins σ H s :=
  ⟨⟨I.ok.mod, I.ok.kind, I.ok.glob, I.ok.blt, I.ok.above, I.ok.inj, I.ok.has, I.ok.cab, (fun z => Bool.noConfusion z), I.ok.frames, I.ok.stk, I.ok.exf, I.ok.bs, I.ok.bsz, I.ok.noex, I.ok.exfs, I.ok.funs, I.ok.frf⟩, I.os, I.bare, I.base, I.loc, I.cell, I.free, I.freeC,
    fun p hp => by
      rcases List.mem_cons.mp hp with rfl | hp
      · exact ⟨h1, h2, h3, h4, h5⟩
      · exact I.pin p hp, I.hok, I.len⟩
theorem Inv.unpinH (ok : X.Ok) (I : Inv (inH X x oe) pins σ H s) : Inv X pins σ H s := ⟨ok, I.os, I.bare, I.base, I.loc, I.cell, I.free, I.freeC, fun p hp => I.pin p (List.mem_cons_of_mem _ hp), I.hok, I.len⟩
noncomputable def rIsiX (K : PySem.W.Frag) (x D : Addr) : List V → Hp → VK → Prop := fun xs H Q => ∃ b : Bool, ((∃ C, xs = [.ref x, .ref C] ∧ PySem.W.kitOne K (.ref D) (.ref C) = some b) ∨ (∃ T, xs = [.ref x, .ty T] ∧ PySem.W.kitOne K (.ref D) (.type T) = some b) ∨
  ∃ (p : Addr) (Cs : List Addr), xs = [.ref x, .ref p] ∧ H p = some (.tup (Cs.map V.ref)) ∧ PySem.W.kitAny K (.ref D) (Cs.map Value.ref) = some b) ∧ Q (.bl b) H
theorem vals_refs : ∀ {Cs : List Addr} {us : List Value}, Vals (Cs.map V.ref) us → us = Cs.map Value.ref
  | [], _, r => by cases r; rfl
  | _ :: _, _, r => by
    cases r with
    | cons r t => cases r; rw [vals_refs t]; rfl
theorem call_isiX {D : Addr} (F : ExcK X.K D) (hc : oe.cls = .ref D) : CallR (inH X x oe) (.builtin "isinstance") (rIsiX X.K x D) := by
  intro pins s σ H xs us Q I r h
  obtain ⟨b, h, q⟩ := h
  have p := (I.pin (x, oe) (List.mem_append_left _ List.mem_cons_self)).1
  have J : InstC s.heap x oe D := ⟨p, hc⟩
  rcases h with ⟨C, rfl, hk⟩ | ⟨T, rfl, hk⟩ | ⟨tp, Cs, rfl, ht, hk⟩
  · obtain ⟨u, w', rfl, r1, r2⟩ := vals2 r
    cases (show u = Value.ref x from r1)
    cases (show w' = Value.ref C from r2)
    exact PySem.W.kia_one (kitx_exc F) I.kIn J hk (fun z => nomatch z) fun tk => ⟨.bl b, H, I.tok tk, rfl, q⟩
  · obtain ⟨u, w', rfl, r1, r2⟩ := vals2 r
    cases (show u = Value.ref x from r1)
    cases (show w' = Value.type T from r2)
    exact PySem.W.kia_one (kitx_exc F) I.kIn J hk (fun z => nomatch z) fun tk => ⟨.bl b, H, I.tok tk, rfl, q⟩
  · obtain ⟨u, w', rfl, r1, r2⟩ := vals2 r
    cases (show u = Value.ref x from r1)
    cases (show w' = Value.ref tp from r2)
    obtain ⟨its, rv, ⟨⟨cls, dd, data, sl⟩, ho, hcl, n, hdt⟩, _⟩ := I.tuple (SqT.of ht)
    simp only at hcl hdt
    subst hcl hdt
    rw [vals_refs rv] at ho
    exact PySem.W.kia_tup (kitx_exc F) I.kIn J ho hk (fun z => nomatch z) fun tk => ⟨.bl b, H, I.tok tk, rfl, q⟩
end
noncomputable def tRaise (cls : Value) (E : XK) (t : TA) : TS := fun _ σ H => t σ H fun vs H1 => vs.length ≤ sizeLine ∧ E cls none H1
theorem own_mk {K : PySem.W.Frag} {h : Heap} {mg : Str → Option Value} {x : Str} {C : Addr} {bm : List Value} {nid : String} (X : K.In h) (G : h.Ns mainGlobals mg) (e : PySem.W.nsIn K mainGlobals x = some (some (.ref C))) (q : PySem.W.excIn K C bm nid = true) : OwnCls x C bm nid mg h := by
  constructor
  · exact PySem.W.mg_of X G e
  · unfold PySem.W.excIn at q
    cases hl : K.lookup C with
    | none => rw [hl] at q; cases q
    | some o =>
      rw [hl] at q
      obtain ⟨cl, dd, data, sl⟩ := o
      split at q
      · rename_i hh
        cases hh
        split at q
        · rename_i _ cd _ _ C' bm' k0 k1 k2 k3 n k5 hm hs
          simp only [Bool.and_eq_true, beq_iff_eq, Bool.not_eq_true'] at q
          obtain ⟨⟨⟨⟨⟨rfl, rfl⟩, d0⟩, t0⟩, o0⟩, i0⟩ := q
          obtain ⟨nm, bs, mro, ns, qn, hd, sn, sub, ab, col, del⟩ := cd
          try dsimp only at hm d0 o0 i0
          subst hm d0
          obtain ⟨l⟩ := sl
          simp only at hs
          subst hs
          exact ⟨_, _, _, _, _, _, _, _, _, _, _, _, _, _, _, _, _, X _ _ hl, .of_isNs (PySem.W.isNs_of_in X o0), PySem.W.nsMap_none_of_in X o0 i0, PySem.W.tail_of_in X t0⟩
        · cases q
      · cases q
section
variable {P : Program} {w : World} {K : PySem.W.Frag} {mg : Str → Option Value} {base : Heap} {N : List Str} {qual : Str} {scope : Scope} {f : Addr} {cd : Value} {A : Around} {outer : List Env} {s₀ : Shared} {H₀ : Hp} {E : XK}
theorem ps_raise {x : Str} {C : Addr} {B nid iid : String} {bm : List Value} {np cpos pos : Pos} {e : Expr} {es : List Expr} {t : TA} (O : OwnCls x C bm nid mg base) (FB : ExcBaseFacts B nid iid bm)
    (ha : PA (cxOf (CXE P w) P w K mg base N qual scope f cd A outer s₀ H₀ E) (e :: es) t) (hg : Gl (cxOf (CXE P w) P w K mg base N qual scope f cd A outer s₀ H₀ E) x := by rfl) (hd : (x == ("__debug__" : Str)) = false := by decide)
    (he : starEach (e :: es) (cxOf (CXE P w) P w K mg base N qual scope f cd A outer s₀ H₀ E).env = (false, eval e (cxOf (CXE P w) P w K mg base N qual scope f cd A outer s₀ H₀ E).env) :: starEach es (cxOf (CXE P w) P w K mg base N qual scope f cd A outer s₀ H₀ E).env := by rfl)
    (hpl : (backTo cpos (starEach es (cxOf (CXE P w) P w K mg base N qual scope f cd A outer s₀ H₀ E).env)).any (·.1) = false := by rfl) :
    PS (cxOf (CXE P w) P w K mg base N qual scope f cd A outer s₀ H₀ E) (.Raise (some (.Call (.Name x np) (e :: es) [] cpos)) none pos) (tRaise (.ref C) E t) := by
  intro pins s σ H D I h
  obtain ⟨tl, Nn, nm, q, bs, hdct, sn, sub, ab, col, dd, k0, k1, k2, k3, k5, mN, hC, hN, hni, T⟩ := O.obj
  refine wpAny_Raise_call_subT (newId := nid) (k5 := k5) (k3 := k3) (k2 := k2) (k1 := k1) (k0 := k0) (dd := dd) (col := col) (ab := ab) (sub := sub) (sn := sn) (hdct := hdct) (bs := bs) (q := q) (nm := nm) (C := C) (N := Nn) (bm := tl) FB (mN := mN) (T.hasType FB.hasBase) (I.ok.hd rfl) (by rw [he]; show (false || (backTo cpos (starEach es _)).any (·.1)) = false; rw [hpl]; rfl) hni (ld_glob I hg O.bound ⟨rfl, ?_⟩ hd)
  rw [he]
  have ha' := ha cpos pins s σ H _ I h
  rw [he] at ha'
  exact Calls.evalArgs_plain (thn ha' fun us s1 ⟨vs, H1, I1, r, z, q⟩ => ⟨rfl, by rw [← r.length]; exact z, I1.bk _ _ hC, hN.keeps I1.bk, T.keeps I1.bk, fun h' e hx => fly_made (tk := s1.toks) I1 hx q⟩)
end
noncomputable def tFs (a : Str) (te : TE) : TE := fun σ H Q => te σ H fun v H1 => ∃ i : Int, v = .int i ∧ i.natAbs.log2 < 1920 ∧ (Str.empty ++ a ++ (toString i : Str)).length ≤ sizeLine ∧ ∀ z, Q (.str z) H1
theorem pe_fstr {X : Cx} {a : Str} {j : Nat} {e : Expr} {te : TE} {p1 p2 pos : Pos} (he : PE X e te) (hz : (Str.empty ++ a).length ≤ sizeLine := by decide +kernel) : PE X (.JoinedStr [.Constant (.str a) j p1, .FormattedValue e (-1) none p2] pos) (tFs a te) := by
  intro pins s σ H Q I h
  refine JoinedStr_many (joinParts_cons (thn ((pe_str : PE X (.Constant (.str a) j p1) (tC (.str a))) pins s σ H (fun v H1 => v = V.str a ∧ H1 = H) I ⟨rfl, rfl⟩) fun v s1 ⟨x, H1, I1, r1, q1, q2⟩ => ?_))
  subst q1 q2
  obtain ⟨t, rfl⟩ := r1
  refine ⟨hz, joinParts_cons (FormattedValue_plain (thn (he pins s1 σ H1 _ I1 h) fun v s2 ⟨y, H2, I2, r2, i, e2, hl, hz2, q⟩ => ?_))⟩
  subst e2
  obtain ⟨t2, rfl⟩ := r2
  refine formatField_int_small hl ⟨hz2, joinParts_nil ⟨.str _, H2, I2.tok _, ⟨_, rfl⟩, q _⟩ hz2⟩
theorem goes_ok {X : Cx} {pins : List (Addr × Obj)} {σ : St} {H : Hp} {s : Shared} {M : Model} {A : Around} {E : Value → Shared → Prop} {i : Nat} {x : Str} {pos : Pos} {Q : Unit → Shared → Prop} (I : Inv X pins σ H s) (hN : X.N.Nodup) (hi : X.N[i]? = some x) (hk : X.env.kindOf x = some .local)
    (h : ∀ s', Inv X pins (σ.set i none) H s' → Q () s') : wpAny M A (do bindName X.env x .none; unbindBehindTheSuite X.env x pos) Q E s := by
  obtain ⟨m, hn, hl⟩ := id I.loc
  have hiσ : i < σ.length := by rw [I.len]; exact (List.getElem?_eq_some_iff.mp hi).1
  have cne := I.cne
  refine wpAny_nameGoes_keeps hk hn (by rw [I.ok.kind]; rfl) fun h' v hn' hs => ?_
  obtain ⟨oL, _, _, hoL, _⟩ := id hn
  have low : ∀ {b : Addr} {o : Obj}, X.s₀.heap.get? b = some o → b ≠ X.env.locals := fun e => Nat.ne_of_lt (Nat.lt_of_lt_of_le (Heap.lt_size e) I.ok.above)
  refine h _ ⟨I.ok, I.os, I.bare, ⟨fun b o e n hb hx => (hs.2 b (low e)).trans (I.base.keep b o e n hb hx), fun b o e n hb hx => ?_, I.base.free, fun b o e hx => ?_, I.base.tups, I.base.frzs, I.base.tbls⟩, ⟨_, hn', fun j y v' e1 e2 e3 => ?_⟩, fun y c e => ?_, I.free, I.freeC, fun p hp => ?_, fun b ob e => ?_, by simpa using I.len⟩
  · obtain ⟨sl, e1⟩ := I.base.slot b o e n hb hx
    exact ⟨sl, (hs.2 b (low e)).trans e1⟩
  · obtain ⟨o', e1⟩ := I.base.there b o e hx
    exact ⟨o', (hs.2 b (low e)).trans e1⟩
  · by_cases hj : j = i
    · subst hj
      rw [List.getElem?_set_self hiσ] at e2
      cases e2
    · rw [List.getElem?_set_ne (Ne.symm hj)] at e2
      obtain ⟨u', r', q⟩ := hl j y v' e1 e2 e3
      refine ⟨u', r', ?_⟩
      rcases q with ⟨k, e⟩ | ⟨k, c, e, z⟩
      · refine .inl ⟨k, ?_⟩
        have : y ≠ x := fun e => hj (nodup_ix hN e1 (e ▸ hi))
        simp [this, e]
      · exact .inr ⟨k, c, e, z.sameBut hs (cne y c e)⟩
  · obtain ⟨w', z⟩ := I.cell y c e
    exact ⟨w', z.sameBut hs (cne y c e)⟩
  · obtain ⟨e, n, ne, nf, d⟩ := I.pin p hp
    exact ⟨(hs.2 p.1 ne).trans e, n, ne, nf, d⟩
  · refine (I.hok b ob e).stay (fun c w' hc q => (hs.2 c ?_).trans q) (fun _ q => q) fun _ _ q => q
    rintro rfl
    rcases hc with rfl | hc
    · rw [I.free] at e; cases e
    · rw [I.free] at hc; cases hc
section
noncomputable def PB (Y : Cx) (st : Stmt) (t : Ends → (St → XK) → St → Hp → Prop) : Prop :=
  ∀ (pins : List (Addr × Obj)) (s : Shared) (σ : St) (H : Hp) (D : Ends) (E : St → XK), Inv Y.nox pins σ H s → t D E σ H →
    wpAny (model Y.prog Y.w) Y.A (exec st Y.env) (SP Y.nox pins D) (fun e s' => ∃ σ1 H1 s1, Inv Y.nox pins σ1 H1 s1 ∧ CXE Y.prog Y.w Y.stack H1 s1 (E σ1) e s') s
noncomputable def PBs (Y : Cx) (st : List Stmt) (t : Ends → (St → XK) → St → Hp → Prop) : Prop :=
  ∀ (pins : List (Addr × Obj)) (s : Shared) (σ : St) (H : Hp) (D : Ends) (E : St → XK), Inv Y.nox pins σ H s → t D E σ H →
    wpAny (model Y.prog Y.w) Y.A (execs st Y.env) (SP Y.nox pins D) (fun e s' => ∃ σ1 H1 s1, Inv Y.nox pins σ1 H1 s1 ∧ CXE Y.prog Y.w Y.stack H1 s1 (E σ1) e s') s
noncomputable def bNext : Ends → (St → XK) → St → Hp → Prop := fun D _ σ H => D.nx σ H
theorem pbs_nil {Y : Cx} : PBs Y [] bNext := fun _ _ σ H _ _ I h => wpAny_execs_nil ⟨σ, H, I, h⟩
noncomputable def bSeq (t u : Ends → (St → XK) → St → Hp → Prop) : Ends → (St → XK) → St → Hp → Prop := fun D E σ H => t ⟨u D E, D.rt, D.bk, D.ct⟩ E σ H
theorem pbs_cons {Y : Cx} {st : Stmt} {rest : List Stmt} {t u : Ends → (St → XK) → St → Hp → Prop} (h1 : PB Y st t) (h2 : PBs Y rest u) : PBs Y (st :: rest) (bSeq t u) := by
  intro pins s σ H D E I h
  refine wpAny_execs_cons (thn (h1 pins s σ H ⟨u D E, D.rt, D.bk, D.ct⟩ E I h) fun f s1 q => ?_)
  cases f with
  | next =>
    obtain ⟨σ', H', I', q⟩ := q
    exact h2 pins s1 σ' H' D E I' q
  | brk => exact q
  | cont => exact q
  | ret v => exact q
noncomputable def bCall (sp : Sp) (t : TA) : Ends → (St → XK) → St → Hp → Prop := fun D E σ H => t σ H fun vs H1 => sp vs H1 (fun _ H2 => D.nx σ H2) (E σ)
end
structure CalX (P : Program) (w : World) (K : PySem.W.Frag) (mg : Str → Option Value) (base : Heap) (x : Str) (k : Nat) (ps : List Str) (sp : Sp) : Prop where
  ex : ∃ (f : Addr) (fd : FuncData), mg x = some (.ref f) ∧ PySem.W.keepIn K (.ref f) = true ∧ Binds K fd ps [] ∧ FnOk P w K mg base (CXE P w) k f fd ps sp
theorem pb_call {Y : Cx} {x : Str} {k j : Nat} {ps : List Str} {sp : Sp} {e : Expr} {es : List Expr} {t : TA} {p pos pos2 : Pos} (C : CalX Y.prog Y.w Y.K Y.mg Y.base x j ps sp) (hr : Room k Y.A) (ha : PA Y.nox (e :: es) t) (hjk : j ≤ k := by decide) (hg : Gl Y x := by rfl) (hdb : (x == ("__debug__" : Str)) = false := by decide)
    (he : starEach (e :: es) Y.env = (false, eval e Y.env) :: starEach es Y.env := by rfl) (hpl : (backTo pos (starEach es Y.env)).any (·.1) = false := by rfl) (hs : swapsWith (.Call (.Name x p) (e :: es) [] pos) none pos2.line Y.env = pure false := by rfl) :
    PB Y (.Expr (.Call (.Name x p) (e :: es) [] pos) pos2) (bCall sp t) := by
  intro pins s σ H D E I h
  obtain ⟨f, fd, hm, hk, hb, F⟩ := C.ex
  refine wpAny_Expr_any (wpAny_Call_Name_kw (ld_glob (X := Y.nox) I hg hm ?_ hdb)) I.quiet hs
  refine PySem.W.callWith_K (h₀ := Y.base) I.ok.mod.kin hk (wpAny_mono (ha pos pins s σ H _ I h) (fun us s1 ⟨vs, H1, I1, r, q⟩ => ⟨I1.kIn, ?_⟩) fun _ _ z => z.elim) he hpl
  have hl : us.length = ps.length := by rw [← r.length]; exact F.len _ _ _ _ q
  have hb' := hb s1 us I1.kIn (by rw [List.append_nil]; exact hl)
  rw [List.append_nil] at hb'
  refine wpAny_call (codeAny_mono (F.run Y.A Y.stack s1 H1 ⟨us, []⟩ us vs _ (E σ) (hr.mono hjk) I1.env0 hb' r q) fun r s' hq => ?_)
  cases r with
  | error e => exact ⟨σ, H1, s1, I1, hq⟩
  | ok fl =>
    cases fl with
    | ret u =>
      obtain ⟨v, H2, I2, _, q2⟩ := I1.after hq
      exact ⟨σ, H2, I2, q2⟩
    | next => exact False.elim hq
    | brk => exact False.elim hq
    | cont => exact False.elim hq
theorem Fly.lands {P : Program} {w : World} {l : List Env} {H : Hp} {s : Shared} {x : Addr} {cls a0 : Value} {H' : Hp} {s' : Shared} {B h5 : Heap} (F : Fly P w l H s x cls H' s') (fl : Heap.FlyingW B l x cls a0 s'.heap) (f1 : ∀ b o, s'.heap.get? b = some o → H' b ≠ none → B.get? b = some o)
    (f2 : ∀ b o o', s.heap.get? b = some o → b ∉ frs l → s'.heap.get? b = some o' → B.get? b = some o') (fl5 : Heap.FlyingW B l x cls a0 h5) (sm : s'.heap.UpToSlots h5) : Un (frs l) [] H H' s.heap h5 ∧ HOk P w H' h5 := by
  have no : ∀ b : Addr, b ∉ ([] : List Addr) := fun b z => by cases z
  have hff := fl.2.2.1
  have up : ∀ b ∈ frs l, ∀ o, s'.heap.get? b = some o → ∃ sl, h5.get? b = some { o with slots := sl } := fun b hb o ho => by
    obtain ⟨_, o', ho', hd⟩ := hff.mem hb
    rw [ho] at ho'
    cases ho'
    exact sm b o ho hd
  refine ⟨⟨fun b o q n hb _ => fl5.1 b o (f2 b o o q hb (F.un.keep b o q n hb (no b))), fun b o q n hb _ => ?_, F.un.free, fun b o q _ => ?_, F.un.tups, F.un.frzs, F.un.tbls⟩, fun a o q => ?_⟩
  · obtain ⟨sl, e1⟩ := F.un.slot b o q n hb (no b)
    obtain ⟨sl', e2⟩ := up b hb _ e1
    exact ⟨sl', e2⟩
  · obtain ⟨o2, e2⟩ := F.un.there b o q (no b)
    by_cases hb : b ∈ frs l
    · obtain ⟨sl, e3⟩ := up b hb _ e2
      exact ⟨_, e3⟩
    · exact ⟨_, fl5.1 b o2 (f2 b o o2 q hb e2)⟩
  · refine (F.hok a o q).stay (fun b u hb z => fl5.1 b u (f1 b u z ?_)) (fun _ z => z) fun _ _ z => z
    rcases hb with rfl | hb
    · rw [q]; intro z; cases z
    · rw [hb]; intro z; cases z
noncomputable def tTry (K : PySem.W.Frag) (C : Addr) (i : Nat) (tb : Ends → (St → XK) → St → Hp → Prop) (ts : Addr → Addr → TS) : TS := fun D σ H =>
  tb D (fun σ1 cls _ H1 => ∃ Dx, cls = .ref Dx ∧ PySem.W.exmOne K (.ref Dx) (.ref C) = some true ∧ ExcK K Dx ∧ ∀ x, H1 x = none →
    ts x Dx ⟨fun σ' H' => D.nx (σ'.set i none) H', D.rt, fun σ' H' => D.bk (σ'.set i none) H', fun σ' H' => D.ct (σ'.set i none) H'⟩ (σ1.set i (some (.ref x))) H1) σ H
theorem ps_try {Y : Cx} {i : Nat} {c n : Str} {C : Addr} {body : List Stmt} {b0 : Stmt} {suite : List Stmt} {np hpos pos : Pos} {tb : Ends → (St → XK) → St → Hp → Prop} {ts : Addr → Addr → TS}
    (hstk : Y.stack = Y.env :: Y.outer) (hfrm : Y.env.frame = some Y.env.locals) (hN : Y.N.Nodup) (hi : Y.N[i]? = some n) (hk : Y.env.kindOf n = some .local) (hx : Y.env.scope.names.lookup n = some .local) (hm : Y.mg c = some (.ref C)) (hg : Gl Y c) (hd : (c == ("__debug__" : Str)) = false)
    (hb : PBs Y body tb) (hs : ∀ (x : Addr) (oe : Obj) (Dx : Addr), ExcK Y.K Dx → oe.cls = .ref Dx → PSs (inH Y x oe) (b0 :: suite) (ts x Dx)) :
    PS Y.nox (.Try body [.ExceptHandler (some (.Name c np)) (some n) (b0 :: suite) hpos] [] [] pos) (tTry Y.K C i tb ts) := by
  intro pins s σ H D I h
  refine wpAny_Try_except (wpAny_mono (hb pins s σ H _ _ I h) (fun f s1 q => ?_) fun e s1 q => ?_)
  · cases f with
    | next => exact wpAny_execs_nil q
    | brk => exact q
    | cont => exact q
    | ret v => exact q
  obtain ⟨σ1, H1, s2, I1, x, cls, H', rfl, ⟨Dx, rfl, hex, hK, hts⟩, F⟩ := q
  obtain ⟨B, a0, fl, f1, f2⟩ := F.fly
  have ok : Y.nox.Ok := I1.ok
  have hfr : Y.A.frames = some (Y.env :: Y.outer) := by rw [← hstk]; exact ok.frames
  have fl' : Heap.FlyingW B (Y.env :: Y.outer) x (.ref Dx) a0 s1.heap := by rw [← hstk]; exact fl
  refine wpAny_looks_onW hfr hfrm fl' fun h4 hd4 sm4 => wpAny_landsW hd4 fun h5 fl5 sm5 => ?_
  have sm45 : s1.heap.UpToSlots h5 := sm4.trans sm5
  have lnd : ∀ h6, Heap.FlyingW B (Y.env :: Y.outer) x (.ref Dx) a0 h6 → s1.heap.UpToSlots h6 → ∀ g tk dr, g = s1.gens → Inv Y.nox pins σ1 H' ⟨h6, g, dr, tk, s1.os⟩ := fun h6 fl6 sm6 g tk dr eg => by
    obtain ⟨un, hok⟩ := F.lands fl f1 f2 (by rw [hstk]; exact fl6) sm6
    exact I1.call' (s' := ⟨h6, g, dr, tk, s1.os⟩) F.os un hok (by rw [eg]; exact F.bare) (fun b z => by cases z)
  have I5 := lnd h5 fl5 sm45 s1.gens s1.toks s1.drawn rfl
  have ty5 : PySem.W.Looks (model Y.prog Y.w) h5 (typeOf (.ref x)) (.ref Dx) := by
    obtain ⟨ob, hob, hc⟩ := fl5.there
    exact InstC.type ⟨hob, hc⟩
  refine wpAny_handleBy_cons (codeAny_handlers_test ?_) (by intro q; cases q)
  refine ld_glob (X := inM Y.nox x) (I5.marked x) hg hm ?_ hd
  refine (PySem.W.exm_one (M := model Y.prog Y.w) I5.kIn ty5 hex).here ?_
  dsimp only
  rw [if_pos rfl]
  refine codeAny_handlers_suite_as (lands_againW fl5 fun h6 fl6 sm6 => ?_)
  have I6 := lnd h6 fl6 (sm45.trans sm6) s1.gens s1.toks s1.drawn rfl
  obtain ⟨oe, vs, he, hc, hdt, _⟩ := fl6.first
  have nfr : x ∉ frs (Y.env :: Y.outer) := fun hm' => by
    obtain ⟨_, o, ho, hnf⟩ := fl6.2.2.1.mem hm'
    rw [he] at ho
    cases ho
    exact hnf vs hdt
  have I7 := I6.pinH (x := x) he F.new (fun z => nfr (frs_mem (env := Y.env) List.mem_cons_self (by rw [hfrm, z]))) (fun z => nfr (by show x ∈ List.filterMap _ _; rw [List.filterMap_cons, hfrm]; exact List.mem_cons_of_mem _ z)) (fun v z => by rw [hdt] at z; cases z)
  refine store_ok (X := inH Y.nox x oe) (v := .ref x) I7 hN hi (.inl hx) rfl (fun s8 I8 => ?_) (.inr hx)
  refine wpAny_mono (hs x oe Dx hK hc pins s8 _ H' _ I8 (hts x F.new)) (fun f s9 q => ?_) fun _ _ z => z.elim
  cases f with
  | next =>
    obtain ⟨σ', H9, I9, q⟩ := q
    exact goes_ok (X := Y.nox) (Inv.unpinH ok I9) hN hi hk fun s10 I10 => ⟨_, H9, I10, q⟩
  | brk =>
    obtain ⟨σ', H9, I9, q⟩ := q
    exact goes_ok (X := Y.nox) (Inv.unpinH ok I9) hN hi hk fun s10 I10 => ⟨_, H9, I10, q⟩
  | cont =>
    obtain ⟨σ', H9, I9, q⟩ := q
    exact goes_ok (X := Y.nox) (Inv.unpinH ok I9) hN hi hk fun s10 I10 => ⟨_, H9, I10, q⟩
  | ret u =>
    obtain ⟨v, σ', H9, I9, rv, q⟩ := q
    exact goes_ok (X := Y.nox) (Inv.unpinH ok I9) hN hi hk fun s10 I10 => ⟨v, _, H9, I10, rv, q⟩
theorem Dfn.okX {P : Program} {w : World} {K : PySem.W.Frag} {mg : Str → Option Value} {base : Heap} {x : Str} {st : Stmt} {N ps : List Str} {k : Nat} {sp : Sp} (D : Dfn K mg x st ps) (S : FnScope N ps (defScope st)) (len : ∀ vs H Q E, sp vs H Q E → vs.length = ps.length)
    (hbody : ∀ (f : Addr) (cdv : Value) (A : Around) (outer : List Env) (s : Shared) (H : Hp) (vs : List V) (Q : VK) (E : XK), Room k (A.deeper (envOfC x (defScope st) s.heap.objs.size f cdv)) → sp vs H Q E →
      ∃ t, PSs (cxOf (CXE P w) P w K mg base N x (defScope st) f cdv A outer s H E) (defBody st) t ∧ t { nx := fun _ H' => Q .non H', rt := Q } (start N vs) H) : CalX P w K mg base x (k + 1) ps sp := by
  obtain ⟨f, fd, hm, F, hb⟩ := D.ex
  obtain ⟨oc, od, kV, doc, pm, an, cdv, ct, osl, rfl, lk, hcd⟩ := F.ex
  exact ⟨f, _, hm, F.kp, hb, fn_of lk hcd S len fun A outer s H vs Q E hr h => hbody f cdv A outer s H vs Q E hr h⟩
section
variable {P : Program} {w : World} {K : PySem.W.Frag} {mg : Str → Option Value} {base : Heap} {N : List Str} {qual : Str} {scope : Scope} {f : Addr} {cd : Value} {A : Around} {outer : List Env} {s₀ : Shared} {H₀ : Hp} {E : XK}
end
noncomputable abbrev bmV : List Value := [.type "ValueError", .type "Exception", .type "BaseException", .type "object"]
noncomputable def cA (K : PySem.W.Frag) (x : Str) : Addr := match PySem.W.nsIn K mainGlobals x with
  | some (some (.ref C)) => C
  | _ => 0
noncomputable def excB (K : PySem.W.Frag) (x : Str) : Bool :=
  PySem.W.excIn K (cA K x) bmV "ValueError.__new__" && (match K.lookup (cA K x) with | some ⟨_, _, .cls _, _⟩ => true | _ => false) && PySem.W.findIn K (.ref (cA K x)) "__getattribute__" == some (some (.builtin "BaseException.__getattribute__")) &&
  PySem.W.findIn K (.ref (cA K x)) "__getattr__" == some none && PySem.W.subIn K (.ref (cA K x)) (.type "BaseException") == some true && PySem.W.findIn K (.ref (cA K x)) "__class__" == some (some (.builtin "object.__class__")) &&
  PySem.W.specialIn K (.builtin "object.__class__") "__get__" == some (some (.builtin "getset_descriptor.__get__")) && PySem.W.takesIn K (.builtin "object.__class__") == some true && PySem.W.mroIn K (cA K x) (.type "object") == some true
structure Xf (K : PySem.W.Frag) (mg : Str → Option Value) (base : Heap) (all raised : List Str) : Prop where
  cl : ∀ x ∈ all, mg x = some (.ref (cA K x))
  own : ∀ x ∈ raised, OwnCls x (cA K x) bmV "ValueError.__new__" mg base
  exk : ∀ x ∈ raised, ExcK K (cA K x)
  up : ∀ x ∈ raised, PySem.W.exmOne K (.ref (cA K x)) (.ref (cA K "StairError")) = some true
  kv : ∀ x ∈ raised, PySem.W.kitOne K (.ref (cA K x)) (.type "ValueError") = some true
  kc : ∀ x ∈ raised, ∀ y ∈ all, PySem.W.kitOne K (.ref (cA K x)) (.ref (cA K y)) = some (x == y || y == ("StairError" : Str))
noncomputable def xfB (K : PySem.W.Frag) (all raised : List Str) : Bool :=
  all.all (fun x => PySem.W.nsIn K mainGlobals x == some (some (.ref (cA K x)))) && raised.all (fun x => all.contains x && excB K x && PySem.W.exmOne K (.ref (cA K x)) (.ref (cA K "StairError")) == some true && PySem.W.kitOne K (.ref (cA K x)) (.type "ValueError") == some true &&
    all.all fun y => PySem.W.kitOne K (.ref (cA K x)) (.ref (cA K y)) == some (x == y || y == ("StairError" : Str)))
theorem xf_mk {K : PySem.W.Frag} {mg : Str → Option Value} {base : Heap} {all raised : List Str} (X : K.In base) (G : base.Ns mainGlobals mg) (h : xfB K all raised = true) : Xf K mg base all raised := by
  unfold xfB at h
  rw [Bool.and_eq_true, List.all_eq_true, List.all_eq_true] at h
  obtain ⟨h1, h2⟩ := h
  have n1 : ∀ x ∈ all, PySem.W.nsIn K mainGlobals x = some (some (.ref (cA K x))) := fun x hx => eq_of_beq (h1 x hx)
  have h3 : ∀ x ∈ raised, ((((x ∈ all ∧ excB K x = true) ∧ PySem.W.exmOne K (.ref (cA K x)) (.ref (cA K "StairError")) = some true) ∧ PySem.W.kitOne K (.ref (cA K x)) (.type "ValueError") = some true) ∧ ∀ y ∈ all, PySem.W.kitOne K (.ref (cA K x)) (.ref (cA K y)) = some (x == y || y == ("StairError" : Str))) := fun x hx => by
    have := h2 x hx
    simp only [Bool.and_eq_true, beq_iff_eq, List.contains_iff_mem, List.all_eq_true] at this
    exact this
  have e1 : ∀ x ∈ raised, PySem.W.excIn K (cA K x) bmV "ValueError.__new__" = true ∧ ExcK K (cA K x) := fun x hx => by
    have := (h3 x hx).1.1.1.2
    unfold excB at this
    simp only [Bool.and_eq_true, beq_iff_eq] at this
    obtain ⟨⟨⟨⟨⟨⟨⟨⟨a1, a2⟩, a3⟩, a4⟩, a5⟩, a6⟩, a7⟩, a8⟩, a9⟩ := this
    refine ⟨a1, ?_, a3, a4, a5, a6, a7, a8, a9⟩
    cases hl : K.lookup (cA K x) with
    | none => rw [hl] at a2; cases a2
    | some o =>
      rw [hl] at a2
      obtain ⟨c, d, data, sl⟩ := o
      cases data <;> first | exact ⟨_, _, _, _, rfl⟩ | cases a2
  exact ⟨fun x hx => PySem.W.mg_of X G (n1 x hx), fun x hx => own_mk X G (n1 x (h3 x hx).1.1.1.1) (e1 x hx).1, fun x hx => (e1 x hx).2, fun x hx => (h3 x hx).1.1.2, fun x hx => (h3 x hx).1.2, fun x hx => (h3 x hx).2⟩
theorem kitAny_no {K : PySem.W.Frag} {t : Value} : ∀ {Cs : List Addr}, (∀ C ∈ Cs, PySem.W.kitOne K t (.ref C) = some false) → PySem.W.kitAny K t (Cs.map Value.ref) = some false
  | [], _ => rfl
  | C :: Cs, h => by
    show (match PySem.W.kitOne K t (.ref C) with | some true => some true | some false => PySem.W.kitAny K t (Cs.map Value.ref) | none => none) = some false
    rw [h C List.mem_cons_self]
    exact kitAny_no fun D hD => h D (List.mem_cons_of_mem _ hD)
section
variable {K : PySem.W.Frag} {D : Ends} {σ : St} {H : Hp} {Q : VK} {E : XK} {C x : Addr}
theorem rd_raise {t : TA} {cls : Value} (h : t σ H fun vs H1 => vs.length ≤ sizeLine ∧ E cls none H1) : tRaise cls E t D σ H := h
theorem rd_fs {a : Str} {te : TE} (h : te σ H fun v H1 => ∃ i : Int, v = .int i ∧ i.natAbs.log2 < 1920 ∧ (Str.empty ++ a ++ (toString i : Str)).length ≤ sizeLine ∧ ∀ z, Q (.str z) H1) : tFs a te σ H Q := h
theorem rd_isiC {C' : Addr} {b : Bool} (hk : PySem.W.kitOne K (.ref C) (.ref C') = some b) (h : Q (.bl b) H) : rIsiX K x C [.ref x, .ref C'] H Q := ⟨b, .inl ⟨C', rfl, hk⟩, h⟩
theorem rd_isiT {T : String} {b : Bool} (hk : PySem.W.kitOne K (.ref C) (.type T) = some b) (h : Q (.bl b) H) : rIsiX K x C [.ref x, .ty T] H Q := ⟨b, .inr (.inl ⟨T, rfl, hk⟩), h⟩
theorem rd_isiP {p : Addr} {Cs : List Addr} {b : Bool} (ht : H p = some (.tup (Cs.map V.ref))) (hk : PySem.W.kitAny K (.ref C) (Cs.map Value.ref) = some b) (h : Q (.bl b) H) : rIsiX K x C [.ref x, .ref p] H Q := ⟨b, .inr (.inr ⟨p, Cs, rfl, ht, hk⟩), h⟩
end
theorem CalX.cal {P : Program} {w : World} {K : PySem.W.Frag} {mg : Str → Option Value} {base : Heap} {x : Str} {k : Nat} {ps : List Str} {sp : Sp} (C : CalX P w K mg base x k ps sp) : Cal P w K mg base x k ps (fun vs H Q _ => sp vs H Q E0) := by
  obtain ⟨f, fd, hm, hk, hb, F⟩ := C.ex
  refine ⟨f, fd, hm, hk, hb, fun vs H Q E h => F.len vs H Q E0 h, fun A outer s H args us vs Q E hr he hbt hv hs => codeAny_mono (F.run A outer s H args us vs Q E0 hr he hbt hv hs) fun r s' hq => ?_⟩
  cases r with
  | error e =>
    obtain ⟨_, _, _, _, hE, _⟩ := hq
    exact hE.elim
  | ok fl => cases fl <;> exact hq
section
variable {K : PySem.W.Frag} {D : Ends} {σ : St} {H : Hp} {E : St → XK} {C : Addr} {i : Nat} {t u tb : Ends → (St → XK) → St → Hp → Prop} {ts : Addr → Addr → TS} {c : TT}
theorem rd_try (h : tb D (fun σ1 cls _ H1 => ∃ Dx, cls = .ref Dx ∧ PySem.W.exmOne K (.ref Dx) (.ref C) = some true ∧ ExcK K Dx ∧ ∀ x, H1 x = none →
    ts x Dx ⟨fun σ' H' => D.nx (σ'.set i none) H', D.rt, fun σ' H' => D.bk (σ'.set i none) H', fun σ' H' => D.ct (σ'.set i none) H'⟩ (σ1.set i (some (.ref x))) H1) σ H) : tTry K C i tb ts D σ H := h
theorem rd_bseq (h : t ⟨u D E, D.rt, D.bk, D.ct⟩ E σ H) : bSeq t u D E σ H := h
theorem rd_bnext (h : D.nx σ H) : bNext D E σ H := h
theorem rd_bcall {sp : Sp} {a : TA} (h : a σ H fun vs H1 => sp vs H1 (fun _ H2 => D.nx σ H2) (E σ)) : bCall sp a D E σ H := h
end
end L2
set_option linter.all false
namespace St
noncomputable def Rising (lo hi : Int) (xs : List Int) : Prop := xs.Pairwise (· < ·) ∧ ∀ x ∈ xs, lo ≤ x ∧ x < hi
structure Ok (b s : Int) (o a : List Int) : Prop where
  hb : 0 ≤ b
  hs : 1 ≤ s
  ho : Rising 0 b o
  ha : Rising b (b + s) a
noncomputable def mem (b s : Int) (o a : List Int) (x : Int) : Bool := if x < b then o.contains x else a.contains (b + (x - b) % s)
section
variable {b s : Int} {o a : List Int}
theorem mem_lt (x : Int) (h : x < b) : mem b s o a x = o.contains x := if_pos h
theorem mem_ge (x : Int) (h : b ≤ x) : mem b s o a x = a.contains (b + (x - b) % s) := if_neg (by omega)
end
end St
set_option linter.all false
namespace St
noncomputable def Per (f : Nat → Bool) (b d : Nat) : Prop := ∀ x, b ≤ x → f (x + d) = f x
theorem Per.mul {f : Nat → Bool} {b d : Nat} (h : Per f b d) : ∀ k x, b ≤ x → f (x + k * d) = f x
  | 0, x, hx => by simp
  | k + 1, x, hx => by
    rw [Nat.succ_mul, ← Nat.add_assoc, h _ (by omega), h.mul k x hx]
theorem Per.times {f : Nat → Bool} {b d : Nat} (h : Per f b d) (k : Nat) : Per f b (k * d) := fun x hx => h.mul k x hx
theorem Per.down {f : Nat → Bool} {b s b' d : Nat} (h : Per f b s) (hs : 1 ≤ s) (h' : Per f b' d) : Per f b d := fun x hx => by
  have e1 := h.mul b' (x + d) (by omega)
  have e2 := h.mul b' x hx
  rw [← e1, ← e2, show x + d + b' * s = (x + b' * s) + d by omega]
  exact h' _ (by have : b' * 1 ≤ b' * s := Nat.mul_le_mul_left _ hs; omega)
theorem Per.mod {f : Nat → Bool} {b s d : Nat} (h : Per f b s) (h' : Per f b d) : Per f b (s % d) := fun x hx => by
  have e := (h'.times (s / d)) (x + s % d) (by omega)
  rw [← e, show x + s % d + s / d * d = x + s by have := Nat.div_add_mod s d; rw [Nat.mul_comm] at this; omega]
  exact h x hx
structure Least (f : Nat → Bool) (st low : Nat) : Prop where
  pos : 1 ≤ st
  per : Per f low st
  step : ∀ d b, 1 ≤ d → Per f b d → st ≤ d
  base : ∀ b, Per f b st → low ≤ b
theorem Least.one {f : Nat → Bool} {st low st' low' : Nat} (h : Least f st low) (h' : Least f st' low') : st = st' ∧ low = low' := by
  have e : st = st' := Nat.le_antisymm (h.step st' low' h'.pos h'.per) (h'.step st low h.pos h.per)
  subst e
  exact ⟨rfl, Nat.le_antisymm (h.base low' h'.per) (h'.base low h.per)⟩
noncomputable def Alike (f : Nat → Bool) (b s d : Nat) : Prop := s % d = 0 ∧ ∀ i, i + d < s → f (b + i + d) = f (b + i)
theorem Alike.per {f : Nat → Bool} {b s d : Nat} (h : Per f b s) (hs : 1 ≤ s) (hd : 1 ≤ d) (a : Alike f b s d) : Per f b d := by
  obtain ⟨q, rfl⟩ : ∃ q, s = d * q := ⟨s / d, by have := Nat.div_add_mod s d; rw [a.1] at this; omega⟩
  have hq : 1 ≤ q := by
    cases q with
    | zero => simp at hs
    | succ q => omega
  have inner : ∀ k i, i < d → k < q → f (b + i + k * d) = f (b + i) := by
    intro k
    induction k with
    | zero => intro i _ _; simp
    | succ k ih =>
      intro i hi hk
      have e := a.2 (i + k * d) (by
        have : (k + 1 + 1) * d ≤ q * d := Nat.mul_le_mul_right _ (by omega)
        rw [Nat.succ_mul, Nat.succ_mul, Nat.mul_comm q d] at this
        omega)
      rw [show b + i + (k + 1) * d = b + (i + k * d) + d by rw [Nat.succ_mul]; omega, e, ← Nat.add_assoc]
      exact ih i hi (by omega)
  have all : ∀ n, f (b + n) = f (b + n % d) := fun n => by
    have e1 : f (b + n) = f (b + n % (d * q)) := by
      have := h.mul (n / (d * q)) (b + n % (d * q)) (by omega)
      rw [← this]
      congr 1
      have := Nat.div_add_mod n (d * q)
      rw [Nat.mul_comm (d * q)] at this
      omega
    rw [e1]
    have hlt : n % (d * q) < d * q := Nat.mod_lt _ (by omega)
    have e2 : n % (d * q) = n % (d * q) % d + n % (d * q) / d * d := by
      have := Nat.div_add_mod (n % (d * q)) d
      rw [Nat.mul_comm] at this
      omega
    have e3 : n % (d * q) % d = n % d := Nat.mod_mul_right_mod n d q
    have e4 : n % (d * q) / d < q := Nat.div_lt_of_lt_mul hlt
    rw [e2, ← Nat.add_assoc, inner _ _ (Nat.mod_lt _ (by omega)) e4, e3]
  intro x hx
  obtain ⟨n, rfl⟩ : ∃ n, x = b + n := ⟨x - b, by omega⟩
  rw [Nat.add_assoc, all (n + d), all n, Nat.add_mod_right]
theorem Per.alike {f : Nat → Bool} {b s d : Nat} (h : Per f b d) (hm : s % d = 0) : Alike f b s d := ⟨hm, fun i _ => h (b + i) (by omega)⟩
noncomputable def Round (f : Nat → Bool) (b s d : Nat) : Prop := s % d = 0 ∧ ∀ k, k < s → f (b + k) = f (b + k % d)
theorem Round.alike {f : Nat → Bool} {b s d : Nat} (hd : 1 ≤ d) (a : Round f b s d) : Alike f b s d := ⟨a.1, fun i hi => by
  rw [Nat.add_assoc, a.2 (i + d) hi, a.2 i (by omega), Nat.add_mod_right]⟩
theorem Per.round {f : Nat → Bool} {b s d : Nat} (h : Per f b d) (hm : s % d = 0) : Round f b s d := ⟨hm, fun k _ => by
  have := h.mul (k / d) (b + k % d) (by omega)
  rw [← this]
  congr 1
  have := Nat.div_add_mod k d
  rw [Nat.mul_comm] at this
  omega⟩
theorem least_step {f : Nat → Bool} {b s d : Nat} (h : Per f b s) (hs : 1 ≤ s) (hd : 1 ≤ d) (a : Alike f b s d) (first : ∀ e, 1 ≤ e → e < d → ¬ Alike f b s e) : Per f b d ∧ ∀ e b', 1 ≤ e → Per f b' e → d ≤ e := by
  have pd := a.per h hs hd
  refine ⟨pd, fun e b' he pe => ?_⟩
  have pe' : Per f b e := h.down hs pe
  -- the least one that goes round
  have go : ∀ n e, e ≤ n → 1 ≤ e → Per f b e → d ≤ e := by
    intro n
    induction n with
    | zero => intro e h1 h2; omega
    | succ n ih =>
      intro e h1 h2 pe
      by_cases hz : s % e = 0
      · rcases Nat.lt_or_ge e d with hlt | hge
        · exact absurd (pe.alike hz) (first e h2 hlt)
        · exact hge
      · have hlt : s % e < e := Nat.mod_lt _ (by omega)
        have := ih (s % e) (by omega) (by omega) (h.mod pe)
        omega
  exact go e e (Nat.le_refl _) he pe'
theorem least_of {f : Nat → Bool} {b s d low : Nat} (h : Per f b s) (hs : 1 ≤ s) (hd : 1 ≤ d) (a : Alike f b s d) (first : ∀ e, 1 ≤ e → e < d → ¬ Alike f b s e) (hl : low ≤ b)
    (down : ∀ x, low ≤ x → x < b → f x = f (x + d)) (stop : low = 0 ∨ f (low - 1) ≠ f (low - 1 + d)) : Least f d low := by
  obtain ⟨pd, hmin⟩ := least_step h hs hd a first
  refine ⟨hd, fun x hx => ?_, hmin, fun b' pb => ?_⟩
  · rcases Nat.lt_or_ge x b with hlt | hge
    · exact (down x hx hlt).symm
    · exact pd x hge
  · rcases stop with h0 | hne
    · omega
    · rcases Nat.lt_or_ge b' low with hlt | hge
      · exact absurd (pb (low - 1) (by omega)).symm hne
      · exact hge
noncomputable def row (f : Nat → Bool) (lo n : Nat) : List Int := ((List.range n).filter fun i => f (lo + i)).map fun i => ((lo + i : Nat) : Int)
end St
set_option linter.all false
namespace St
theorem row_succ (f : Nat → Bool) (lo n : Nat) : row f lo (n + 1) = row f lo n ++ if f (lo + n) then [((lo + n : Nat) : Int)] else [] := by
  unfold row
  rw [List.range_succ, List.filter_append, List.map_append]
  congr 1
  by_cases h : f (lo + n) = true <;> simp [h]
theorem row_len (f : Nat → Bool) (lo n : Nat) : (row f lo n).length ≤ n := by
  unfold row
  rw [List.length_map]
  exact Nat.le_trans (List.length_filter_le _ _) (by simp)
theorem mem_row {f : Nat → Bool} {lo n : Nat} {x : Int} : x ∈ row f lo n ↔ (lo : Int) ≤ x ∧ x < lo + n ∧ f x.toNat = true := by
  unfold row
  simp only [List.mem_map, List.mem_filter, List.mem_range]
  constructor
  · rintro ⟨i, ⟨hi, hf⟩, rfl⟩
    refine ⟨by omega, by omega, ?_⟩
    rw [Int.toNat_natCast]; exact hf
  · rintro ⟨h1, h2, h3⟩
    refine ⟨x.toNat - lo, ⟨by omega, ?_⟩, by omega⟩
    rw [show lo + (x.toNat - lo) = x.toNat by omega]; exact h3
theorem row_rising (f : Nat → Bool) (lo n : Nat) : Rising lo (lo + n) (row f lo n) := by
  refine ⟨?_, fun x hx => ⟨(mem_row.mp hx).1, (mem_row.mp hx).2.1⟩⟩
  unfold row
  rw [List.pairwise_map]
  refine List.Pairwise.imp (R := fun a b => a < b) (fun h => by omega) ?_
  exact List.Pairwise.filter _ List.pairwise_lt_range
theorem row_contains {f : Nat → Bool} {lo n : Nat} {x : Int} (h1 : (lo : Int) ≤ x) (h2 : x < lo + n) : (row f lo n).contains x = f x.toNat := by
  rw [Bool.eq_iff_iff, List.contains_iff_mem, mem_row]
  constructor
  · exact fun h => h.2.2
  · exact fun h => ⟨h1, h2, h⟩
theorem row_ok (f : Nat → Bool) (b s : Nat) (hs : 1 ≤ s) : Ok b s (row f 0 b) (row f b s) :=
  ⟨by omega, by omega, by have := row_rising f 0 b; simpa using this, row_rising f b s⟩
theorem row_mem {f : Nat → Bool} {b s : Nat} (hs : 1 ≤ s) (h : Per f b s) (x : Nat) : mem b s (row f 0 b) (row f b s) x = f x := by
  by_cases hx : x < b
  · rw [mem_lt _ (by omega), row_contains (by omega) (by omega), Int.toNat_natCast]
  · rw [mem_ge _ (by omega)]
    have r0 : 0 ≤ ((x : Int) - b) % s := Int.emod_nonneg _ (by omega)
    have r1 : ((x : Int) - b) % s < s := Int.emod_lt_of_pos _ (by omega)
    rw [row_contains (by omega) (by omega)]
    have e : ((b : Int) + ((x : Int) - b) % s).toNat = b + (x - b) % s := by
      have : ((x : Int) - b) % s = (((x - b) % s : Nat) : Int) := by
        rw [show (x : Int) - b = ((x - b : Nat) : Int) by omega]
        rfl
      omega
    rw [e]
    have := h.mul ((x - b) / s) (b + (x - b) % s) (by omega)
    rw [← this]
    congr 1
    have := Nat.div_add_mod (x - b) s
    rw [Nat.mul_comm] at this
    omega
noncomputable def fn (b s : Int) (o a : List Int) (n : Nat) : Bool := mem b s o a n
theorem fn_per {b s : Int} {o a : List Int} (S : Ok b s o a) : Per (fn b s o a) b.toNat s.toNat := fun x hx => by
  have hb := S.hb
  have hs := S.hs
  unfold fn
  rw [mem_ge _ (by omega), mem_ge _ (by omega)]
  congr 2
  have : ((x + s.toNat : Nat) : Int) - b = (x : Int) - b + s * 1 := by omega
  rw [this, Int.add_mul_emod_self_left]
theorem marks_mem {b s : Int} {o a : List Int} (S : Ok b s o a) {y : Int} (hy : 0 ≤ y) : (o.contains y || a.any fun x => decide (x ≤ y) && (y - x) % s == 0) = mem b s o a y := by
  have hs := S.hs
  by_cases h : y < b
  · rw [mem_lt _ h]
    have : (a.any fun x => decide (x ≤ y) && (y - x) % s == 0) = false := by
      rw [List.any_eq_false]
      intro x hx
      have := S.ha.2 x hx
      simp
      omega
    rw [this, Bool.or_false]
  · rw [mem_ge _ (by omega)]
    have : o.contains y = false := by
      rw [Bool.eq_false_iff]
      intro hc
      rw [List.contains_iff_mem] at hc
      have := S.ho.2 y hc
      omega
    rw [this, Bool.false_or, Bool.eq_iff_iff, List.any_eq_true, List.contains_iff_mem]
    have r0 : 0 ≤ (y - b) % s := Int.emod_nonneg _ (by omega)
    have r1 : (y - b) % s < s := Int.emod_lt_of_pos _ (by omega)
    have hm := Int.mul_ediv_add_emod (y - b) s
    have q0 : 0 ≤ (y - b) / s := Int.ediv_nonneg (by omega) (by omega)
    have q1 : 0 ≤ s * ((y - b) / s) := Int.mul_nonneg (by omega) q0
    constructor
    · rintro ⟨x, hx, hc⟩
      simp only [Bool.and_eq_true, decide_eq_true_eq, beq_iff_eq] at hc
      have hb := S.ha.2 x hx
      have e : (y - b) % s = x - b := by
        have e1 : y - b = (x - b) + s * ((y - x) / s) := by
          have := Int.mul_ediv_add_emod (y - x) s
          rw [hc.2] at this
          omega
        rw [e1, Int.add_mul_emod_self_left, Int.emod_eq_of_lt (by omega) (by omega)]
      rw [e, show b + (x - b) = x by omega]
      exact hx
    · intro hx
      refine ⟨_, hx, ?_⟩
      simp only [Bool.and_eq_true, decide_eq_true_eq, beq_iff_eq]
      refine ⟨by omega, ?_⟩
      rw [show y - (b + (y - b) % s) = s * ((y - b) / s) by omega]
      exact Int.mul_emod_right _ _
end St
set_option linter.all false
namespace St
end St
set_option linter.all false
namespace St
end St
set_option Elab.async false
set_option linter.all false
set_option maxRecDepth 100000
namespace My
open PySem
theorem ar0 {α : Type} {P : List α → Prop} (h : P []) : ∀ us : List α, us.length = 0 → P us := fun us e => by
  cases us with
  | nil => exact h
  | cons a l => cases e
theorem arS {α : Type} {n : Nat} {P : List α → Prop} (h : ∀ a (us : List α), us.length = n → P (a :: us)) : ∀ us : List α, us.length = n + 1 → P us := fun us e => by
  cases us with
  | nil => cases e
  | cons a l => exact h a l (Nat.succ.inj e)
theorem ar1 {α : Type} {P : List α → Prop} (h : ∀ a, P [a]) : ∀ us : List α, us.length = 1 → P us := arS fun a => ar0 (P := fun l => P (a :: l)) (h a)
theorem ar2 {α : Type} {P : List α → Prop} (h : ∀ a b, P [a, b]) : ∀ us : List α, us.length = 2 → P us := arS fun a => ar1 (P := fun l => P (a :: l)) (h a)
theorem ar3 {α : Type} {P : List α → Prop} (h : ∀ a b c, P [a, b, c]) : ∀ us : List α, us.length = 3 → P us := arS fun a => ar2 (P := fun l => P (a :: l)) (h a)
theorem ar4 {α : Type} {P : List α → Prop} (h : ∀ a b c d, P [a, b, c, d]) : ∀ us : List α, us.length = 4 → P us := arS fun a => ar3 (P := fun l => P (a :: l)) (h a)
theorem ar5 {α : Type} {P : List α → Prop} (h : ∀ a b c d e, P [a, b, c, d, e]) : ∀ us : List α, us.length = 5 → P us := arS fun a => ar4 (P := fun l => P (a :: l)) (h a)
theorem ar6 {α : Type} {P : List α → Prop} (h : ∀ a b c d e f, P [a, b, c, d, e, f]) : ∀ us : List α, us.length = 6 → P us := arS fun a => ar5 (P := fun l => P (a :: l)) (h a)
theorem ar7 {α : Type} {P : List α → Prop} (h : ∀ a b c d e f g, P [a, b, c, d, e, f, g]) : ∀ us : List α, us.length = 7 → P us := arS fun a => ar6 (P := fun l => P (a :: l)) (h a)
theorem ar8 {α : Type} {P : List α → Prop} (h : ∀ a b c d e f g h, P [a, b, c, d, e, f, g, h]) : ∀ us : List α, us.length = 8 → P us := arS fun a => ar7 (P := fun l => P (a :: l)) (h a)
theorem ar9 {α : Type} {P : List α → Prop} (h : ∀ a b c d e f g h i, P [a, b, c, d, e, f, g, h, i]) : ∀ us : List α, us.length = 9 → P us := arS fun a => ar8 (P := fun l => P (a :: l)) (h a)
end My
namespace My
open PySem L2 St
set_option maxHeartbeats 4000000
noncomputable def top (i : Nat) : Stmt := PySem.Challenge.pw_stairrooms_k08_moved.main.body.getD i (.Pass ⟨0, 0, 0, 0⟩)
local macro_rules | `(tactic| walk_at "cond") => `(tactic| first | decide | omega | (dsimp only; omega) | (unfold CMul; omega) | (unfold CPow; exact ⟨by decide, by decide, by decide⟩) | (dsimp only; exact ⟨by omega, by omega⟩) | exact .inr ⟨by decide, by decide⟩ | exact .inl ⟨by decide, by decide⟩ | (unfold SmallR; omega))
local macro_rules | `(tactic| walk_at "sq") => `(tactic| first | assumption | exact SqL.of (by assumption) | exact SqT.of (by assumption) | exact SqL.of (by solve_by_elim) | exact SqT.of (by solve_by_elim) | solve_by_elim)
local macro_rules | `(tactic| walk_at "rd") => `(tactic| repeat (first | with_reducible refine rd_seq ?_ | with_reducible refine rd_ret ?_ | with_reducible refine rd_retN ?_ | with_reducible refine rd_asg ?_ | with_reducible refine rd_drop ?_ | with_reducible refine rd_ifS ?_ | with_reducible refine rd_next ?_ | with_reducible refine rd_name ?_ | ((with_reducible apply rd_var); (exact rfl)) | with_reducible refine rd_c ?_ | with_reducible refine rd_op ?_ | with_reducible refine rd_un ?_ | with_reducible refine rd_CB ?_ | with_reducible refine rd_cons ?_ | with_reducible refine rd_nil ?_ | with_reducible refine rd_ints ?_ | with_reducible refine rd_test ?_ | with_reducible refine rd_B ?_ | with_reducible refine rd_exb ?_ | with_reducible refine rd_not ?_ | with_reducible refine rd_and ?_ | with_reducible refine rd_or ?_ | with_reducible refine rd_andV ?_ | with_reducible refine rd_orV ?_ | with_reducible refine rd_notV ?_ | with_reducible refine rd_ifE ?_ | with_reducible refine rd_yes ?_ | with_reducible refine rd_I0 ?_ | ((with_reducible apply rd_I); (walk_at "cond")) | with_reducible refine rd_U ?_ | with_reducible refine rd_EqI ?_ | with_reducible refine rd_NeI ?_ | with_reducible refine rd_EqB ?_ | with_reducible refine rd_NeB ?_ | with_reducible refine rd_call ?_ | with_reducible refine rd_BM ?_ | with_reducible refine rd_tup ?_ | with_reducible refine rd_lst ?_ | with_reducible refine rd_sl ?_ | with_reducible refine rd_noPart ?_ | with_reducible refine rd_part ?_ | with_reducible refine rd_exi ?_ | with_reducible refine rd_chain ?_ | with_reducible refine rd_comp ?_ | with_reducible refine rd_iL ?_ | with_reducible refine rd_iT ?_ | with_reducible refine rd_i1 ?_ | with_reducible refine rd_i2 ?_ | with_reducible refine rd_i3 ?_ | with_reducible refine rd_for ?_ | with_reducible refine rd_tTru ?_ | with_reducible refine rd_intB ?_ | with_reducible refine rd_max2 ?_ | with_reducible refine rd_min2 ?_ | with_reducible refine rd_sub ?_ | with_reducible refine rd_gcons ?_ | with_reducible refine rd_gnil ?_ | ((with_reducible apply rd_aug); (exact rfl)) | with_reducible refine rd_ipI ?_ | with_reducible refine rd_zip ?_ | with_reducible refine rd_rev ?_ | with_reducible refine rd_par ?_ | with_reducible refine rd_par2 ?_ | with_reducible refine rd_lam ?_ | with_reducible refine rd_calV ?_ | with_reducible refine rd_raise ?_ | with_reducible refine rd_fs ?_ | with_reducible refine rd_try ?_ | with_reducible refine rd_bseq ?_ | with_reducible refine rd_bnext ?_ | with_reducible refine rd_bplain ?_ | with_reducible refine rd_bif ?_ | with_reducible refine rd_bcall ?_ | dsimp only))
structure Blt (mg : Str → Option Value) : Prop where
  len_ : mg "len" = none
  isinstance_ : mg "isinstance" = none
  tuple_ : mg "tuple" = none
  list_ : mg "list" = none
  int_ : mg "int" = none
  bool_ : mg "bool" = none
  range_ : mg "range" = none
  zip_ : mg "zip" = none
  max_ : mg "max" = none
  min_ : mg "min" = none
  abs_ : mg "abs" = none
  all_ : mg "all" = none
  ValueError_ : mg "ValueError" = none
noncomputable abbrev allC : List Str := ["Endless", "NoDeed", "NoHouse", "NoLine", "NoPlace", "NoStair", "NoText", "NoWalk", "NoWay", "NotBare", "StairError", "TooGreat"]
noncomputable abbrev raisedC : List Str := ["TooGreat"]
noncomputable def Kn (H : Hp) : Nat → V → Prop
  | 0, v => ∃ n, kindV H v n
  | d + 1, v => (∃ n, kindV H v n) ∧ ∀ p xs, v = .ref p → H p = some (.tup xs) → ∀ x ∈ xs, Kn H d x
noncomputable def isInt : V → Bool
  | .int _ => true
  | _ => false
theorem kind_cases {H : Hp} {v : V} {n : String} (h : kindV H v n) : (∃ p xs, v = .ref p ∧ H p = some (.tup xs) ∧ n = "tuple") ∨ (isiB n "tuple" = some false ∧ ∀ p xs, v = .ref p → H p ≠ some (.tup xs)) := by
  cases v with
  | non => cases (show n = "NoneType" from h); exact .inr ⟨rfl, fun p xs e => nomatch e⟩
  | bl b => cases (show n = "bool" from h); exact .inr ⟨rfl, fun p xs e => nomatch e⟩
  | int i => cases (show n = "int" from h); exact .inr ⟨rfl, fun p xs e => nomatch e⟩
  | str z => cases (show n = "str" from h); exact .inr ⟨rfl, fun p xs e => nomatch e⟩
  | ref a =>
    rcases h with ⟨rfl, xs, e⟩ | ⟨rfl, xs, e⟩
    · exact .inr ⟨rfl, fun p ys q z => by cases q; rw [e] at z; cases z⟩
    · exact .inl ⟨a, xs, rfl, e, rfl⟩
  | _ => exact False.elim h
theorem kind_whole {H : Hp} {v : V} {n : String} (h : kindV H v n) : ∃ b c, isiB n "int" = some b ∧ isiB n "bool" = some c ∧ (b && !c) = isInt v := by
  cases v with
  | non => cases (show n = "NoneType" from h); exact ⟨_, _, rfl, rfl, rfl⟩
  | bl b => cases (show n = "bool" from h); exact ⟨_, _, rfl, rfl, rfl⟩
  | int i => cases (show n = "int" from h); exact ⟨_, _, rfl, rfl, rfl⟩
  | str z => cases (show n = "str" from h); exact ⟨_, _, rfl, rfl, rfl⟩
  | ref a => rcases h with ⟨rfl, xs, e⟩ | ⟨rfl, xs, e⟩ <;> exact ⟨_, _, rfl, rfl, rfl⟩
  | _ => exact False.elim h
noncomputable def sp_is_whole (K : PySem.W.Frag) : Sp := fun vs H Q _ => ∃ v n, vs = [v] ∧ kindV H v n ∧ Q (.bl (isInt v)) H
noncomputable abbrev s_is_whole : Stmt := top 17
theorem sc_is_whole : FnScope ["thing"] ["thing"] (defScope s_is_whole) := ⟨rfl, rfl, rfl, by decide +kernel, rfl, by decide +kernel, by decide +kernel⟩
theorem ok_is_whole {P : Program} {w : World} {K : PySem.W.Frag} {mg : Str → Option Value} {base : Heap} (D : Dfn K mg "is_whole" s_is_whole ["thing"]) (T : Blt mg) : Cal P w K mg base "is_whole" 1 ["thing"] (sp_is_whole K) := by
  have nd := (sc_is_whole).nd
  refine D.ok sc_is_whole (fun vs H Q E h => ?_) (fun X hX H vs Q E h => ?_)
  · obtain ⟨v, n, rfl, _⟩ := h; rfl
  · obtain ⟨f, cdv, A, outer, s, H0, E0, rfl, hr⟩ := hX
    obtain ⟨v, n, rfl, hk, q⟩ := h
    obtain ⟨b, c, hb, hc, e⟩ := kind_whole hk
    refine ⟨_, (no_implicit_lambda% (pss_one (no_implicit_lambda% (ps_ret (no_implicit_lambda% (pe_and (no_implicit_lambda% (pe_callB call_isi rfl T.isinstance_ PyProof.Rows.boot_isinstance (no_implicit_lambda% (pa_cons (no_implicit_lambda% (pv 0)) (no_implicit_lambda% (pa_cons (no_implicit_lambda% (pe_bltn (v := .ty "int") rfl T.int_ PyProof.Rows.boot_int rfl)) pa_nil)))))) (pe_one (no_implicit_lambda% (pe_not (no_implicit_lambda% (pe_callB call_isi rfl T.isinstance_ PyProof.Rows.boot_isinstance (no_implicit_lambda% (pa_cons (no_implicit_lambda% (pv 0)) (no_implicit_lambda% (pa_cons (no_implicit_lambda% (pe_bltn (v := .ty "bool") rfl T.bool_ PyProof.Rows.boot_bool rfl)) pa_nil))))))))))))))), ?_⟩
    walk_at "rd"
    refine rd_isi hk hb ?_
    walk_at "rd"
    cases b with
    | false => refine iteF ?_; rw [← e] at q; exact q
    | true =>
      refine iteT ?_
      walk_at "rd"
      refine rd_isi hk hc ?_
      walk_at "rd"
      rw [← e] at q; exact q
noncomputable def risingV (lo hi : Int) : List V → Bool
  | [] => true
  | .int i :: r => decide (lo ≤ i) && decide (i < hi) && risingV (i + 1) hi r
  | _ :: _ => false
noncomputable def rowV (H : Hp) (lo hi : Int) : V → Bool
  | .ref p => match H p with
    | some (.tup xs) => risingV lo hi xs
    | _ => false
  | _ => false
theorem rowV_tup {H : Hp} {lo hi : Int} {p : Addr} {xs : List V} (h : H p = some (.tup xs)) : rowV H lo hi (.ref p) = risingV lo hi xs := by simp only [rowV, h]
theorem rowV_no {H : Hp} {lo hi : Int} {v : V} (h : ∀ p xs, v = .ref p → H p ≠ some (.tup xs)) : rowV H lo hi v = false := by
  cases v with
  | ref p =>
    cases e : H p with
    | none => simp only [rowV, e]
    | some o =>
      cases o with
      | tup xs => exact absurd e (h p xs rfl)
      | _ => simp only [rowV, e]
  | _ => rfl
theorem rising_no {lo hi : Int} {x : V} {r : List V} (h : isInt x = false) : risingV lo hi (x :: r) = false := by
  cases x <;> first | rfl | cases h
theorem isInt_of {x : V} (h : isInt x = true) : ∃ i, x = .int i := by
  cases x <;> first | exact ⟨_, rfl⟩ | cases h
noncomputable def sp_is_rising_row (K : PySem.W.Frag) : Sp := fun vs H Q _ => ∃ v lo hi, vs = [v, .int lo, .int hi] ∧ Kn H 1 v ∧ Q (.bl (rowV H lo hi v)) H
noncomputable abbrev s_is_rising_row : Stmt := top 18
theorem sc_is_rising_row : FnScope ["thing", "low", "end", "lowest", "number"] ["thing", "low", "end"] (defScope s_is_rising_row) := ⟨rfl, rfl, rfl, by decide +kernel, rfl, by decide +kernel, by decide +kernel⟩
theorem ok_is_rising_row {P : Program} {w : World} {K : PySem.W.Frag} {mg : Str → Option Value} {base : Heap} (D : Dfn K mg "is_rising_row" s_is_rising_row ["thing", "low", "end"]) (T : Blt mg) (C_is_whole : Cal P w K mg base "is_whole" 1 ["thing"] (sp_is_whole K)) : Cal P w K mg base "is_rising_row" 2 ["thing", "low", "end"] (sp_is_rising_row K) := by
  have nd := (sc_is_rising_row).nd
  refine D.ok sc_is_rising_row (fun vs H Q E h => ?_) (fun X hX H vs Q E h => ?_)
  · obtain ⟨v, lo, hi, rfl, _⟩ := h; rfl
  · obtain ⟨f, cdv, A, outer, s, H0, E0, rfl, hr⟩ := hX
    obtain ⟨v, lo, hi, rfl, hk, q⟩ := h
    obtain ⟨n, hn⟩ := hk.1
    refine ⟨_, (no_implicit_lambda% (pss_cons (no_implicit_lambda% (ps_if (no_implicit_lambda% (pt_not (no_implicit_lambda% (pt_val (no_implicit_lambda% (pe_callB call_isi rfl T.isinstance_ PyProof.Rows.boot_isinstance (no_implicit_lambda% (pa_cons (no_implicit_lambda% (pv 0)) (no_implicit_lambda% (pa_cons (no_implicit_lambda% (pe_bltn (v := .ty "tuple") rfl T.tuple_ PyProof.Rows.boot_tuple rfl)) pa_nil)))))))))) (no_implicit_lambda% (pss_one (no_implicit_lambda% (ps_ret pe_bl)))) pss_nil))
        (no_implicit_lambda% (pss_cons (no_implicit_lambda% (ps_set (i := 3) nd rfl (Or.inl rfl) (no_implicit_lambda% (pv 1))))
        (no_implicit_lambda% (pss_cons (no_implicit_lambda% (ps_for PassesOwn.never rfl (no_implicit_lambda% (pi_tupK K (no_implicit_lambda% (pv 0)))) (no_implicit_lambda% (pg_name (i := 4) nd rfl (Or.inl rfl))) (no_implicit_lambda% (pss_cons (no_implicit_lambda% (ps_if (no_implicit_lambda% (PW.pt (pw_or (no_implicit_lambda% (pt_not (no_implicit_lambda% (pt_val (no_implicit_lambda% (pe_cal C_is_whole hr (no_implicit_lambda% (pa_cons (no_implicit_lambda% (pv 4)) pa_nil)))))))) (pw_or (no_implicit_lambda% (pt_cmpR op_lt (no_implicit_lambda% (pv 4)) (no_implicit_lambda% (pv 3)) (nomark _))) (pw_or1 (no_implicit_lambda% (pt_cmpR op_ge (no_implicit_lambda% (pv 4)) (no_implicit_lambda% (pv 2)) (nomark _)))))))) (no_implicit_lambda% (pss_one (no_implicit_lambda% (ps_ret pe_bl)))) pss_nil))
        (no_implicit_lambda% (pss_one (no_implicit_lambda% (ps_set (i := 3) nd rfl (Or.inl rfl) (no_implicit_lambda% (pe_op op_add (no_implicit_lambda% (pv 4)) pe_int))))))))))
        (no_implicit_lambda% (pss_one (no_implicit_lambda% (ps_ret pe_bl)))))))))), ?_⟩
    walk_at "rd"
    rcases kind_cases hn with ⟨p, xs, rfl, hp, rfl⟩ | ⟨hf, hno⟩
    · refine rd_isi hn (b := true) rfl ?_
      walk_at "rd"
      refine iteF ?_
      walk_at "rd"
      refine rd_iTx (SqT.of hp) ?_
      rw [rowV_tup hp] at q
      refine forT (xs := xs) (fun i σ H' => H' = H ∧ ∃ lw w, σ = [some (.ref p), some (.int lo), some (.int hi), some (.int lw), w] ∧ risingV lo hi xs = risingV lw hi (xs.drop i))
        ⟨rfl, lo, none, rfl, rfl⟩ (fun i σ H' _ h => by rw [h.1]; exact SqT.of hp) ?_ ?_
      · rintro i x σ H' hx ⟨rfl, lw, w, rfl, e⟩
        have hd : xs.drop i = x :: xs.drop (i + 1) := by
          obtain ⟨hi', rfl⟩ := List.getElem?_eq_some_iff.mp hx
          exact List.drop_eq_getElem_cons hi'
        rw [hd] at e
        obtain ⟨m, hm⟩ := hk.2 p xs rfl hp x (List.mem_of_getElem? hx)
        walk_at "rd"
        refine ⟨x, m, rfl, hm, ?_⟩
        walk_at "rd"
        cases hx' : isInt x with
        | false =>
          refine iteT (iteT ?_)
          walk_at "rd"
          rw [e, rising_no hx'] at q
          exact q
        | true =>
          obtain ⟨z, rfl⟩ := isInt_of hx'
          refine iteF ?_
          walk_at "rd"
          have e' : risingV lo hi xs = (decide (lw ≤ z) && decide (z < hi) && risingV (z + 1) hi (xs.drop (i + 1))) := e
          by_cases h1 : z < lw
          · rw [decide_eq_true h1]
            refine iteT (iteT ?_)
            walk_at "rd"
            rw [e', decide_eq_false (show ¬ lw ≤ z by omega)] at q
            exact q
          · rw [decide_eq_false h1]
            refine iteF ?_
            walk_at "rd"
            by_cases h2 : hi ≤ z
            · rw [decide_eq_true h2]
              refine iteT ?_
              walk_at "rd"
              rw [e', decide_eq_false (show ¬ z < hi by omega), Bool.and_false, Bool.false_and] at q
              exact q
            · rw [decide_eq_false h2]
              refine iteF ?_
              walk_at "rd"
              refine ⟨rfl, z + 1, _, rfl, ?_⟩
              rw [e', decide_eq_true (show lw ≤ z by omega), decide_eq_true (show z < hi by omega)]
              rfl
      · rintro σ H' ⟨rfl, lw, w, rfl, e⟩
        walk_at "rd"
        rw [e, List.drop_length] at q
        exact q
    · refine rd_isi hn hf ?_
      walk_at "rd"
      refine iteT ?_
      walk_at "rd"
      rw [rowV_no hno] at q
      exact q
noncomputable def placesV (H : Hp) : V → V → V → V → Bool
  | .int b, .int s, o, a => decide (0 ≤ b) && decide (1 ≤ s) && rowV H 0 b o && rowV H b (b + s) a
  | _, _, _, _ => false
theorem places_no1 {H : Hp} {b s o a : V} (h : isInt b = false) : placesV H b s o a = false := by
  cases b <;> first | rfl | cases h
theorem places_no2 {H : Hp} {b s o a : V} (h : isInt s = false) : placesV H b s o a = false := by
  cases s <;> first | (cases b <;> rfl) | cases h
noncomputable def sp_are_stair_places (K : PySem.W.Frag) : Sp := fun vs H Q _ => ∃ b s o a, vs = [b, s, o, a] ∧ Kn H 0 b ∧ Kn H 0 s ∧ Kn H 1 o ∧ Kn H 1 a ∧ Q (.bl (placesV H b s o a)) H
noncomputable abbrev s_are_stair_places : Stmt := top 19
theorem sc_are_stair_places : FnScope ["base", "step", "once", "again"] ["base", "step", "once", "again"] (defScope s_are_stair_places) := ⟨rfl, rfl, rfl, by decide +kernel, rfl, by decide +kernel, by decide +kernel⟩
theorem ok_are_stair_places {P : Program} {w : World} {K : PySem.W.Frag} {mg : Str → Option Value} {base : Heap} (D : Dfn K mg "are_stair_places" s_are_stair_places ["base", "step", "once", "again"]) (T : Blt mg) (C_is_rising_row : Cal P w K mg base "is_rising_row" 2 ["thing", "low", "end"] (sp_is_rising_row K)) (C_is_whole : Cal P w K mg base "is_whole" 1 ["thing"] (sp_is_whole K)) : Cal P w K mg base "are_stair_places" 3 ["base", "step", "once", "again"] (sp_are_stair_places K) := by
  have nd := (sc_are_stair_places).nd
  refine D.ok sc_are_stair_places (fun vs H Q E h => ?_) (fun X hX H vs Q E h => ?_)
  · obtain ⟨b, s, o, a, rfl, _⟩ := h; rfl
  · obtain ⟨f, cdv, A, outer, s, H0, E0, rfl, hr⟩ := hX
    obtain ⟨b, s', o, a, rfl, ⟨nb, hb⟩, ⟨ns, hs⟩, ho, ha, q⟩ := h
    refine ⟨_, (no_implicit_lambda% (pss_cons (no_implicit_lambda% (ps_if (no_implicit_lambda% (PW.pt (pw_or (no_implicit_lambda% (pt_not (no_implicit_lambda% (pt_val (no_implicit_lambda% (pe_cal C_is_whole hr (no_implicit_lambda% (pa_cons (no_implicit_lambda% (pv 0)) pa_nil)))))))) (pw_or (no_implicit_lambda% (pt_not (no_implicit_lambda% (pt_val (no_implicit_lambda% (pe_cal C_is_whole hr (no_implicit_lambda% (pa_cons (no_implicit_lambda% (pv 1)) pa_nil)))))))) (pw_or (no_implicit_lambda% (pt_cmpR op_lt (no_implicit_lambda% (pv 0)) pe_int (nomark _))) (pw_or1 (no_implicit_lambda% (pt_cmpR op_lt (no_implicit_lambda% (pv 1)) pe_int (nomark _))))))))) (no_implicit_lambda% (pss_one (no_implicit_lambda% (ps_ret pe_bl)))) pss_nil))
        (no_implicit_lambda% (pss_one (no_implicit_lambda% (ps_ret (no_implicit_lambda% (pe_and (no_implicit_lambda% (pe_cal C_is_rising_row hr (no_implicit_lambda% (pa_cons (no_implicit_lambda% (pv 2)) (no_implicit_lambda% (pa_cons pe_int (no_implicit_lambda% (pa_cons (no_implicit_lambda% (pv 0)) pa_nil)))))))) (pe_one (no_implicit_lambda% (pe_cal C_is_rising_row hr (no_implicit_lambda% (pa_cons (no_implicit_lambda% (pv 3)) (no_implicit_lambda% (pa_cons (no_implicit_lambda% (pv 0)) (no_implicit_lambda% (pa_cons (no_implicit_lambda% (pe_op op_add (no_implicit_lambda% (pv 0)) (no_implicit_lambda% (pv 1)))) pa_nil))))))))))))))))), ?_⟩
    walk_at "rd"
    refine ⟨b, nb, rfl, hb, ?_⟩
    walk_at "rd"
    cases ib : isInt b with
    | false =>
      refine iteT (iteT ?_)
      walk_at "rd"
      rw [places_no1 ib] at q
      exact q
    | true =>
      refine iteF ?_
      walk_at "rd"
      refine ⟨s', ns, rfl, hs, ?_⟩
      walk_at "rd"
      cases is' : isInt s' with
      | false =>
        refine iteT (iteT ?_)
        walk_at "rd"
        rw [places_no2 is'] at q
        exact q
      | true =>
        obtain ⟨zb, rfl⟩ := isInt_of ib
        obtain ⟨zs, rfl⟩ := isInt_of is'
        refine iteF ?_
        walk_at "rd"
        have e : placesV H (.int zb) (.int zs) o a = (decide (0 ≤ zb) && decide (1 ≤ zs) && rowV H 0 zb o && rowV H zb (zb + zs) a) := rfl
        by_cases h1 : zb < 0
        · rw [decide_eq_true h1]
          refine iteT (iteT ?_)
          walk_at "rd"
          rw [e, decide_eq_false (show ¬ 0 ≤ zb by omega)] at q
          exact q
        · rw [decide_eq_false h1]
          refine iteF ?_
          walk_at "rd"
          by_cases h2 : zs < 1
          · rw [decide_eq_true h2]
            refine iteT ?_
            walk_at "rd"
            rw [e, decide_eq_false (show ¬ 1 ≤ zs by omega), Bool.and_false, Bool.false_and, Bool.false_and] at q
            exact q
          · rw [decide_eq_false h2]
            refine iteF ?_
            walk_at "rd"
            refine ⟨o, 0, zb, rfl, ho, ?_⟩
            walk_at "rd"
            rw [e, decide_eq_true (show 0 ≤ zb by omega), decide_eq_true (show 1 ≤ zs by omega)] at q
            cases ho' : rowV H 0 zb o with
            | false =>
              refine iteF ?_
              rw [ho'] at q
              exact q
            | true =>
              refine iteT ?_
              walk_at "rd"
              refine ⟨a, zb, zb + zs, rfl, ha, ?_⟩
              rw [ho'] at q
              exact q
noncomputable def stairV (H : Hp) : V → Bool
  | .ref p => match H p with
    | some (.tup [b, s, o, a]) => placesV H b s o a
    | _ => false
  | _ => false
theorem stairV_tup {H : Hp} {p : Addr} {b s o a : V} (h : H p = some (.tup [b, s, o, a])) : stairV H (.ref p) = placesV H b s o a := by simp only [stairV, h]
theorem stairV_len {H : Hp} {p : Addr} {xs : List V} (h : H p = some (.tup xs)) (hl : xs.length ≠ 4) : stairV H (.ref p) = false := by
  simp only [stairV, h]
  match xs, hl with
  | [], _ => rfl
  | [_], _ => rfl
  | [_, _], _ => rfl
  | [_, _, _], _ => rfl
  | [_, _, _, _], hl => exact absurd rfl hl
  | _ :: _ :: _ :: _ :: _ :: _, _ => rfl
theorem stairV_no {H : Hp} {v : V} (h : ∀ p xs, v = .ref p → H p ≠ some (.tup xs)) : stairV H v = false := by
  cases v with
  | ref p =>
    cases e : H p with
    | none => simp only [stairV, e]
    | some o =>
      cases o with
      | tup xs => exact absurd e (h p xs rfl)
      | _ => simp only [stairV, e]
  | _ => rfl
noncomputable def sp_is_stair (K : PySem.W.Frag) : Sp := fun vs H Q _ => ∃ v, vs = [v] ∧ Kn H 2 v ∧ Q (.bl (stairV H v)) H
theorem len4 {xs : List V} (h : xs.length = 4) : ∃ b s o a, xs = [b, s, o, a] := ar4 (P := fun xs => ∃ b s o a, xs = [b, s, o, a]) (fun b s o a => ⟨b, s, o, a, rfl⟩) xs h
theorem Kn.down {H : Hp} {v : V} (h : Kn H 1 v) : Kn H 0 v := h.1
noncomputable abbrev s_is_stair : Stmt := top 20
theorem sc_is_stair : FnScope ["thing"] ["thing"] (defScope s_is_stair) := ⟨rfl, rfl, rfl, by decide +kernel, rfl, by decide +kernel, by decide +kernel⟩
theorem ok_is_stair {P : Program} {w : World} {K : PySem.W.Frag} {mg : Str → Option Value} {base : Heap} (D : Dfn K mg "is_stair" s_is_stair ["thing"]) (T : Blt mg) (C_are_stair_places : Cal P w K mg base "are_stair_places" 3 ["base", "step", "once", "again"] (sp_are_stair_places K)) : Cal P w K mg base "is_stair" 4 ["thing"] (sp_is_stair K) := by
  have nd := (sc_is_stair).nd
  refine D.ok sc_is_stair (fun vs H Q E h => ?_) (fun X hX H vs Q E h => ?_)
  · obtain ⟨v, rfl, _⟩ := h; rfl
  · obtain ⟨f, cdv, A, outer, s, H0, E0, rfl, hr⟩ := hX
    obtain ⟨v, rfl, hk, q⟩ := h
    obtain ⟨n, hn⟩ := hk.1
    refine ⟨_, (no_implicit_lambda% (pss_cons (no_implicit_lambda% (ps_if (no_implicit_lambda% (PW.pt (pw_or (no_implicit_lambda% (pt_not (no_implicit_lambda% (pt_val (no_implicit_lambda% (pe_callB call_isi rfl T.isinstance_ PyProof.Rows.boot_isinstance (no_implicit_lambda% (pa_cons (no_implicit_lambda% (pv 0)) (no_implicit_lambda% (pa_cons (no_implicit_lambda% (pe_bltn (v := .ty "tuple") rfl T.tuple_ PyProof.Rows.boot_tuple rfl)) pa_nil)))))))))) (pw_or1 (no_implicit_lambda% (pt_cmpR op_ne (no_implicit_lambda% (pe_callB (call_lenK K) rfl T.len_ PySem.boot_len (no_implicit_lambda% (pa_cons (no_implicit_lambda% (pv 0)) pa_nil)))) pe_int (nomark _))))))) (no_implicit_lambda% (pss_one (no_implicit_lambda% (ps_ret pe_bl)))) pss_nil))
        (no_implicit_lambda% (pss_one (no_implicit_lambda% (ps_ret (no_implicit_lambda% (pe_cal C_are_stair_places hr (no_implicit_lambda% (pa_cons (no_implicit_lambda% (pe_ix (ix_tupK K) (no_implicit_lambda% (pv 0)) pe_int (fun _ _ => rfl))) (no_implicit_lambda% (pa_cons (no_implicit_lambda% (pe_ix (ix_tupK K) (no_implicit_lambda% (pv 0)) pe_int (fun _ _ => rfl))) (no_implicit_lambda% (pa_cons (no_implicit_lambda% (pe_ix (ix_tupK K) (no_implicit_lambda% (pv 0)) pe_int (fun _ _ => rfl))) (no_implicit_lambda% (pa_cons (no_implicit_lambda% (pe_ix (ix_tupK K) (no_implicit_lambda% (pv 0)) pe_int (fun _ _ => rfl))) pa_nil)))))))))))))))), ?_⟩
    walk_at "rd"
    rcases kind_cases hn with ⟨p, xs, rfl, hp, rfl⟩ | ⟨hf, hno⟩
    · refine rd_isi hn (b := true) rfl ?_
      walk_at "rd"
      refine iteF ?_
      walk_at "rd"
      refine rd_lenT (SqT.of hp) ?_
      walk_at "rd"
      by_cases hl : xs.length = 4
      · obtain ⟨b, s', o, a, rfl⟩ := len4 hl
        refine iteF ?_
        walk_at "rd"
        refine rd_ixT (SqT.of hp) rfl ?_
        walk_at "rd"
        refine rd_ixT (SqT.of hp) rfl ?_
        walk_at "rd"
        refine rd_ixT (SqT.of hp) rfl ?_
        walk_at "rd"
        refine rd_ixT (SqT.of hp) rfl ?_
        walk_at "rd"
        have hi := hk.2 p _ rfl hp
        rw [stairV_tup hp] at q
        exact ⟨b, s', o, a, rfl, (hi b (by simp)).down, (hi s' (by simp)).down, hi o (by simp), hi a (by simp), q⟩
      · rw [decide_eq_false (show ¬ ((xs.length : Nat) : Int) = 4 by omega)]
        refine iteT ?_
        walk_at "rd"
        rw [stairV_len hp hl] at q
        exact q
    · refine rd_isi hn hf ?_
      walk_at "rd"
      refine iteT (iteT ?_)
      walk_at "rd"
      rw [stairV_no hno] at q
      exact q
noncomputable def StAt (H : Hp) (v : V) (b s : Int) (o a : List Int) : Prop := ∃ p q r, v = .ref p ∧ H p = some (.tup [.int b, .int s, .ref q, .ref r]) ∧ H q = some (.tup (o.map V.int)) ∧ H r = some (.tup (a.map V.int))
structure Gd (b s : Int) (o a : List Int) : Prop where
  ok : Ok b s o a
  b3 : b ≤ 3000
  s8 : s ≤ 840
theorem StAt.ext {H H' : Hp} {v : V} {b s : Int} {o a : List Int} (e : Ext H H') (h : StAt H v b s o a) : StAt H' v b s o a := by
  obtain ⟨p, q, r, rfl, h1, h2, h3⟩ := h
  exact ⟨p, q, r, rfl, e _ _ h1, e _ _ h2, e _ _ h3⟩
theorem rising_cons {lo hi x : Int} {r : List Int} : Rising lo hi (x :: r) ↔ lo ≤ x ∧ x < hi ∧ Rising (x + 1) hi r := by
  constructor
  · rintro ⟨h1, h2⟩
    obtain ⟨p1, p2⟩ := List.pairwise_cons.mp h1
    have hx := h2 x List.mem_cons_self
    exact ⟨hx.1, hx.2, p2, fun z hz => ⟨by have := p1 z hz; omega, (h2 z (List.mem_cons_of_mem _ hz)).2⟩⟩
  · rintro ⟨h1, h2, h3, h4⟩
    refine ⟨List.pairwise_cons.mpr ⟨fun z hz => by have := h4 z hz; omega, h3⟩, fun z hz => ?_⟩
    rcases List.mem_cons.mp hz with rfl | hz
    · exact ⟨h1, h2⟩
    · have := h4 z hz
      exact ⟨by omega, this.2⟩
theorem rising_map {hi : Int} : ∀ {lo : Int} {xs : List Int}, risingV lo hi (xs.map V.int) = true ↔ Rising lo hi xs
  | lo, [] => ⟨fun _ => ⟨List.Pairwise.nil, fun x hx => by simp at hx⟩, fun _ => rfl⟩
  | lo, x :: r => by
    rw [rising_cons, ← rising_map (lo := x + 1) (xs := r)]
    show (decide (lo ≤ x) && decide (x < hi) && risingV (x + 1) hi (r.map V.int)) = true ↔ _
    simp [and_assoc]
theorem StAt.yes {H : Hp} {v : V} {b s : Int} {o a : List Int} (h : StAt H v b s o a) (k : Ok b s o a) : stairV H v = true := by
  obtain ⟨p, q, r, rfl, h1, h2, h3⟩ := h
  rw [stairV_tup h1]
  show (decide (0 ≤ b) && decide (1 ≤ s) && rowV H 0 b (.ref q) && rowV H b (b + s) (.ref r)) = true
  rw [rowV_tup h2, rowV_tup h3, rising_map.mpr k.ho, rising_map.mpr k.ha, decide_eq_true k.hb, decide_eq_true k.hs]
  rfl
theorem kn_ints {H : Hp} {q : Addr} {xs : List Int} (h : H q = some (.tup (xs.map V.int))) : Kn H 1 (.ref q) := by
  refine ⟨⟨"tuple", .inr ⟨rfl, _, h⟩⟩, fun p ys e z x hx => ?_⟩
  cases e
  rw [h] at z
  cases z
  obtain ⟨i, _, rfl⟩ := List.mem_map.mp hx
  exact ⟨"int", rfl⟩
theorem StAt.kn {H : Hp} {v : V} {b s : Int} {o a : List Int} (h : StAt H v b s o a) : Kn H 2 v := by
  obtain ⟨p, q, r, rfl, h1, h2, h3⟩ := h
  refine ⟨⟨"tuple", .inr ⟨rfl, _, h1⟩⟩, fun p' ys e z x hx => ?_⟩
  cases e
  rw [h1] at z
  cases z
  simp only [List.mem_cons, List.not_mem_nil, or_false] at hx
  rcases hx with rfl | rfl | rfl | rfl
  · exact ⟨⟨"int", rfl⟩, fun _ _ e => nomatch e⟩
  · exact ⟨⟨"int", rfl⟩, fun _ _ e => nomatch e⟩
  · exact kn_ints h2
  · exact kn_ints h3
noncomputable def sp_refuse_no_stair (K : PySem.W.Frag) : Sp := fun vs H Q _ => ∃ v, vs = [v] ∧ Kn H 2 v ∧ stairV H v = true ∧ Q .non H
noncomputable abbrev s_refuse_no_stair : Stmt := top 21
theorem sc_refuse_no_stair : FnScope ["thing"] ["thing"] (defScope s_refuse_no_stair) := ⟨rfl, rfl, rfl, by decide +kernel, rfl, by decide +kernel, by decide +kernel⟩
theorem ok_refuse_no_stair {P : Program} {w : World} {K : PySem.W.Frag} {mg : Str → Option Value} {base : Heap} (D : Dfn K mg "refuse_no_stair" s_refuse_no_stair ["thing"]) (T : Blt mg) (C_is_stair : Cal P w K mg base "is_stair" 4 ["thing"] (sp_is_stair K)) : Cal P w K mg base "refuse_no_stair" 5 ["thing"] (sp_refuse_no_stair K) := by
  have nd := (sc_refuse_no_stair).nd
  refine D.ok sc_refuse_no_stair (fun vs H Q E h => ?_) (fun X hX H vs Q E h => ?_)
  · obtain ⟨v, rfl, _⟩ := h; rfl
  · obtain ⟨f, cdv, A, outer, s, H0, E0, rfl, hr⟩ := hX
    obtain ⟨v, rfl, hk, hv, q⟩ := h
    refine ⟨_, (no_implicit_lambda% (pss_one (no_implicit_lambda% (ps_if (no_implicit_lambda% (pt_not (no_implicit_lambda% (pt_val (no_implicit_lambda% (pe_cal C_is_stair hr (no_implicit_lambda% (pa_cons (no_implicit_lambda% (pv 0)) pa_nil)))))))) (no_implicit_lambda% (pss_one ps_never)) pss_nil)))), ?_⟩
    walk_at "rd"
    refine ⟨v, rfl, hk, ?_⟩
    walk_at "rd"
    rw [hv]
    exact iteF q
noncomputable def sp_refuse_great_stair (K : PySem.W.Frag) : Sp := fun vs H Q _ => ∃ v b s o a, vs = [v] ∧ StAt H v b s o a ∧ b ≤ 3000 ∧ s ≤ 840 ∧ Q .non H
noncomputable abbrev s_refuse_great_stair : Stmt := top 22
theorem sc_refuse_great_stair : FnScope ["stair"] ["stair"] (defScope s_refuse_great_stair) := ⟨rfl, rfl, rfl, by decide +kernel, rfl, by decide +kernel, by decide +kernel⟩
theorem ok_refuse_great_stair {P : Program} {w : World} {K : PySem.W.Frag} {mg : Str → Option Value} {base : Heap} (D : Dfn K mg "refuse_great_stair" s_refuse_great_stair ["stair"]) (T : Blt mg) (g_GREATEST_STEP : ∃ t, mg "GREATEST_STEP" = some (.int 840 t)) (g_GREATEST_BASE : ∃ t, mg "GREATEST_BASE" = some (.int 3000 t)) : Cal P w K mg base "refuse_great_stair" 1 ["stair"] (sp_refuse_great_stair K) := by
  have nd := (sc_refuse_great_stair).nd
  refine D.ok sc_refuse_great_stair (fun vs H Q E h => ?_) (fun X hX H vs Q E h => ?_)
  · obtain ⟨v, b, s, o, a, rfl, _⟩ := h; rfl
  · obtain ⟨f, cdv, A, outer, s, H0, E0, rfl, hr⟩ := hX
    obtain ⟨t_GREATEST_STEP, c_GREATEST_STEP⟩ := g_GREATEST_STEP
    obtain ⟨t_GREATEST_BASE, c_GREATEST_BASE⟩ := g_GREATEST_BASE
    obtain ⟨v, b, s', o, a, rfl, ⟨p, q', r, rfl, h1, h2, h3⟩, hb, hs, q⟩ := h
    refine ⟨_, (no_implicit_lambda% (pss_cons (no_implicit_lambda% (ps_if (no_implicit_lambda% (pt_cmpR op_gt (no_implicit_lambda% (pe_ix (ix_tupK K) (no_implicit_lambda% (pv 0)) pe_int (fun _ _ => rfl))) (no_implicit_lambda% (pe_glob (v := .int 3000) rfl c_GREATEST_BASE ⟨_, rfl⟩)) (nomark _))) (no_implicit_lambda% (pss_one ps_never)) pss_nil))
        (no_implicit_lambda% (pss_one (no_implicit_lambda% (ps_if (no_implicit_lambda% (pt_cmpR op_gt (no_implicit_lambda% (pe_ix (ix_tupK K) (no_implicit_lambda% (pv 0)) pe_int (fun _ _ => rfl))) (no_implicit_lambda% (pe_glob (v := .int 840) rfl c_GREATEST_STEP ⟨_, rfl⟩)) (nomark _))) (no_implicit_lambda% (pss_one ps_never)) pss_nil)))))), ?_⟩
    walk_at "rd"
    refine rd_ixT (SqT.of h1) rfl ?_
    walk_at "rd"
    rw [decide_eq_false (show ¬ 3000 < b by omega)]
    refine iteF ?_
    walk_at "rd"
    refine rd_ixT (SqT.of h1) rfl ?_
    walk_at "rd"
    rw [decide_eq_false (show ¬ 840 < s' by omega)]
    exact iteF q
noncomputable def sp_refuse_bad_stair (K : PySem.W.Frag) : Sp := fun vs H Q _ => ∃ v b s o a, vs = [v] ∧ StAt H v b s o a ∧ Gd b s o a ∧ Q .non H
noncomputable abbrev s_refuse_bad_stair : Stmt := top 23
theorem sc_refuse_bad_stair : FnScope ["thing"] ["thing"] (defScope s_refuse_bad_stair) := ⟨rfl, rfl, rfl, by decide +kernel, rfl, by decide +kernel, by decide +kernel⟩
theorem ok_refuse_bad_stair {P : Program} {w : World} {K : PySem.W.Frag} {mg : Str → Option Value} {base : Heap} (D : Dfn K mg "refuse_bad_stair" s_refuse_bad_stair ["thing"]) (T : Blt mg) (C_refuse_great_stair : Cal P w K mg base "refuse_great_stair" 1 ["stair"] (sp_refuse_great_stair K)) (C_refuse_no_stair : Cal P w K mg base "refuse_no_stair" 5 ["thing"] (sp_refuse_no_stair K)) : Cal P w K mg base "refuse_bad_stair" 6 ["thing"] (sp_refuse_bad_stair K) := by
  have nd := (sc_refuse_bad_stair).nd
  refine D.ok sc_refuse_bad_stair (fun vs H Q E h => ?_) (fun X hX H vs Q E h => ?_)
  · obtain ⟨v, b, s, o, a, rfl, _⟩ := h; rfl
  · obtain ⟨f, cdv, A, outer, s, H0, E0, rfl, hr⟩ := hX
    obtain ⟨v, b, s', o, a, rfl, hv, hg, q⟩ := h
    refine ⟨_, (no_implicit_lambda% (pss_cons (no_implicit_lambda% (ps_expr (no_implicit_lambda% (pe_cal C_refuse_no_stair hr (no_implicit_lambda% (pa_cons (no_implicit_lambda% (pv 0)) pa_nil))))))
        (no_implicit_lambda% (pss_one (no_implicit_lambda% (ps_expr (no_implicit_lambda% (pe_cal C_refuse_great_stair hr (no_implicit_lambda% (pa_cons (no_implicit_lambda% (pv 0)) pa_nil)))))))))), ?_⟩
    walk_at "rd"
    refine ⟨v, rfl, hv.kn, hv.yes hg.ok, ?_⟩
    walk_at "rd"
    exact ⟨v, b, s', o, a, rfl, hv, hg.b3, hg.s8, q⟩
theorem map_get {xs : List Int} {i : Nat} {v : V} (h : (xs.map V.int)[i]? = some v) : ∃ x, v = .int x ∧ xs[i]? = some x := by
  rw [List.getElem?_map] at h
  cases e : xs[i]? with
  | none => rw [e] at h; cases h
  | some x => rw [e] at h; exact ⟨x, (Option.some.inj h).symm, rfl⟩
theorem small_line {n : Nat} (h : n ≤ 1000000) : n ≤ sizeLine := Nat.le_trans h (by decide)
theorem rising_len {lo hi : Int} : ∀ {xs : List Int}, Rising lo hi xs → (xs.length : Int) ≤ max 0 (hi - lo)
  | [], _ => by simp; omega
  | x :: r, h => by
    obtain ⟨h1, h2, h3⟩ := rising_cons.mp h
    have := rising_len h3
    rw [List.length_cons]
    omega
noncomputable def sp__law_cell (K : PySem.W.Frag) : Sp := fun vs H Q _ => ∃ (a : Addr) (ns : List Int) (k : Int), vs = [.ref a, .int k] ∧ SqL K H a (ns.map V.int) ∧ ns.length ≤ 63 ∧ 0 ≤ k ∧ ∀ z, Q (.int z) H
theorem atI_ints {ns : List Int} {i : Int} (h0 : 0 ≤ i) (h : i < ns.length) : ∃ z, atI (ns.map V.int) i = some (.int z) ∧ ns[i.toNat]? = some z := by
  have hi : i.toNat < ns.length := by omega
  refine ⟨ns[i.toNat], atI_of h0 ?_, List.getElem?_eq_getElem hi⟩
  rw [List.getElem?_map, List.getElem?_eq_getElem hi]
  rfl
noncomputable abbrev s__law_cell : Stmt := top 30
theorem sc__law_cell : FnScope ["_law_script", "_law_k"] ["_law_script", "_law_k"] (defScope s__law_cell) := ⟨rfl, rfl, rfl, by decide +kernel, rfl, by decide +kernel, by decide +kernel⟩
theorem ok__law_cell {P : Program} {w : World} {K : PySem.W.Frag} {mg : Str → Option Value} {base : Heap} (D : Dfn K mg "_law_cell" s__law_cell ["_law_script", "_law_k"]) (T : Blt mg) : Cal P w K mg base "_law_cell" 1 ["_law_script", "_law_k"] (sp__law_cell K) := by
  have nd := (sc__law_cell).nd
  refine D.ok sc__law_cell (fun vs H Q E h => ?_) (fun X hX H vs Q E h => ?_)
  · obtain ⟨a, ns, k, rfl, _⟩ := h; rfl
  · obtain ⟨f, cdv, A, outer, s, H0, E0, rfl, hr⟩ := hX
    obtain ⟨a, ns, k, rfl, ha, hl, hk, q⟩ := h
    refine ⟨_, (no_implicit_lambda% (pss_cons (no_implicit_lambda% (ps_if (no_implicit_lambda% (pt_cmpR op_eq (no_implicit_lambda% (pe_callB (call_lenK K) rfl T.len_ PySem.boot_len (no_implicit_lambda% (pa_cons (no_implicit_lambda% (pv 0)) pa_nil)))) pe_int (nomark _))) (no_implicit_lambda% (pss_one (no_implicit_lambda% (ps_ret (no_implicit_lambda% (pe_op op_mul pe_int (no_implicit_lambda% (pe_op op_add (no_implicit_lambda% (pv 1)) pe_int)))))))) pss_nil))
        (no_implicit_lambda% (pss_cons (no_implicit_lambda% (ps_if (no_implicit_lambda% (pt_cmpR op_lt (no_implicit_lambda% (pv 1)) (no_implicit_lambda% (pe_callB (call_lenK K) rfl T.len_ PySem.boot_len (no_implicit_lambda% (pa_cons (no_implicit_lambda% (pv 0)) pa_nil)))) (nomark _))) (no_implicit_lambda% (pss_one (no_implicit_lambda% (ps_ret (no_implicit_lambda% (pe_ix (ix_listK K) (no_implicit_lambda% (pv 0)) (no_implicit_lambda% (pv 1)) (fun _ _ => rfl))))))) pss_nil))
        (no_implicit_lambda% (pss_one (no_implicit_lambda% (ps_ret (no_implicit_lambda% (pe_op op_add (no_implicit_lambda% (pe_ix (ix_listK K) (no_implicit_lambda% (pv 0)) (no_implicit_lambda% (pe_op op_mod (no_implicit_lambda% (pv 1)) (no_implicit_lambda% (pe_callB (call_lenK K) rfl T.len_ PySem.boot_len (no_implicit_lambda% (pa_cons (no_implicit_lambda% (pv 0)) pa_nil)))))) (fun _ _ => rfl))) (no_implicit_lambda% (pe_op op_mul pe_int (no_implicit_lambda% (pv 1)))))))))))))), ?_⟩
    walk_at "rd"
    refine rd_lenL ha ?_
    walk_at "rd"
    rw [List.length_map]
    by_cases h0 : (ns.length : Int) = 0
    · rw [decide_eq_true h0]
      refine iteT ?_
      walk_at "rd"
      exact q _
    · rw [decide_eq_false h0]
      refine iteF ?_
      walk_at "rd"
      refine rd_lenL ha ?_
      walk_at "rd"
      rw [List.length_map]
      by_cases h1 : k < ns.length
      · rw [decide_eq_true h1]
        refine iteT ?_
        obtain ⟨z, hz, _⟩ := atI_ints hk h1
        walk_at "rd"
        refine rd_ixL ha hz ?_
        exact q _
      · rw [decide_eq_false h1]
        refine iteF ?_
        walk_at "rd"
        refine rd_lenL ha ?_
        rw [List.length_map]
        have hp : (0 : Int) < ns.length := by omega
        refine rd_I hp ?_
        obtain ⟨z, hz, _⟩ := atI_ints (ns := ns) (Int.emod_nonneg k (by omega)) (Int.emod_lt_of_pos k hp)
        refine rd_ixL ha hz ?_
        walk_at "rd"
        exact q _
noncomputable def sp__law_mixed (K : PySem.W.Frag) : Sp := fun vs H Q _ => ∃ c k p, vs = [.int c, .int k, .int p] ∧ 0 ≤ k ∧ k < 100000 ∧ 0 < p ∧ ∀ z, 0 ≤ z → z < p → Q (.int z) H
noncomputable abbrev s__law_mixed : Stmt := top 31
theorem sc__law_mixed : FnScope ["_law_cell_here", "_law_k", "_law_prime", "_law_far"] ["_law_cell_here", "_law_k", "_law_prime"] (defScope s__law_mixed) := ⟨rfl, rfl, rfl, by decide +kernel, rfl, by decide +kernel, by decide +kernel⟩
theorem ok__law_mixed {P : Program} {w : World} {K : PySem.W.Frag} {mg : Str → Option Value} {base : Heap} (D : Dfn K mg "_law_mixed" s__law_mixed ["_law_cell_here", "_law_k", "_law_prime"]) (T : Blt mg) : Cal P w K mg base "_law_mixed" 1 ["_law_cell_here", "_law_k", "_law_prime"] (sp__law_mixed K) := by
  have nd := (sc__law_mixed).nd
  refine D.ok sc__law_mixed (fun vs H Q E h => ?_) (fun X hX H vs Q E h => ?_)
  · obtain ⟨c, k, p, rfl, _⟩ := h; rfl
  · obtain ⟨f, cdv, A, outer, s, H0, E0, rfl, hr⟩ := hX
    obtain ⟨c, k, p, rfl, hk, hk2, hp, q⟩ := h
    refine ⟨_, (no_implicit_lambda% (pss_cons (no_implicit_lambda% (ps_set (i := 3) nd rfl (Or.inl rfl) (no_implicit_lambda% (pe_op op_mod (no_implicit_lambda% (pe_op op_mul (no_implicit_lambda% (pe_op op_add (no_implicit_lambda% (pe_op op_add (no_implicit_lambda% (pe_op op_add (no_implicit_lambda% (pv 0)) (no_implicit_lambda% (pe_op op_mul (no_implicit_lambda% (pe_op op_mul pe_int (no_implicit_lambda% (pv 1)))) (no_implicit_lambda% (pv 1)))))) (no_implicit_lambda% (pe_op op_mul pe_int (no_implicit_lambda% (pv 1)))))) pe_int)) pe_int)) pe_int))))
        (no_implicit_lambda% (pss_cons (no_implicit_lambda% (ps_set (i := 3) nd rfl (Or.inl rfl) (no_implicit_lambda% (pe_op op_mod (no_implicit_lambda% (pe_op op_mul (no_implicit_lambda% (pv 3)) (no_implicit_lambda% (pv 3)))) pe_int))))
        (no_implicit_lambda% (pss_one (no_implicit_lambda% (ps_ret (no_implicit_lambda% (pe_op op_mod (no_implicit_lambda% (pe_op op_mul (no_implicit_lambda% (pv 3)) pe_int)) (no_implicit_lambda% (pv 2)))))))))))), ?_⟩
    walk_at "rd"
    exact q _ (Int.emod_nonneg _ (by omega)) (Int.emod_lt_of_pos _ hp)
theorem ext_write {H H2 : Hp} {q : Addr} {o : HO} (e : Ext H H2) (hq : H q = none) : Ext H (upd H2 q o) := fun b u hb => by
  rw [upd_ne (ne_of_none hb hq)]
  exact e b u hb
noncomputable def sp__law_draws (K : PySem.W.Frag) : Sp := fun vs H Q _ => ∃ (c : Int) (w : Addr) (ws : List Int) (p : Int), vs = [.int c, .ref w, .int p] ∧ H w = some (.lst (ws.map V.int)) ∧ (∀ x ∈ ws, 0 < x ∧ x < 2 ^ 40) ∧ ws.length ≤ 10000 ∧ 0 < p ∧
  ∀ (q : Addr) (ds : List Int) (H' : Hp), Ext H H' → H' q = some (.lst (ds.map V.int)) → H q = none → ds.length = ws.length → (∀ (i : Nat) d x, ds[i]? = some d → ws[i]? = some x → 0 ≤ d ∧ d < x) → Q (.ref q) H'
noncomputable abbrev s__law_draws : Stmt := top 32
theorem sc__law_draws : FnScope ["_law_cell_here", "_law_widths", "_law_prime", "_law_left", "_law_found", "_law_k"] ["_law_cell_here", "_law_widths", "_law_prime"] (defScope s__law_draws) := ⟨rfl, rfl, rfl, by decide +kernel, rfl, by decide +kernel, by decide +kernel⟩
theorem ok__law_draws {P : Program} {w : World} {K : PySem.W.Frag} {mg : Str → Option Value} {base : Heap} (D : Dfn K mg "_law_draws" s__law_draws ["_law_cell_here", "_law_widths", "_law_prime"]) (T : Blt mg) (C__law_mixed : Cal P w K mg base "_law_mixed" 1 ["_law_cell_here", "_law_k", "_law_prime"] (sp__law_mixed K)) : Cal P w K mg base "_law_draws" 2 ["_law_cell_here", "_law_widths", "_law_prime"] (sp__law_draws K) := by
  have nd := (sc__law_draws).nd
  refine D.ok sc__law_draws (fun vs H Q E h => ?_) (fun X hX H vs Q E h => ?_)
  · obtain ⟨c, w, ws, p, rfl, _⟩ := h; rfl
  · obtain ⟨f, cdv, A, outer, s, H0, E0, rfl, hr⟩ := hX
    obtain ⟨c, w, ws, p, rfl, hw, hpos, hlen, hp, q⟩ := h
    refine ⟨_, (no_implicit_lambda% (pss_cons (no_implicit_lambda% (ps_set (i := 3) nd rfl (Or.inl rfl) pe_int))
        (no_implicit_lambda% (pss_cons (no_implicit_lambda% (ps_ifJ (no_implicit_lambda% (pt_cmpR op_ge (no_implicit_lambda% (pv 0)) (no_implicit_lambda% (pe_op op_pow pe_int pe_int)) (nomark _))) (no_implicit_lambda% (pss_one (no_implicit_lambda% (ps_set (i := 3) nd rfl (Or.inl rfl) (no_implicit_lambda% (pe_op op_sub (no_implicit_lambda% (pv 0)) (no_implicit_lambda% (pe_op op_pow pe_int pe_int)))))))) pss_nil))
        (no_implicit_lambda% (pss_cons (no_implicit_lambda% (ps_set (i := 4) nd rfl (Or.inl rfl) (no_implicit_lambda% (pe_lst pa_nil))))
        (no_implicit_lambda% (pss_cons (no_implicit_lambda% (ps_for PassesOwn.never rfl (no_implicit_lambda% (pi_range1 rfl T.range_ (no_implicit_lambda% (pa_cons (no_implicit_lambda% (pe_callB (call_lenK K) rfl T.len_ PySem.boot_len (no_implicit_lambda% (pa_cons (no_implicit_lambda% (pv 1)) pa_nil)))) pa_nil)))) (no_implicit_lambda% (pg_name (i := 5) nd rfl (Or.inl rfl))) (no_implicit_lambda% (pss_one (no_implicit_lambda% (ps_ifJ (no_implicit_lambda% (pt_cmpR op_gt (no_implicit_lambda% (pv 3)) pe_int (nomark _))) (no_implicit_lambda% (pss_cons (no_implicit_lambda% (ps_expr (no_implicit_lambda% (pe_bmK K PySem.F.plainAttrs_list PySem.F.slot_list_append PySem.F.type_list_append mt_append (no_implicit_lambda% (pv 4)) (no_implicit_lambda% (pa_cons (no_implicit_lambda% (pe_op op_mod (no_implicit_lambda% (pv 3)) (no_implicit_lambda% (pe_ix (ix_listK K) (no_implicit_lambda% (pv 1)) (no_implicit_lambda% (pv 5)) (fun _ _ => rfl))))) pa_nil))))))
        (no_implicit_lambda% (pss_one (no_implicit_lambda% (ps_set (i := 3) nd rfl (Or.inl rfl) (no_implicit_lambda% (pe_op op_fdivL (no_implicit_lambda% (pv 3)) (no_implicit_lambda% (pe_ix (ix_listK K) (no_implicit_lambda% (pv 1)) (no_implicit_lambda% (pv 5)) (fun _ _ => rfl))))))))))) (no_implicit_lambda% (pss_one (no_implicit_lambda% (ps_expr (no_implicit_lambda% (pe_bmK K PySem.F.plainAttrs_list PySem.F.slot_list_append PySem.F.type_list_append mt_append (no_implicit_lambda% (pv 4)) (no_implicit_lambda% (pa_cons (no_implicit_lambda% (pe_op op_mod (no_implicit_lambda% (pe_cal C__law_mixed hr (no_implicit_lambda% (pa_cons (no_implicit_lambda% (pv 0)) (no_implicit_lambda% (pa_cons (no_implicit_lambda% (pv 5)) (no_implicit_lambda% (pa_cons (no_implicit_lambda% (pv 2)) pa_nil)))))))) (no_implicit_lambda% (pe_ix (ix_listK K) (no_implicit_lambda% (pv 1)) (no_implicit_lambda% (pv 5)) (fun _ _ => rfl))))) pa_nil))))))))))))))
        (no_implicit_lambda% (pss_one (no_implicit_lambda% (ps_ret (no_implicit_lambda% (pv 4)))))))))))))), ?_⟩
    walk_at "rd"
    refine rd_ifJ (fun σ' H' => H' = H ∧ ∃ l, σ' = [some (.int c), some (.ref w), some (.int p), some (.int l), none, none]) ?_ ?_
    · walk_at "rd"
      refine ite2 (fun h => ?_) (fun h => ?_)
      · walk_at "rd"
        exact ⟨rfl, _, rfl⟩
      · walk_at "rd"
        exact ⟨rfl, _, rfl⟩
    rintro σ' H' ⟨rfl, l, rfl⟩
    walk_at "rd"
    refine ⟨small_line (by simp), rd_new fun f H1 e1 hf hfn => ?_⟩
    walk_at "rd"
    refine rd_lenL (SqL.of (e1 _ _ hw)) ?_
    rw [List.length_map]
    walk_at "rd"
    refine rd_i1x (by omega) ?_
    refine forR (fun i σ H2 => Ext H' H2 ∧ ∃ (l : Int) (k : Option V) (ds : List Int), σ = [some (.int c), some (.ref w), some (.int p), some (.int l), some (.ref f), k] ∧ H2 f = some (.lst (ds.map V.int)) ∧ ds.length = i ∧ ∀ (i : Nat) d x, ds[i]? = some d → ws[i]? = some x → 0 ≤ d ∧ d < x)
      ⟨e1, l, none, [], rfl, hf, rfl, fun i d x hd => by simp at hd⟩ ?_ ?_
    · rintro i σ H2 hi ⟨e2, l, k, ds, rfl, hf2, hds, hb⟩
      rw [Int.toNat_natCast] at hi
      have hwi : ws[i]? = some ws[i] := List.getElem?_eq_getElem hi
      have hx := hpos ws[i] (List.getElem_mem hi)
      have hat : atI (ws.map V.int) (0 + (i : Int)) = some (.int ws[i]) := by
        rw [Int.zero_add]
        exact atI_nat (by rw [List.getElem?_map, hwi]; rfl)
      have next : ∀ d, 0 ≤ d → d < ws[i] → ∀ (j : Nat) (d' x : Int), (ds ++ [d])[j]? = some d' → ws[j]? = some x → 0 ≤ d' ∧ d' < x := fun d h0 h1 j d' x hj hx' => by
        rcases Nat.lt_or_ge j ds.length with h | h
        · rw [List.getElem?_append_left h] at hj
          exact hb j d' x hj hx'
        · rw [List.getElem?_append_right h] at hj
          have hj0 : j - ds.length = 0 := by
            rcases Nat.eq_zero_or_pos (j - ds.length) with h | h
            · exact h
            · rw [List.getElem?_eq_none (by simp; omega)] at hj; cases hj
          rw [hj0] at hj
          have hji : j = i := by omega
          subst hji
          rw [hwi] at hx'
          cases hx'
          have : d = d' := by simpa using hj
          rw [← this]
          exact ⟨h0, h1⟩
      walk_at "rd"
      refine rd_ifN ?_
      walk_at "rd"
      refine ite2 (fun h => ?_) (fun h => ?_)
      · have h' : 1 < l := by simpa using h
        walk_at "rd"
        refine ⟨rd_tyL (SqL.of hf2), ?_⟩
        walk_at "rd"
        refine rd_ixL (SqL.of (e2 _ _ hw)) hat ?_
        refine rd_I (show 0 < ws[i] by omega) ?_
        walk_at "rd"
        refine rd_append hf2 (by rw [List.length_map]; exact Nat.lt_of_le_of_lt (show ds.length ≤ 10000 by omega) (by decide)) ?_
        walk_at "rd"
        refine rd_ixL (SqL.of (ext_write e2 hfn _ _ hw)) hat ?_
        refine rd_I (show 0 < ws[i] ∧ ws[i] < 2 ^ 64 by omega) ?_
        walk_at "rd"
        refine ⟨ext_write e2 hfn, _, _, ds ++ [l % ws[i]], rfl, ?_, by rw [List.length_append, hds]; rfl, next _ (Int.emod_nonneg _ (by omega)) (Int.emod_lt_of_pos _ (by omega))⟩
        rw [upd_same, List.map_append]
        rfl
      · walk_at "rd"
        refine ⟨rd_tyL (SqL.of hf2), ?_⟩
        walk_at "rd"
        refine ⟨c, 0 + (i : Int), p, rfl, by omega, by omega, hp, fun z hz0 hz1 => ?_⟩
        walk_at "rd"
        refine rd_ixL (SqL.of (e2 _ _ hw)) hat ?_
        refine rd_I (show 0 < ws[i] by omega) ?_
        walk_at "rd"
        refine rd_append hf2 (by rw [List.length_map]; exact Nat.lt_of_le_of_lt (show ds.length ≤ 10000 by omega) (by decide)) ?_
        walk_at "rd"
        refine ⟨ext_write e2 hfn, _, _, ds ++ [z % ws[i]], rfl, ?_, by rw [List.length_append, hds]; rfl, next _ (Int.emod_nonneg _ (by omega)) (Int.emod_lt_of_pos _ (by omega))⟩
        rw [upd_same, List.map_append]
        rfl
    · rintro σ H2 ⟨e2, l, k, ds, rfl, hf2, hds, hb⟩
      walk_at "rd"
      exact q f ds H2 e2 hf2 hfn (by rw [hds, Int.toNat_natCast]) hb
noncomputable def sp__law_spare (K : PySem.W.Frag) : Sp := fun vs H Q _ => ∃ c w, vs = [.int c, .int w] ∧ 0 < w ∧ w < 2 ^ 64 ∧ ∀ z, Q (.int z) H
noncomputable abbrev s__law_spare : Stmt := top 33
theorem sc__law_spare : FnScope ["_law_cell_here", "_law_width"] ["_law_cell_here", "_law_width"] (defScope s__law_spare) := ⟨rfl, rfl, rfl, by decide +kernel, rfl, by decide +kernel, by decide +kernel⟩
theorem ok__law_spare {P : Program} {w : World} {K : PySem.W.Frag} {mg : Str → Option Value} {base : Heap} (D : Dfn K mg "_law_spare" s__law_spare ["_law_cell_here", "_law_width"]) (T : Blt mg) : Cal P w K mg base "_law_spare" 1 ["_law_cell_here", "_law_width"] (sp__law_spare K) := by
  have nd := (sc__law_spare).nd
  refine D.ok sc__law_spare (fun vs H Q E h => ?_) (fun X hX H vs Q E h => ?_)
  · obtain ⟨c, w, rfl, _⟩ := h; rfl
  · obtain ⟨f, cdv, A, outer, s, H0, E0, rfl, hr⟩ := hX
    obtain ⟨c, w, rfl, h1, h2, q⟩ := h
    refine ⟨_, (no_implicit_lambda% (pss_cons (no_implicit_lambda% (ps_if (no_implicit_lambda% (pt_cmpR op_ge (no_implicit_lambda% (pv 0)) (no_implicit_lambda% (pe_op op_pow pe_int pe_int)) (nomark _))) (no_implicit_lambda% (pss_one (no_implicit_lambda% (ps_ret (no_implicit_lambda% (pe_op op_add (no_implicit_lambda% (pe_op op_fdivL (no_implicit_lambda% (pe_op op_sub (no_implicit_lambda% (pv 0)) (no_implicit_lambda% (pe_op op_pow pe_int pe_int)))) (no_implicit_lambda% (pv 1)))) (no_implicit_lambda% (pe_op op_pow pe_int pe_int)))))))) pss_nil))
        (no_implicit_lambda% (pss_one (no_implicit_lambda% (ps_ret (no_implicit_lambda% (pe_op op_add (no_implicit_lambda% (pv 0)) pe_int)))))))), ?_⟩
    walk_at "rd"
    refine ite2 (fun h => ?_) (fun h => ?_)
    · walk_at "rd"
      exact q _
    · walk_at "rd"
      exact q _
end My
set_option Elab.async false
set_option linter.all false
set_option maxRecDepth 100000
namespace My
open PySem L2 St
set_option maxHeartbeats 4000000
local macro_rules | `(tactic| walk_at "cond") => `(tactic| first | decide | omega | (dsimp only; omega) | (unfold CMul; omega) | (unfold CPow; exact ⟨by decide, by decide, by decide⟩) | (dsimp only; exact ⟨by omega, by omega⟩) | exact .inr ⟨by decide, by decide⟩ | exact .inl ⟨by decide, by decide⟩ | (unfold SmallR; omega))
local macro_rules | `(tactic| walk_at "sq") => `(tactic| first | assumption | exact SqL.of (by assumption) | exact SqT.of (by assumption) | exact SqL.of (by solve_by_elim) | exact SqT.of (by solve_by_elim) | solve_by_elim)
local macro_rules | `(tactic| walk_at "rd") => `(tactic| repeat (first | with_reducible refine rd_seq ?_ | with_reducible refine rd_ret ?_ | with_reducible refine rd_retN ?_ | with_reducible refine rd_asg ?_ | with_reducible refine rd_drop ?_ | with_reducible refine rd_ifS ?_ | with_reducible refine rd_next ?_ | with_reducible refine rd_name ?_ | ((with_reducible apply rd_var); (exact rfl)) | with_reducible refine rd_c ?_ | with_reducible refine rd_op ?_ | with_reducible refine rd_un ?_ | with_reducible refine rd_CB ?_ | with_reducible refine rd_cons ?_ | with_reducible refine rd_nil ?_ | with_reducible refine rd_ints ?_ | with_reducible refine rd_test ?_ | with_reducible refine rd_B ?_ | with_reducible refine rd_exb ?_ | with_reducible refine rd_not ?_ | with_reducible refine rd_and ?_ | with_reducible refine rd_or ?_ | with_reducible refine rd_andV ?_ | with_reducible refine rd_orV ?_ | with_reducible refine rd_notV ?_ | with_reducible refine rd_ifE ?_ | with_reducible refine rd_yes ?_ | with_reducible refine rd_I0 ?_ | ((with_reducible apply rd_I); (walk_at "cond")) | with_reducible refine rd_U ?_ | with_reducible refine rd_EqI ?_ | with_reducible refine rd_NeI ?_ | with_reducible refine rd_EqB ?_ | with_reducible refine rd_NeB ?_ | with_reducible refine rd_call ?_ | with_reducible refine rd_BM ?_ | with_reducible refine rd_tup ?_ | with_reducible refine rd_lst ?_ | with_reducible refine rd_sl ?_ | with_reducible refine rd_noPart ?_ | with_reducible refine rd_part ?_ | with_reducible refine rd_exi ?_ | with_reducible refine rd_chain ?_ | with_reducible refine rd_comp ?_ | with_reducible refine rd_iL ?_ | with_reducible refine rd_iT ?_ | with_reducible refine rd_i1 ?_ | with_reducible refine rd_i2 ?_ | with_reducible refine rd_i3 ?_ | with_reducible refine rd_for ?_ | with_reducible refine rd_tTru ?_ | with_reducible refine rd_intB ?_ | with_reducible refine rd_max2 ?_ | with_reducible refine rd_min2 ?_ | with_reducible refine rd_sub ?_ | with_reducible refine rd_gcons ?_ | with_reducible refine rd_gnil ?_ | ((with_reducible apply rd_aug); (exact rfl)) | with_reducible refine rd_ipI ?_ | with_reducible refine rd_zip ?_ | with_reducible refine rd_rev ?_ | with_reducible refine rd_par ?_ | with_reducible refine rd_par2 ?_ | with_reducible refine rd_lam ?_ | with_reducible refine rd_calV ?_ | with_reducible refine rd_raise ?_ | with_reducible refine rd_fs ?_ | with_reducible refine rd_try ?_ | with_reducible refine rd_bseq ?_ | with_reducible refine rd_bnext ?_ | with_reducible refine rd_bplain ?_ | with_reducible refine rd_bif ?_ | with_reducible refine rd_bcall ?_ | dsimp only))
noncomputable def mkB (n : Nat) (f : Nat → Bool) : List V := (List.range n).map fun i => V.bl (f i)
theorem mkB_len (n : Nat) (f : Nat → Bool) : (mkB n f).length = n := by simp [mkB]
theorem mkB_get {n i : Nat} (f : Nat → Bool) (h : i < n) : (mkB n f)[i]? = some (.bl (f i)) := by
  unfold mkB
  rw [List.getElem?_map, List.getElem?_range h]
  rfl
theorem mkB_congr {n : Nat} {f g : Nat → Bool} (h : ∀ i, i < n → f i = g i) : mkB n f = mkB n g := by
  unfold mkB
  apply List.map_congr_left
  intro i hi
  rw [h i (List.mem_range.mp hi)]
theorem mkB_succ (n : Nat) (f : Nat → Bool) : mkB (n + 1) f = mkB n f ++ [V.bl (f n)] := by
  unfold mkB
  rw [List.range_succ, List.map_append]
  rfl
theorem mkB_set {n k : Nat} (f : Nat → Bool) (c : Bool) (hk : k < n) : (mkB n f).set k (.bl c) = mkB n fun i => if i = k then c else f i := by
  apply List.ext_getElem?
  intro i
  rcases Nat.lt_or_ge i n with hi | hi
  · rw [List.getElem?_set, mkB_len, mkB_get _ hi, mkB_get _ hi]
    by_cases h : k = i
    · subst h
      simp [hi]
    · rw [if_neg h, if_neg (Ne.symm h)]
  · rw [List.getElem?_eq_none (by rw [List.length_set, mkB_len]; exact hi), List.getElem?_eq_none (by rw [mkB_len]; exact hi)]
theorem mkB_at {n : Nat} {f : Nat → Bool} {i : Int} (h0 : 0 ≤ i) (h : i < n) : atI (mkB n f) i = some (.bl (f i.toNat)) := atI_of h0 (mkB_get f (by omega))
theorem mkB_rep (n : Nat) (c : Bool) : (List.replicate n [V.bl c]).flatten = mkB n fun _ => c := by
  induction n with
  | zero => rfl
  | succ n ih =>
    rw [List.replicate_succ', List.flatten_append, ih, mkB_succ]
    rfl
theorem mkB_append (m n : Nat) (f g : Nat → Bool) : mkB m f ++ mkB n g = mkB (m + n) fun i => if i < m then f i else g (i - m) := by
  apply List.ext_getElem?
  intro i
  rcases Nat.lt_or_ge i m with hi | hi
  · rw [List.getElem?_append_left (by rw [mkB_len]; exact hi), mkB_get _ hi, mkB_get _ (by omega), if_pos hi]
  · rw [List.getElem?_append_right (by rw [mkB_len]; exact hi), mkB_len]
    rcases Nat.lt_or_ge i (m + n) with h2 | h2
    · rw [mkB_get _ (by omega), mkB_get _ h2, if_neg (by omega)]
    · rw [List.getElem?_eq_none (by rw [mkB_len]; omega), List.getElem?_eq_none (by rw [mkB_len]; omega)]
theorem mkB_cut {n : Nat} {f : Nat → Bool} {i : Int} (h0 : 0 ≤ i) (h : i ≤ n) : cutV (mkB n f) none (some i) = mkB i.toNat f := by
  unfold cutV
  rw [mkB_len, HT.sIx_none]
  have e : HT.sIx n n (some i) = i.toNat := by
    show (if i < 0 then (i + (n : Int)).toNat else min i.toNat n) = i.toNat
    rw [if_neg (by omega)]
    omega
  rw [e, List.drop_zero, Nat.sub_zero]
  apply List.ext_getElem?
  intro k
  rcases Nat.lt_or_ge k i.toNat with hk | hk
  · rw [List.getElem?_take_of_lt hk, mkB_get _ (by omega), mkB_get _ hk]
  · rw [List.getElem?_eq_none (by rw [List.length_take, mkB_len]; omega), List.getElem?_eq_none (by rw [mkB_len]; omega)]
noncomputable def sp__law_bits (K : PySem.W.Frag) : Sp := fun vs H Q _ => ∃ (c n p : Int), vs = [.int c, .int n, .int p] ∧ 0 ≤ n ∧ n ≤ 5000 ∧ 0 < p ∧ ∀ (q : Addr) (f : Nat → Bool) (H' : Hp), Ext H H' → H' q = some (.lst (mkB n.toNat f)) → H q = none → Q (.ref q) H'
theorem rep_int (n : Nat) (c : Int) : (List.replicate n [V.int c]).flatten = (List.replicate n c).map V.int := by
  induction n with
  | zero => rfl
  | succ n ih => rw [List.replicate_succ, List.flatten_cons, ih, List.replicate_succ]; rfl
noncomputable abbrev s__law_bits : Stmt := top 38
theorem sc__law_bits : FnScope ["_law_cell_here", "_law_many", "_law_prime", "_law_draws_here"] ["_law_cell_here", "_law_many", "_law_prime"] (defScope s__law_bits) := ⟨rfl, rfl, rfl, by decide +kernel, rfl, by decide +kernel, by decide +kernel⟩
theorem ok__law_bits {P : Program} {w : World} {K : PySem.W.Frag} {mg : Str → Option Value} {base : Heap} (D : Dfn K mg "_law_bits" s__law_bits ["_law_cell_here", "_law_many", "_law_prime"]) (T : Blt mg) (C__law_draws : Cal P w K mg base "_law_draws" 2 ["_law_cell_here", "_law_widths", "_law_prime"] (sp__law_draws K)) : Cal P w K mg base "_law_bits" 3 ["_law_cell_here", "_law_many", "_law_prime"] (sp__law_bits K) := by
  have nd := (sc__law_bits).nd
  refine D.ok sc__law_bits (fun vs H Q E h => ?_) (fun X hX H vs Q E h => ?_)
  · obtain ⟨c, n, p, rfl, _⟩ := h; rfl
  · obtain ⟨f, cdv, A, outer, s, H0, E0, rfl, hr⟩ := hX
    obtain ⟨c, n, p, rfl, h0, h1, hp, q⟩ := h
    refine ⟨_, (no_implicit_lambda% (pss_cons (no_implicit_lambda% (ps_if (no_implicit_lambda% (pt_cmpR op_lt (no_implicit_lambda% (pv 1)) pe_int (nomark _))) (no_implicit_lambda% (pss_one (no_implicit_lambda% (ps_ret (no_implicit_lambda% (pe_comp ["_law_bit"] [] (no_implicit_lambda% (pi_listK K (no_implicit_lambda% (pe_cal C__law_draws hr (no_implicit_lambda% (pa_cons (no_implicit_lambda% (pv 0)) (no_implicit_lambda% (pa_cons (no_implicit_lambda% (pe_op op_rep (no_implicit_lambda% (pe_lst (no_implicit_lambda% (pa_cons pe_int pa_nil)))) (no_implicit_lambda% (pv 1)))) (no_implicit_lambda% (pa_cons (no_implicit_lambda% (pv 2)) pa_nil)))))))))) (fun _ => (no_implicit_lambda% (pg_name (i := 0) (show (["_law_bit"] : List Str).Nodup from by decide +kernel) rfl (Or.inl rfl) (Or.inr rfl)))) (fun _ => pcs_nil) (fun _ => (no_implicit_lambda% (pe_cmpR op_eq (no_implicit_lambda% (pv 0)) pe_int (nomark _)))))))))) pss_nil))
        (no_implicit_lambda% (pss_cons (no_implicit_lambda% (ps_set (i := 3) nd rfl (Or.inr rfl) (no_implicit_lambda% (pe_cal C__law_draws hr (no_implicit_lambda% (pa_cons (no_implicit_lambda% (pv 0)) (no_implicit_lambda% (pa_cons (no_implicit_lambda% (pe_lst (no_implicit_lambda% (pa_cons pe_int (no_implicit_lambda% (pa_cons pe_int (no_implicit_lambda% (pa_cons pe_int pa_nil)))))))) (no_implicit_lambda% (pa_cons (no_implicit_lambda% (pv 2)) pa_nil))))))))))
        (no_implicit_lambda% (pss_one (no_implicit_lambda% (ps_ret (no_implicit_lambda% (pe_comp ["_law_x"] [3] (no_implicit_lambda% (pi_range1 rfl T.range_ (no_implicit_lambda% (pa_cons (no_implicit_lambda% (pv 1)) pa_nil)))) (fun _ => (no_implicit_lambda% (pg_name (i := 0) (show (["_law_x", "_law_draws_here"] : List Str).Nodup from by decide +kernel) rfl (Or.inl rfl) (Or.inr rfl)))) (fun _ => pcs_nil) (fun _ => (no_implicit_lambda% (pe_cmpR op_le (no_implicit_lambda% (pe_op op_mod (no_implicit_lambda% (pe_op op_add (no_implicit_lambda% (pe_op op_mul (no_implicit_lambda% (pv 0)) (no_implicit_lambda% (pe_op op_add pe_int (no_implicit_lambda% (pe_ix (ix_listK K) (no_implicit_lambda% (pv 1)) pe_int (fun _ _ => rfl))))))) (no_implicit_lambda% (pe_ix (ix_listK K) (no_implicit_lambda% (pv 1)) pe_int (fun _ _ => rfl))))) pe_int)) (no_implicit_lambda% (pe_ix (ix_listK K) (no_implicit_lambda% (pv 1)) pe_int (fun _ _ => rfl))) (nomark _)))))))))))))), ?_⟩
    walk_at "rd"
    refine ite2 (fun h => ?_) (fun h => ?_)
    · walk_at "rd"
      refine ⟨small_line (by simp), rd_new fun w H1 e1 hw1 hw => ?_⟩
      walk_at "rd"
      refine rd_rep hw1 (by omega) (small_line (by simp; omega)) (rd_new fun w2 H2 e2 hw2 hw2n => ?_)
      walk_at "rd"
      rw [rep_int] at hw2
      refine ⟨c, w2, _, p, rfl, hw2, fun x hx => ?_, by rw [List.length_replicate]; omega, hp, fun q' ds H3 e3 hq3 hn3 hl3 hb3 => ?_⟩
      · rw [List.eq_of_mem_replicate hx]; omega
      rw [List.length_replicate] at hl3
      refine rd_iLx (SqL.of hq3) ?_
      refine comp_list (xs := ds.map V.int) (fun i ys H' => H' = H3 ∧ ys = mkB i fun j => decide (ds.getD j 0 = 1)) (small_line (by rw [List.length_map]; omega)) ⟨rfl, rfl⟩ ?_ ?_ ?_
      · rintro i ys H' _ ⟨rfl, rfl⟩
        exact ⟨SqL.of hq3, by rw [mkB_len]; exact Nat.le_refl _⟩
      · rintro i v ys H' hi ⟨rfl, rfl⟩
        obtain ⟨x, rfl, hx⟩ := map_get hi
        walk_at "rd"
        refine iteT ?_
        walk_at "rd"
        refine ⟨rfl, ?_⟩
        rw [mkB_succ, List.getD_eq_getElem?_getD, hx]
        rfl
      · rintro ys H' p' ⟨rfl, rfl⟩ hn
        have e4 : Ext H H' := (e1.trans e2).trans e3
        refine q p' (fun j => decide (ds.getD j 0 = 1)) _ (e4.trans (ext_upd hn)) ?_ (e4.none hn)
        rw [upd_same, List.length_map, hl3]
    · walk_at "rd"
      refine ⟨small_line (by simp), rd_new fun w H1 e1 hw1 hw => ?_⟩
      walk_at "rd"
      refine ⟨c, w, [96, 97, 96], p, rfl, hw1, by decide, by decide, hp, fun q' ds H3 e3 hq3 hn3 hl3 hb3 => ?_⟩
      obtain ⟨d0, d1, d2, rfl⟩ : ∃ d0 d1 d2, ds = [d0, d1, d2] := ar3 (P := fun ds => ∃ d0 d1 d2, ds = [d0, d1, d2]) (fun a b c => ⟨a, b, c, rfl⟩) ds hl3
      have b0 := hb3 0 d0 96 rfl rfl
      have b1 := hb3 1 d1 97 rfl rfl
      have b2 := hb3 2 d2 96 rfl rfl
      walk_at "rd"
      refine rd_i1x (by omega) ?_
      refine comp_range (fun i ys H' => H' = H3 ∧ ys = mkB i fun j => decide (((j : Int) * (1 + d0) + d1) % 97 ≤ d2)) (small_line (by omega)) ⟨rfl, rfl⟩ ?_ ?_ ?_
      · rintro i ys H' _ ⟨rfl, rfl⟩
        rw [mkB_len]; exact Nat.le_refl _
      · rintro i ys H' hi ⟨rfl, rfl⟩
        walk_at "rd"
        refine iteT ?_
        walk_at "rd"
        refine rd_ixL (SqL.of hq3) (v := .int d0) rfl ?_
        walk_at "rd"
        refine rd_ixL (SqL.of hq3) (v := .int d1) rfl ?_
        walk_at "rd"
        refine rd_ixL (SqL.of hq3) (v := .int d2) rfl ?_
        walk_at "rd"
        refine ⟨rfl, ?_⟩
        rw [mkB_succ, Int.zero_add]
      · rintro ys H' p' ⟨rfl, rfl⟩ hn
        have e4 : Ext H H' := e1.trans e3
        exact q p' _ _ (e4.trans (ext_upd hn)) upd_same (e4.none hn)
noncomputable def sp__law_stair_of (K : PySem.W.Frag) : Sp := fun vs H Q _ => ∃ (q : Addr) (b s : Int) (n : Nat) (f : Nat → Bool), vs = [.ref q, .int b, .int s] ∧ 0 ≤ b ∧ 1 ≤ s ∧ b + s ≤ 20000 ∧ H q = some (.lst (mkB n f)) ∧ b + s ≤ n ∧
  ∀ v H', Ext H H' → StAt H' v b s (row f 0 b.toNat) (row f b.toNat s.toNat) → Q v H'
theorem row_step {f : Nat → Bool} {lo i : Nat} {ys : List V} (h : ys = (row f lo i).map V.int) (hf : f (lo + i) = true) : ys ++ [V.int ((lo + i : Nat) : Int)] = (row f lo (i + 1)).map V.int := by
  rw [row_succ, if_pos hf, List.map_append, h]
  rfl
theorem row_skip {f : Nat → Bool} {lo i : Nat} {ys : List V} (h : ys = (row f lo i).map V.int) (hf : f (lo + i) = false) : ys = (row f lo (i + 1)).map V.int := by
  rw [row_succ, if_neg (by rw [hf]; decide), List.append_nil, h]
noncomputable abbrev s__law_stair_of : Stmt := top 39
theorem sc__law_stair_of : FnScope ["_law_bits_here", "_law_base", "_law_step", "_law_once"] ["_law_bits_here", "_law_base", "_law_step"] (defScope s__law_stair_of) := ⟨rfl, rfl, rfl, by decide +kernel, rfl, by decide +kernel, by decide +kernel⟩
theorem ok__law_stair_of {P : Program} {w : World} {K : PySem.W.Frag} {mg : Str → Option Value} {base : Heap} (D : Dfn K mg "_law_stair_of" s__law_stair_of ["_law_bits_here", "_law_base", "_law_step"]) (T : Blt mg) : Cal P w K mg base "_law_stair_of" 1 ["_law_bits_here", "_law_base", "_law_step"] (sp__law_stair_of K) := by
  have nd := (sc__law_stair_of).nd
  refine D.ok sc__law_stair_of (fun vs H Q E h => ?_) (fun X hX H vs Q E h => ?_)
  · obtain ⟨q, b, s, n, f, rfl, _⟩ := h; rfl
  · obtain ⟨f, cdv, A, outer, s, H0, E0, rfl, hr⟩ := hX
    obtain ⟨q', b, s', n, g, rfl, hb, hs, hbs, hq, hn, q⟩ := h
    refine ⟨_, (no_implicit_lambda% (pss_cons (no_implicit_lambda% (ps_set (i := 3) nd rfl (Or.inl rfl) (no_implicit_lambda% (pe_callTy (call_tupK K) rfl T.tuple_ PyProof.Rows.boot_tuple (no_implicit_lambda% (pa_cons (no_implicit_lambda% (pe_comp ["_law_x"] [0] (no_implicit_lambda% (pi_range1 rfl T.range_ (no_implicit_lambda% (pa_cons (no_implicit_lambda% (pv 1)) pa_nil)))) (fun _ => (no_implicit_lambda% (pg_name (i := 0) (show (["_law_x", "_law_bits_here"] : List Str).Nodup from by decide +kernel) rfl (Or.inl rfl) (Or.inr rfl)))) (fun _ => (pcs_one (no_implicit_lambda% (pt_val (no_implicit_lambda% (pe_ix (ix_listK K) (no_implicit_lambda% (pv 1)) (no_implicit_lambda% (pv 0)) (fun _ _ => rfl))))))) (fun _ => (no_implicit_lambda% (pv 0))))) pa_nil))))))
        (no_implicit_lambda% (pss_one (no_implicit_lambda% (ps_ret (no_implicit_lambda% (pe_tup (no_implicit_lambda% (pa_cons (no_implicit_lambda% (pv 1)) (no_implicit_lambda% (pa_cons (no_implicit_lambda% (pv 2)) (no_implicit_lambda% (pa_cons (no_implicit_lambda% (pv 3)) (no_implicit_lambda% (pa_cons (no_implicit_lambda% (pe_callTy (call_tupK K) rfl T.tuple_ PyProof.Rows.boot_tuple (no_implicit_lambda% (pa_cons (no_implicit_lambda% (pe_comp ["_law_x"] [0] (no_implicit_lambda% (pi_range2 rfl T.range_ (no_implicit_lambda% (pa_cons (no_implicit_lambda% (pv 1)) (no_implicit_lambda% (pa_cons (no_implicit_lambda% (pe_op op_add (no_implicit_lambda% (pv 1)) (no_implicit_lambda% (pv 2)))) pa_nil)))))) (fun _ => (no_implicit_lambda% (pg_name (i := 0) (show (["_law_x", "_law_bits_here"] : List Str).Nodup from by decide +kernel) rfl (Or.inl rfl) (Or.inr rfl)))) (fun _ => (pcs_one (no_implicit_lambda% (pt_val (no_implicit_lambda% (pe_ix (ix_listK K) (no_implicit_lambda% (pv 1)) (no_implicit_lambda% (pv 0)) (fun _ _ => rfl))))))) (fun _ => (no_implicit_lambda% (pv 0))))) pa_nil)))) pa_nil)))))))))))))))), ?_⟩
    walk_at "rd"
    refine rd_i1x (by omega) ?_
    refine comp_range (fun i ys H' => H' = H ∧ ys = (row g 0 i).map V.int) (small_line (by omega)) ⟨rfl, rfl⟩ ?_ ?_ ?_
    · rintro i ys H' _ ⟨rfl, rfl⟩
      rw [List.length_map]; exact row_len g 0 i
    · rintro i ys H' hi ⟨rfl, hy⟩
      walk_at "rd"
      refine rd_ixL (SqL.of hq) (mkB_at (by omega) (by omega)) ?_
      walk_at "rd"
      rw [show ((0 : Int) + (i : Int)).toNat = i by omega]
      have e0 : g (0 + i) = g i := by rw [Nat.zero_add]
      cases hg : g i with
      | true =>
        refine iteT ?_
        walk_at "rd"
        refine ⟨rfl, ?_⟩
        rw [← row_step hy (e0.trans hg)]
        congr 3
        all_goals omega
      | false => exact iteF ⟨rfl, row_skip hy (e0.trans hg)⟩
    · rintro ys H' p ⟨rfl, rfl⟩ hp
      walk_at "rd"
      refine rd_tupL (SqL.of upd_same) ?_
      have e1 : Ext H' (upd H' p (.lst ((row g 0 b.toNat).map V.int))) := ext_upd hp
      generalize upd H' p (.lst ((row g 0 b.toNat).map V.int)) = H1 at e1
      refine rd_new fun t1 H2 e2 ht1 _ => ?_
      walk_at "rd"
      refine rd_i2x (by omega) ?_
      rw [show b + s' - b = s' by omega]
      refine comp_range (fun i ys H3 => H3 = H2 ∧ ys = (row g b.toNat i).map V.int) (small_line (by omega)) ⟨rfl, rfl⟩ ?_ ?_ ?_
      · rintro i ys H' _ ⟨rfl, rfl⟩
        rw [List.length_map]; exact row_len g _ i
      · rintro i ys H3 hi ⟨rfl, hy⟩
        walk_at "rd"
        refine rd_ixL (SqL.of (e2 _ _ (e1 _ _ hq))) (mkB_at (by omega) (by omega)) ?_
        walk_at "rd"
        rw [show (b + (i : Int)).toNat = b.toNat + i by omega]
        cases hg : g (b.toNat + i) with
        | true =>
          refine iteT ?_
          walk_at "rd"
          refine ⟨rfl, ?_⟩
          rw [← row_step hy hg]
          congr 3
          all_goals omega
        | false => exact iteF ⟨rfl, row_skip hy hg⟩
      · rintro ys H3 p3 ⟨rfl, rfl⟩ hp3
        walk_at "rd"
        refine rd_tupL (SqL.of upd_same) ?_
        have e3 : Ext H3 (upd H3 p3 (.lst ((row g b.toNat s'.toNat).map V.int))) := ext_upd hp3
        generalize upd H3 p3 (.lst ((row g b.toNat s'.toNat).map V.int)) = H4 at e3
        refine rd_new fun t2 H5 e5 ht2 _ => ?_
        walk_at "rd"
        refine ⟨small_line (by simp), rd_new fun t H6 e6 ht _ => ?_⟩
        exact q _ H6 (e1.trans (e2.trans (e3.trans (e5.trans e6)))) ⟨t, t1, t2, rfl, ht, e6 _ _ (e5 _ _ (e3 _ _ ht1)), e6 _ _ ht2⟩
end My
set_option Elab.async false
set_option linter.all false
set_option maxRecDepth 100000
namespace My
open PySem L2 St
set_option maxHeartbeats 4000000
local macro_rules | `(tactic| walk_at "cond") => `(tactic| first | decide | omega | (dsimp only; omega) | (unfold CMul; omega) | (unfold CPow; exact ⟨by decide, by decide, by decide⟩) | (dsimp only; exact ⟨by omega, by omega⟩) | exact .inr ⟨by decide, by decide⟩ | exact .inl ⟨by decide, by decide⟩ | (unfold SmallR; omega))
local macro_rules | `(tactic| walk_at "sq") => `(tactic| first | assumption | exact SqL.of (by assumption) | exact SqT.of (by assumption) | exact SqL.of (by solve_by_elim) | exact SqT.of (by solve_by_elim) | solve_by_elim)
local macro_rules | `(tactic| walk_at "rd") => `(tactic| repeat (first | with_reducible refine rd_seq ?_ | with_reducible refine rd_ret ?_ | with_reducible refine rd_retN ?_ | with_reducible refine rd_asg ?_ | with_reducible refine rd_drop ?_ | with_reducible refine rd_ifS ?_ | with_reducible refine rd_next ?_ | with_reducible refine rd_name ?_ | ((with_reducible apply rd_var); (exact rfl)) | with_reducible refine rd_c ?_ | with_reducible refine rd_op ?_ | with_reducible refine rd_un ?_ | with_reducible refine rd_CB ?_ | with_reducible refine rd_cons ?_ | with_reducible refine rd_nil ?_ | with_reducible refine rd_ints ?_ | with_reducible refine rd_test ?_ | with_reducible refine rd_B ?_ | with_reducible refine rd_exb ?_ | with_reducible refine rd_not ?_ | with_reducible refine rd_and ?_ | with_reducible refine rd_or ?_ | with_reducible refine rd_andV ?_ | with_reducible refine rd_orV ?_ | with_reducible refine rd_notV ?_ | with_reducible refine rd_ifE ?_ | with_reducible refine rd_yes ?_ | with_reducible refine rd_I0 ?_ | ((with_reducible apply rd_I); (walk_at "cond")) | with_reducible refine rd_U ?_ | with_reducible refine rd_EqI ?_ | with_reducible refine rd_NeI ?_ | with_reducible refine rd_EqB ?_ | with_reducible refine rd_NeB ?_ | with_reducible refine rd_call ?_ | with_reducible refine rd_BM ?_ | with_reducible refine rd_tup ?_ | with_reducible refine rd_lst ?_ | with_reducible refine rd_sl ?_ | with_reducible refine rd_noPart ?_ | with_reducible refine rd_part ?_ | with_reducible refine rd_exi ?_ | with_reducible refine rd_chain ?_ | with_reducible refine rd_comp ?_ | with_reducible refine rd_iL ?_ | with_reducible refine rd_iT ?_ | with_reducible refine rd_i1 ?_ | with_reducible refine rd_i2 ?_ | with_reducible refine rd_i3 ?_ | with_reducible refine rd_for ?_ | with_reducible refine rd_tTru ?_ | with_reducible refine rd_intB ?_ | with_reducible refine rd_max2 ?_ | with_reducible refine rd_min2 ?_ | with_reducible refine rd_sub ?_ | with_reducible refine rd_gcons ?_ | with_reducible refine rd_gnil ?_ | ((with_reducible apply rd_aug); (exact rfl)) | with_reducible refine rd_ipI ?_ | with_reducible refine rd_zip ?_ | with_reducible refine rd_rev ?_ | with_reducible refine rd_par ?_ | with_reducible refine rd_par2 ?_ | with_reducible refine rd_lam ?_ | with_reducible refine rd_calV ?_ | with_reducible refine rd_raise ?_ | with_reducible refine rd_fs ?_ | with_reducible refine rd_try ?_ | with_reducible refine rd_bseq ?_ | with_reducible refine rd_bnext ?_ | with_reducible refine rd_bplain ?_ | with_reducible refine rd_bif ?_ | with_reducible refine rd_bcall ?_ | dsimp only))
noncomputable def sp__law_stair_bits (K : PySem.W.Frag) : Sp := fun vs H Q _ => ∃ v n b s o a, vs = [v, .int n] ∧ StAt H v b s o a ∧ Gd b s o a ∧ 0 ≤ n ∧ n ≤ 20000 ∧
  ∀ q H', Ext H H' → H q = none → H' q = some (.lst (mkB n.toNat (fn b s o a))) → Q (.ref q) H'
theorem nRng_up {x n s : Int} (hs : 1 ≤ s) {i : Nat} (h : i < nRng x n s) : x + i * s < n := by
  unfold nRng at h
  rw [if_pos (by omega)] at h
  split at h
  · have h1 : (i : Int) ≤ (n - x - 1) / s := by
      have : 0 ≤ (n - x - 1) / s := Int.ediv_nonneg (by omega) (by omega)
      omega
    have h2 : (i : Int) * s ≤ (n - x - 1) / s * s := Int.mul_le_mul_of_nonneg_right h1 (by omega)
    have h3 := Int.ediv_mul_le (n - x - 1) (b := s) (by omega)
    omega
  · omega
theorem nRng_all {x n s y : Int} (hs : 1 ≤ s) (h1 : x ≤ y) (h2 : y < n) (h3 : (y - x) % s = 0) : ∃ i : Nat, i < nRng x n s ∧ y = x + i * s := by
  have hm := Int.mul_ediv_add_emod (y - x) s
  rw [h3] at hm
  have hq : 0 ≤ (y - x) / s := Int.ediv_nonneg (by omega) (by omega)
  refine ⟨((y - x) / s).toNat, ?_, ?_⟩
  · unfold nRng
    rw [if_pos (by omega), if_pos (by omega)]
    have : (y - x) / s ≤ (n - x - 1) / s := Int.ediv_le_ediv (by omega) (by omega)
    omega
  · rw [Int.toNat_of_nonneg hq, Int.mul_comm]
    omega
noncomputable def stepF (s : Int) (o a : List Int) (y : Nat) : Bool := o.contains (y : Int) || a.any fun x => decide (x ≤ (y : Int)) && ((y : Int) - x) % s == 0
theorem stepF_fn {b s : Int} {o a : List Int} (S : Ok b s o a) (y : Nat) : stepF s o a y = fn b s o a y := marks_mem S (by omega)
noncomputable abbrev s__law_stair_bits : Stmt := top 41
theorem sc__law_stair_bits : FnScope ["_law_stair", "_law_many", "_law_bits_here", "_law_x", "_law_far"] ["_law_stair", "_law_many"] (defScope s__law_stair_bits) := ⟨rfl, rfl, rfl, by decide +kernel, rfl, by decide +kernel, by decide +kernel⟩
theorem ok__law_stair_bits {P : Program} {w : World} {K : PySem.W.Frag} {mg : Str → Option Value} {base : Heap} (D : Dfn K mg "_law_stair_bits" s__law_stair_bits ["_law_stair", "_law_many"]) (T : Blt mg) : Cal P w K mg base "_law_stair_bits" 1 ["_law_stair", "_law_many"] (sp__law_stair_bits K) := by
  have nd := (sc__law_stair_bits).nd
  refine D.ok sc__law_stair_bits (fun vs H Q E h => ?_) (fun X hX H vs Q E h => ?_)
  · obtain ⟨v, n, b, s, o, a, rfl, _⟩ := h; rfl
  · obtain ⟨f, cdv, A, outer, s, H0, E0, rfl, hr⟩ := hX
    obtain ⟨v, n, b, s', o, a, rfl, hv, hg, hn0, hn1, q⟩ := h
    obtain ⟨p, q', r, rfl, h1, h2, h3⟩ := hv
    have hs := hg.ok.hs
    have hs8 := hg.s8
    have hb0 := hg.ok.hb
    have hb3 := hg.b3
    refine ⟨_, (no_implicit_lambda% (pss_cons (no_implicit_lambda% (ps_set (i := 2) nd rfl (Or.inl rfl) (no_implicit_lambda% (pe_op op_rep (no_implicit_lambda% (pe_lst (no_implicit_lambda% (pa_cons pe_bl pa_nil)))) (no_implicit_lambda% (pv 1))))))
        (no_implicit_lambda% (pss_cons (no_implicit_lambda% (ps_for PassesOwn.never rfl (no_implicit_lambda% (pi_tupK K (no_implicit_lambda% (pe_ix (ix_tupK K) (no_implicit_lambda% (pv 0)) pe_int (fun _ _ => rfl))))) (no_implicit_lambda% (pg_name (i := 3) nd rfl (Or.inl rfl))) (no_implicit_lambda% (pss_one (no_implicit_lambda% (ps_ifJ (no_implicit_lambda% (pt_cmpR op_lt (no_implicit_lambda% (pv 3)) (no_implicit_lambda% (pv 1)) (nomark _))) (no_implicit_lambda% (pss_one (no_implicit_lambda% (ps_asg pe_bl (no_implicit_lambda% (pg_sub (no_implicit_lambda% (pv 2)) (no_implicit_lambda% (pv 3)) set_list)))))) pss_nil))))))
        (no_implicit_lambda% (pss_cons (no_implicit_lambda% (ps_for PassesOwn.never rfl (no_implicit_lambda% (pi_tupK K (no_implicit_lambda% (pe_ix (ix_tupK K) (no_implicit_lambda% (pv 0)) pe_int (fun _ _ => rfl))))) (no_implicit_lambda% (pg_name (i := 3) nd rfl (Or.inl rfl))) (no_implicit_lambda% (pss_one (no_implicit_lambda% (ps_for PassesOwn.never rfl (no_implicit_lambda% (pi_range3 rfl T.range_ (no_implicit_lambda% (pa_cons (no_implicit_lambda% (pv 3)) (no_implicit_lambda% (pa_cons (no_implicit_lambda% (pv 1)) (no_implicit_lambda% (pa_cons (no_implicit_lambda% (pe_ix (ix_tupK K) (no_implicit_lambda% (pv 0)) pe_int (fun _ _ => rfl))) pa_nil)))))))) (no_implicit_lambda% (pg_name (i := 4) nd rfl (Or.inl rfl))) (no_implicit_lambda% (pss_one (no_implicit_lambda% (ps_asg pe_bl (no_implicit_lambda% (pg_sub (no_implicit_lambda% (pv 2)) (no_implicit_lambda% (pv 4)) set_list))))))))))))
        (no_implicit_lambda% (pss_one (no_implicit_lambda% (ps_ret (no_implicit_lambda% (pv 2)))))))))))), ?_⟩
    walk_at "rd"
    refine ⟨small_line (by simp), rd_new fun m H1 e1 hm _ => ?_⟩
    walk_at "rd"
    refine rd_rep hm (by omega) (small_line (by simp; omega)) (rd_new fun m2 H2 e2 hm2 hn2 => ?_)
    rw [mkB_rep] at hm2
    have e12 : Ext H H2 := e1.trans e2
    have hmn : H m2 = none := e1.none hn2
    walk_at "rd"
    refine rd_ixT (SqT.of (e12 _ _ h1)) rfl ?_
    walk_at "rd"
    refine rd_iTx (SqT.of (e12 _ _ h2)) ?_
    refine forT (xs := o.map V.int) (fun i σ H' => Ext H H' ∧ ∃ x, σ = [some (.ref p), some (.int n), some (.ref m2), x, none] ∧ H' m2 = some (.lst (mkB n.toNat fun y => (o.take i).contains (y : Int))))
      ⟨e12, none, rfl, by simpa using hm2⟩ (fun i σ H' _ h => SqT.of (h.1 _ _ h2)) ?_ ?_
    · rintro i v' σ H' hi ⟨e, x, rfl, hm'⟩
      obtain ⟨z, rfl, hz⟩ := map_get hi
      have hz0 := (hg.ok.ho.2 z (List.mem_of_getElem? hz))
      have htake : o.take (i + 1) = o.take i ++ [z] := by rw [List.take_add_one, hz]; rfl
      walk_at "rd"
      refine rd_ifJ (fun σ' H' => Ext H H' ∧ ∃ x, σ' = [some (.ref p), some (.int n), some (.ref m2), x, none] ∧ H' m2 = some (.lst (mkB n.toNat fun y => (o.take (i + 1)).contains (y : Int)))) ?_ (fun _ _ h => h)
      walk_at "rd"
      by_cases hzn : z < n
      · rw [decide_eq_true hzn]
        refine iteT ?_
        walk_at "rd"
        refine rd_setL hm' (ixN_of (by omega) (by rw [mkB_len]; omega)) ?_
        rw [mkB_set _ _ (by omega)]
        refine ⟨ext_write e hmn, _, rfl, ?_⟩
        rw [upd_same]
        congr 2
        refine mkB_congr fun y hy => ?_
        rw [htake, List.contains_append]
        by_cases hyz : y = z.toNat
        · rw [if_pos hyz]
          have : (y : Int) = z := by omega
          rw [this]
          simp
        · rw [if_neg hyz]
          have : [z].contains (y : Int) = false := by
            rw [Bool.eq_false_iff]
            intro hc
            rw [List.contains_iff_mem, List.mem_singleton] at hc
            omega
          rw [this, Bool.or_false]
      · rw [decide_eq_false hzn]
        refine iteF ?_
        walk_at "rd"
        refine ⟨e, _, rfl, ?_⟩
        rw [hm']
        congr 2
        refine mkB_congr fun y hy => ?_
        rw [htake, List.contains_append]
        have : [z].contains (y : Int) = false := by
          rw [Bool.eq_false_iff]
          intro hc
          rw [List.contains_iff_mem, List.mem_singleton] at hc
          omega
        rw [this, Bool.or_false]
    · rintro σ H3 ⟨e3, x, rfl, hm3⟩
      rw [List.length_map, List.take_length] at hm3
      walk_at "rd"
      refine rd_ixT (SqT.of (e3 _ _ h1)) rfl ?_
      walk_at "rd"
      refine rd_iTx (SqT.of (e3 _ _ h3)) ?_
      refine forT (xs := a.map V.int) (fun i σ H' => Ext H H' ∧ ∃ x y, σ = [some (.ref p), some (.int n), some (.ref m2), x, y] ∧ H' m2 = some (.lst (mkB n.toNat (stepF s' o (a.take i)))))
        ⟨e3, _, _, rfl, by rw [hm3]; congr 2; exact mkB_congr fun y _ => by simp [stepF]⟩ (fun i σ H' _ h => SqT.of (h.1 _ _ h3)) ?_ ?_
      · rintro i v' σ H' hi ⟨e, x, y, rfl, hm'⟩
        obtain ⟨z, rfl, hz⟩ := map_get hi
        have hz0 := (hg.ok.ha.2 z (List.mem_of_getElem? hz))
        have htake : a.take (i + 1) = a.take i ++ [z] := by rw [List.take_add_one, hz]; rfl
        walk_at "rd"
        refine rd_ixT (SqT.of (e _ _ h1)) rfl ?_
        walk_at "rd"
        refine rd_i3x (by unfold SmallR; omega) ?_
        refine forS (fun j σ H' => Ext H H' ∧ ∃ y, σ = [some (.ref p), some (.int n), some (.ref m2), some (.int z), y] ∧ H' m2 = some (.lst (mkB n.toNat fun y => stepF s' o (a.take i) y || (List.range j).any fun k => decide ((y : Int) = z + (k : Nat) * s'))))
          ⟨e, _, rfl, by rw [hm']; congr 2; exact mkB_congr fun y _ => by simp⟩ ?_ ?_
        · rintro j σ H'' hj ⟨e', y', rfl, hm''⟩
          have hlt := nRng_up hs hj
          have hge : 0 ≤ (j : Int) * s' := Int.mul_nonneg (by omega) (by omega)
          walk_at "rd"
          refine rd_setL hm'' (ixN_of (by omega) (by rw [mkB_len]; omega)) ?_
          rw [mkB_set _ _ (by omega)]
          refine ⟨ext_write e' hmn, _, rfl, ?_⟩
          rw [upd_same]
          congr 2
          refine mkB_congr fun y hy => ?_
          rw [List.range_succ, List.any_append]
          by_cases hyz : y = (z + (j : Int) * s').toNat
          · rw [if_pos hyz]
            have : (y : Int) = z + (j : Nat) * s' := by omega
            simp [this]
          · rw [if_neg hyz]
            have : (List.any [j] fun k => decide ((y : Int) = z + (k : Nat) * s')) = false := by
              simp
              omega
            rw [this, Bool.or_false]
        · rintro σ H'' ⟨e', y', rfl, hm''⟩
          refine ⟨e', _, _, rfl, ?_⟩
          rw [hm'']
          congr 2
          refine mkB_congr fun y hy => ?_
          rw [htake]
          unfold stepF
          rw [List.any_append, Bool.or_assoc]
          congr 2
          rw [Bool.eq_iff_iff, List.any_eq_true]
          simp only [List.mem_range, decide_eq_true_eq, List.any_cons, List.any_nil, Bool.or_false, Bool.and_eq_true, beq_iff_eq]
          constructor
          · rintro ⟨k, hk, hy'⟩
            have hge : 0 ≤ (k : Int) * s' := Int.mul_nonneg (by omega) (by omega)
            refine ⟨by omega, ?_⟩
            rw [show (y : Int) - z = s' * (k : Int) by rw [Int.mul_comm]; omega]
            exact Int.mul_emod_right _ _
          · rintro ⟨hy1, hy2⟩
            obtain ⟨k, hk1, hk2⟩ := nRng_all (n := n) hs hy1 (by omega) hy2
            exact ⟨k, hk1, hk2⟩
      · rintro σ H4 ⟨e4, x', y', rfl, hm4⟩
        rw [List.length_map, List.take_length] at hm4
        walk_at "rd"
        refine q m2 H4 e4 hmn ?_
        rw [hm4]
        congr 2
        exact mkB_congr fun y _ => stepF_fn hg.ok y
noncomputable def sp__law_whole (K : PySem.W.Frag) : Sp := fun vs H Q _ => ∃ v n, vs = [v] ∧ kindV H v n ∧ Q (.bl (isInt v)) H
noncomputable abbrev s__law_whole : Stmt := top 34
theorem sc__law_whole : FnScope ["_law_found"] ["_law_found"] (defScope s__law_whole) := ⟨rfl, rfl, rfl, by decide +kernel, rfl, by decide +kernel, by decide +kernel⟩
theorem ok__law_whole {P : Program} {w : World} {K : PySem.W.Frag} {mg : Str → Option Value} {base : Heap} (D : Dfn K mg "_law_whole" s__law_whole ["_law_found"]) (T : Blt mg) : Cal P w K mg base "_law_whole" 1 ["_law_found"] (sp__law_whole K) := by
  have nd := (sc__law_whole).nd
  refine D.ok sc__law_whole (fun vs H Q E h => ?_) (fun X hX H vs Q E h => ?_)
  · obtain ⟨v, n, rfl, _⟩ := h; rfl
  · obtain ⟨f, cdv, A, outer, s, H0, E0, rfl, hr⟩ := hX
    obtain ⟨v, n, rfl, hk, q⟩ := h
    obtain ⟨b, c, hb, hc, e⟩ := kind_whole hk
    refine ⟨_, (no_implicit_lambda% (pss_one (no_implicit_lambda% (ps_ret (no_implicit_lambda% (pe_and (no_implicit_lambda% (pe_callB call_isi rfl T.isinstance_ PyProof.Rows.boot_isinstance (no_implicit_lambda% (pa_cons (no_implicit_lambda% (pv 0)) (no_implicit_lambda% (pa_cons (no_implicit_lambda% (pe_bltn (v := .ty "int") rfl T.int_ PyProof.Rows.boot_int rfl)) pa_nil)))))) (pe_one (no_implicit_lambda% (pe_not (no_implicit_lambda% (pe_callB call_isi rfl T.isinstance_ PyProof.Rows.boot_isinstance (no_implicit_lambda% (pa_cons (no_implicit_lambda% (pv 0)) (no_implicit_lambda% (pa_cons (no_implicit_lambda% (pe_bltn (v := .ty "bool") rfl T.bool_ PyProof.Rows.boot_bool rfl)) pa_nil))))))))))))))), ?_⟩
    walk_at "rd"
    refine rd_isi hk hb ?_
    walk_at "rd"
    cases b with
    | false => refine iteF ?_; rw [← e] at q; exact q
    | true =>
      refine iteT ?_
      walk_at "rd"
      refine rd_isi hk hc ?_
      walk_at "rd"
      rw [← e] at q; exact q
end My
set_option Elab.async false
set_option linter.all false
set_option maxRecDepth 100000
namespace My
open PySem L2 St
set_option maxHeartbeats 4000000
local macro_rules | `(tactic| walk_at "cond") => `(tactic| first | decide | omega | (dsimp only; omega) | (unfold CMul; omega) | (unfold CPow; exact ⟨by decide, by decide, by decide⟩) | (dsimp only; exact ⟨by omega, by omega⟩) | exact .inr ⟨by decide, by decide⟩ | exact .inl ⟨by decide, by decide⟩ | (unfold SmallR; omega))
local macro_rules | `(tactic| walk_at "sq") => `(tactic| first | assumption | exact SqL.of (by assumption) | exact SqT.of (by assumption) | exact SqL.of (by solve_by_elim) | exact SqT.of (by solve_by_elim) | solve_by_elim)
local macro_rules | `(tactic| walk_at "rd") => `(tactic| repeat (first | with_reducible refine rd_seq ?_ | with_reducible refine rd_ret ?_ | with_reducible refine rd_retN ?_ | with_reducible refine rd_asg ?_ | with_reducible refine rd_drop ?_ | with_reducible refine rd_ifS ?_ | with_reducible refine rd_next ?_ | with_reducible refine rd_name ?_ | ((with_reducible apply rd_var); (exact rfl)) | with_reducible refine rd_c ?_ | with_reducible refine rd_op ?_ | with_reducible refine rd_un ?_ | with_reducible refine rd_CB ?_ | with_reducible refine rd_cons ?_ | with_reducible refine rd_nil ?_ | with_reducible refine rd_ints ?_ | with_reducible refine rd_test ?_ | with_reducible refine rd_B ?_ | with_reducible refine rd_exb ?_ | with_reducible refine rd_not ?_ | with_reducible refine rd_and ?_ | with_reducible refine rd_or ?_ | with_reducible refine rd_andV ?_ | with_reducible refine rd_orV ?_ | with_reducible refine rd_notV ?_ | with_reducible refine rd_ifE ?_ | with_reducible refine rd_yes ?_ | with_reducible refine rd_I0 ?_ | ((with_reducible apply rd_I); (walk_at "cond")) | with_reducible refine rd_U ?_ | with_reducible refine rd_EqI ?_ | with_reducible refine rd_NeI ?_ | with_reducible refine rd_EqB ?_ | with_reducible refine rd_NeB ?_ | with_reducible refine rd_call ?_ | with_reducible refine rd_BM ?_ | with_reducible refine rd_tup ?_ | with_reducible refine rd_lst ?_ | with_reducible refine rd_sl ?_ | with_reducible refine rd_noPart ?_ | with_reducible refine rd_part ?_ | with_reducible refine rd_exi ?_ | with_reducible refine rd_chain ?_ | with_reducible refine rd_comp ?_ | with_reducible refine rd_iL ?_ | with_reducible refine rd_iT ?_ | with_reducible refine rd_i1 ?_ | with_reducible refine rd_i2 ?_ | with_reducible refine rd_i3 ?_ | with_reducible refine rd_for ?_ | with_reducible refine rd_tTru ?_ | with_reducible refine rd_intB ?_ | with_reducible refine rd_max2 ?_ | with_reducible refine rd_min2 ?_ | with_reducible refine rd_sub ?_ | with_reducible refine rd_gcons ?_ | with_reducible refine rd_gnil ?_ | ((with_reducible apply rd_aug); (exact rfl)) | with_reducible refine rd_ipI ?_ | with_reducible refine rd_zip ?_ | with_reducible refine rd_rev ?_ | with_reducible refine rd_par ?_ | with_reducible refine rd_par2 ?_ | with_reducible refine rd_lam ?_ | with_reducible refine rd_calV ?_ | with_reducible refine rd_raise ?_ | with_reducible refine rd_fs ?_ | with_reducible refine rd_try ?_ | with_reducible refine rd_bseq ?_ | with_reducible refine rd_bnext ?_ | with_reducible refine rd_bplain ?_ | with_reducible refine rd_bif ?_ | with_reducible refine rd_bcall ?_ | dsimp only))
theorem row_gd {f : Nat → Bool} {b s : Int} (h0 : 0 ≤ b) (h1 : 1 ≤ s) (h2 : b ≤ 3000) (h3 : s ≤ 840) : Gd b s (row f 0 b.toNat) (row f b.toNat s.toNat) := by
  have := row_ok f b.toNat s.toNat (by omega)
  rw [Int.toNat_of_nonneg h0, Int.toNat_of_nonneg (by omega)] at this
  exact ⟨this, h2, h3⟩
theorem atI_mem {α : Type} {xs : List α} {i : Int} (h0 : 0 ≤ i) (h : i < xs.length) : ∃ v, v ∈ xs ∧ atI xs i = some v := by
  have hi : i.toNat < xs.length := by omega
  exact ⟨xs[i.toNat], List.getElem_mem hi, atI_of h0 (List.getElem?_eq_getElem hi)⟩
theorem menu_step {v : V} (h : v ∈ [V.int 840, V.int 420, V.int 280, V.int 210, V.int 168, V.int 140, V.int 120, V.int 105, V.int 84, V.int 70, V.int 60, V.int 56, V.int 42, V.int 30]) : ∃ z, v = .int z ∧ 1 ≤ z ∧ z ≤ 840 := by
  simp only [List.mem_cons, List.not_mem_nil, or_false] at h
  rcases h with h | h | h | h | h | h | h | h | h | h | h | h | h | h <;> exact ⟨_, h, by decide, by decide⟩
theorem down_turn {lo hi : Int} {i : Nat} (h : i < nRng lo hi (-1)) : hi < lo + i * (-1) := by
  unfold nRng at h
  rw [if_neg (by decide)] at h
  split at h
  · rename_i h2
    have : (lo - hi - 1) / (- -1) = lo - hi - 1 := by rw [show (- -1 : Int) = 1 by decide, Int.ediv_one]
    rw [this] at h
    omega
  · omega
theorem nine {ds : List Int} (h : ds.length = 9) : ∃ a b c d e f g h i, ds = [a, b, c, d, e, f, g, h, i] := ar9 (P := fun ds => ∃ a b c d e f g h i, ds = [a, b, c, d, e, f, g, h, i]) (fun a b c d e f g h i => ⟨a, b, c, d, e, f, g, h, i, rfl⟩) ds h
noncomputable def sp__law_some_stair (K : PySem.W.Frag) : Sp := fun vs H Q _ => ∃ c p, vs = [.int c, .int p] ∧ 0 < p ∧ ∀ v b s o a H', Ext H H' → StAt H' v b s o a → Gd b s o a → Q v H'
noncomputable abbrev s__law_some_stair : Stmt := top 40
theorem sc__law_some_stair : FnScope ["_law_cell_here", "_law_prime", "_law_draws_here", "_law_base", "_law_step", "_law_bits_here", "_law_part", "_law_x"] ["_law_cell_here", "_law_prime"] (defScope s__law_some_stair) := ⟨rfl, rfl, rfl, by decide +kernel, rfl, by decide +kernel, by decide +kernel⟩
theorem ok__law_some_stair {P : Program} {w : World} {K : PySem.W.Frag} {mg : Str → Option Value} {base : Heap} (D : Dfn K mg "_law_some_stair" s__law_some_stair ["_law_cell_here", "_law_prime"]) (T : Blt mg) (C__law_stair_of : Cal P w K mg base "_law_stair_of" 1 ["_law_bits_here", "_law_base", "_law_step"] (sp__law_stair_of K)) (C__law_bits : Cal P w K mg base "_law_bits" 3 ["_law_cell_here", "_law_many", "_law_prime"] (sp__law_bits K)) (C__law_spare : Cal P w K mg base "_law_spare" 1 ["_law_cell_here", "_law_width"] (sp__law_spare K)) (C__law_draws : Cal P w K mg base "_law_draws" 2 ["_law_cell_here", "_law_widths", "_law_prime"] (sp__law_draws K)) : Cal P w K mg base "_law_some_stair" 4 ["_law_cell_here", "_law_prime"] (sp__law_some_stair K) := by
  have nd := (sc__law_some_stair).nd
  refine D.ok sc__law_some_stair (fun vs H Q E h => ?_) (fun X hX H vs Q E h => ?_)
  · obtain ⟨c, p, rfl, _⟩ := h; rfl
  · obtain ⟨f, cdv, A, outer, s, H0, E0, rfl, hr⟩ := hX
    obtain ⟨c, p, rfl, hp, q⟩ := h
    refine ⟨_, (no_implicit_lambda% (pss_cons (no_implicit_lambda% (ps_set (i := 2) nd rfl (Or.inl rfl) (no_implicit_lambda% (pe_cal C__law_draws hr (no_implicit_lambda% (pa_cons (no_implicit_lambda% (pv 0)) (no_implicit_lambda% (pa_cons (no_implicit_lambda% (pe_lst (no_implicit_lambda% (pa_ints (.c (.c (.c (.c (.c (.c (.c (.c (.c .n))))))))))))) (no_implicit_lambda% (pa_cons (no_implicit_lambda% (pv 1)) pa_nil))))))))))
        (no_implicit_lambda% (pss_cons (no_implicit_lambda% (ps_set (i := 3) nd rfl (Or.inr rfl) (no_implicit_lambda% (pe_ix (ix_listK K) (no_implicit_lambda% (pv 2)) pe_int (fun _ _ => rfl)))))
        (no_implicit_lambda% (pss_cons (no_implicit_lambda% (ps_ifJ (no_implicit_lambda% (pt_cmpR op_gt (no_implicit_lambda% (pe_ix (ix_listK K) (no_implicit_lambda% (pv 2)) pe_int (fun _ _ => rfl))) pe_int (nomark _))) (no_implicit_lambda% (pss_one (no_implicit_lambda% (ps_set (i := 3) nd rfl (Or.inr rfl) (no_implicit_lambda% (pe_ix (ix_listK K) (no_implicit_lambda% (pv 2)) (no_implicit_lambda% (pe_op op_add pe_int (no_implicit_lambda% (pe_callTy call_intN rfl T.int_ PyProof.Rows.boot_int (no_implicit_lambda% (pa_cons (no_implicit_lambda% (pe_cmpR op_eq (no_implicit_lambda% (pe_ix (ix_listK K) (no_implicit_lambda% (pv 2)) pe_int (fun _ _ => rfl))) pe_int (nomark _))) pa_nil)))))) (fun _ _ => rfl))))))) pss_nil))
        (no_implicit_lambda% (pss_cons (no_implicit_lambda% (ps_set (i := 4) nd rfl (Or.inr rfl) (no_implicit_lambda% (pe_op op_add pe_int (no_implicit_lambda% (pe_ix (ix_listK K) (no_implicit_lambda% (pv 2)) pe_int (fun _ _ => rfl)))))))
        (no_implicit_lambda% (pss_cons (no_implicit_lambda% (ps_ifJ (no_implicit_lambda% (pt_cmpR op_eq (no_implicit_lambda% (pe_ix (ix_listK K) (no_implicit_lambda% (pv 2)) pe_int (fun _ _ => rfl))) pe_int (nomark _))) (no_implicit_lambda% (pss_one (no_implicit_lambda% (ps_set (i := 4) nd rfl (Or.inr rfl) (no_implicit_lambda% (pe_op op_add pe_int (no_implicit_lambda% (pe_ix (ix_listK K) (no_implicit_lambda% (pv 2)) pe_int (fun _ _ => rfl))))))))) pss_nil))
        (no_implicit_lambda% (pss_cons (no_implicit_lambda% (ps_ifJ (no_implicit_lambda% (pt_cmpR op_eq (no_implicit_lambda% (pe_ix (ix_listK K) (no_implicit_lambda% (pv 2)) pe_int (fun _ _ => rfl))) pe_int (nomark _))) (no_implicit_lambda% (@ps_menu _ K 4 _ _ _ _ _ _ _ _ _ nd rfl (Or.inr rfl) (.c (.c (.c (.c (.c (.c (.c (.c (.c (.c (.c (.c (.c (.c .n)))))))))))))) (no_implicit_lambda% (pe_ix (ix_listK K) (no_implicit_lambda% (pv 2)) pe_int (fun _ _ => rfl))) (fun _ _ => rfl) rfl rfl (Or.inl rfl))) pss_nil))
        (no_implicit_lambda% (pss_cons (no_implicit_lambda% (ps_set (i := 5) nd rfl (Or.inr rfl) (no_implicit_lambda% (pe_cal C__law_bits hr (no_implicit_lambda% (pa_cons (no_implicit_lambda% (pe_cal C__law_spare hr (no_implicit_lambda% (pa_cons (no_implicit_lambda% (pv 0)) (no_implicit_lambda% (pa_cons pe_int pa_nil)))))) (no_implicit_lambda% (pa_cons (no_implicit_lambda% (pe_op op_add (no_implicit_lambda% (pv 3)) (no_implicit_lambda% (pv 4)))) (no_implicit_lambda% (pa_cons (no_implicit_lambda% (pv 1)) pa_nil))))))))))
        (no_implicit_lambda% (pss_cons (no_implicit_lambda% (ps_ifJ (no_implicit_lambda% (pt_cmpR op_eq (no_implicit_lambda% (pe_ix (ix_listK K) (no_implicit_lambda% (pv 2)) pe_int (fun _ _ => rfl))) pe_int (nomark _))) (no_implicit_lambda% (pss_one (no_implicit_lambda% (ps_set (i := 5) nd rfl (Or.inr rfl) (no_implicit_lambda% (pe_op op_rep (no_implicit_lambda% (pe_lst (no_implicit_lambda% (pa_cons pe_bl pa_nil)))) (no_implicit_lambda% (pe_op op_add (no_implicit_lambda% (pv 3)) (no_implicit_lambda% (pv 4)))))))))) pss_nil))
        (no_implicit_lambda% (pss_cons (no_implicit_lambda% (ps_ifJ (no_implicit_lambda% (pt_cmpR op_eq (no_implicit_lambda% (pe_ix (ix_listK K) (no_implicit_lambda% (pv 2)) pe_int (fun _ _ => rfl))) pe_int (nomark _))) (no_implicit_lambda% (pss_one (no_implicit_lambda% (ps_set (i := 5) nd rfl (Or.inr rfl) (no_implicit_lambda% (pe_op op_rep (no_implicit_lambda% (pe_lst (no_implicit_lambda% (pa_cons pe_bl pa_nil)))) (no_implicit_lambda% (pe_op op_add (no_implicit_lambda% (pv 3)) (no_implicit_lambda% (pv 4)))))))))) pss_nil))
        (no_implicit_lambda% (pss_cons (no_implicit_lambda% (ps_ifJ (no_implicit_lambda% (pt_cmpR op_eq (no_implicit_lambda% (pe_ix (ix_listK K) (no_implicit_lambda% (pv 2)) pe_int (fun _ _ => rfl))) pe_int (nomark _))) (no_implicit_lambda% (pss_cons (no_implicit_lambda% (ps_set (i := 6) nd rfl (Or.inr rfl) (no_implicit_lambda% (pe_callB (call_maxLK K rfl) rfl T.max_ PyProof.Rows.boot_max (no_implicit_lambda% (pa_cons (no_implicit_lambda% (pe_op op_cat (no_implicit_lambda% (pe_lst (no_implicit_lambda% (pa_cons pe_int pa_nil)))) (no_implicit_lambda% (pe_comp ["_law_by"] [4] (no_implicit_lambda% (pi_range2 rfl T.range_ (no_implicit_lambda% (pa_cons pe_int (no_implicit_lambda% (pa_cons (no_implicit_lambda% (pv 4)) pa_nil)))))) (fun _ => (no_implicit_lambda% (pg_name (i := 0) (show (["_law_by", "_law_step"] : List Str).Nodup from by decide +kernel) rfl (Or.inl rfl) (Or.inr rfl)))) (fun _ => (pcs_one (no_implicit_lambda% (pt_cmpR op_eq (no_implicit_lambda% (pe_op op_mod (no_implicit_lambda% (pv 1)) (no_implicit_lambda% (pv 0)))) pe_int (nomark _))))) (fun _ => (no_implicit_lambda% (pv 0))))))) pa_nil))))))
        (no_implicit_lambda% (pss_one (no_implicit_lambda% (ps_set (i := 5) nd rfl (Or.inr rfl) (no_implicit_lambda% (pe_op op_cat (no_implicit_lambda% (pe_slice (sl_listK K) (no_implicit_lambda% (pv 5)) po_none (po_some (no_implicit_lambda% (pv 3))))) (no_implicit_lambda% (pe_comp ["_law_k"] [5, 3, 6] (no_implicit_lambda% (pi_range1 rfl T.range_ (no_implicit_lambda% (pa_cons (no_implicit_lambda% (pv 4)) pa_nil)))) (fun _ => (no_implicit_lambda% (pg_name (i := 0) (show (["_law_k", "_law_bits_here", "_law_base", "_law_part"] : List Str).Nodup from by decide +kernel) rfl (Or.inl rfl) (Or.inr rfl)))) (fun _ => pcs_nil) (fun _ => (no_implicit_lambda% (pe_ix (ix_listK K) (no_implicit_lambda% (pv 1)) (no_implicit_lambda% (pe_op op_add (no_implicit_lambda% (pv 2)) (no_implicit_lambda% (pe_op op_mod (no_implicit_lambda% (pv 0)) (no_implicit_lambda% (pv 3)))))) (fun _ _ => rfl)))))))))))))) pss_nil))
        (no_implicit_lambda% (pss_cons (no_implicit_lambda% (ps_ifJ (no_implicit_lambda% (pt_cmpR op_eq (no_implicit_lambda% (pe_ix (ix_listK K) (no_implicit_lambda% (pv 2)) pe_int (fun _ _ => rfl))) pe_int (nomark _))) (no_implicit_lambda% (pss_one (no_implicit_lambda% (ps_for PassesOwn.never rfl (no_implicit_lambda% (pi_range3 rfl T.range_ (no_implicit_lambda% (pa_cons (no_implicit_lambda% (pe_op op_sub (no_implicit_lambda% (pv 3)) pe_int)) (no_implicit_lambda% (pa_cons (no_implicit_lambda% (pe_op op_sub (no_implicit_lambda% (pe_op op_fdivL (no_implicit_lambda% (pv 3)) pe_int)) pe_int)) (no_implicit_lambda% (pa_cons (no_implicit_lambda% (pe_un un_neg pe_int)) pa_nil)))))))) (no_implicit_lambda% (pg_name (i := 7) nd rfl (Or.inl rfl))) (no_implicit_lambda% (pss_one (no_implicit_lambda% (ps_asg (no_implicit_lambda% (pe_ix (ix_listK K) (no_implicit_lambda% (pv 5)) (no_implicit_lambda% (pe_op op_add (no_implicit_lambda% (pv 7)) (no_implicit_lambda% (pv 4)))) (fun _ _ => rfl))) (no_implicit_lambda% (pg_sub (no_implicit_lambda% (pv 5)) (no_implicit_lambda% (pv 7)) set_list)))))))))) pss_nil))
        (no_implicit_lambda% (pss_cons (no_implicit_lambda% (ps_ifJ (no_implicit_lambda% (pt_cmpR op_eq (no_implicit_lambda% (pe_ix (ix_listK K) (no_implicit_lambda% (pv 2)) pe_int (fun _ _ => rfl))) pe_int (nomark _))) (no_implicit_lambda% (pss_one (no_implicit_lambda% (ps_set (i := 5) nd rfl (Or.inr rfl) (no_implicit_lambda% (pe_op op_cat (no_implicit_lambda% (pe_slice (sl_listK K) (no_implicit_lambda% (pv 5)) po_none (po_some (no_implicit_lambda% (pv 3))))) (no_implicit_lambda% (pe_op op_rep (no_implicit_lambda% (pe_lst (no_implicit_lambda% (pa_cons pe_bl pa_nil)))) (no_implicit_lambda% (pv 4)))))))))) pss_nil))
        (no_implicit_lambda% (pss_one (no_implicit_lambda% (ps_ret (no_implicit_lambda% (pe_cal C__law_stair_of hr (no_implicit_lambda% (pa_cons (no_implicit_lambda% (pv 5)) (no_implicit_lambda% (pa_cons (no_implicit_lambda% (pv 3)) (no_implicit_lambda% (pa_cons (no_implicit_lambda% (pv 4)) pa_nil)))))))))))))))))))))))))))))))))))), ?_⟩
    walk_at "rd"
    refine ⟨small_line (by simp), rd_new fun w H1 e1 hw1 hw => ?_⟩
    walk_at "rd"
    refine ⟨c, w, [8, 13, 61, 3001, 8, 12, 60, 14, 6], p, rfl, hw1, by decide, by decide, hp, fun dq ds H2 e2 hd hdn hl hbd => ?_⟩
    obtain ⟨d0, d1, d2, d3, d4, d5, d6, d7, d8, rfl⟩ := nine hl
    have b0 := hbd 0 _ _ rfl rfl
    have b1 := hbd 1 _ _ rfl rfl
    have b2 := hbd 2 _ _ rfl rfl
    have b3 := hbd 3 _ _ rfl rfl
    have b4 := hbd 4 _ _ rfl rfl
    have b5 := hbd 5 _ _ rfl rfl
    have b6 := hbd 6 _ _ rfl rfl
    have b7 := hbd 7 _ _ rfl rfl
    have b8 := hbd 8 _ _ rfl rfl
    have eH : Ext H H2 := e1.trans e2
    walk_at "rd"
    refine rd_ixL (SqL.of hd) (v := .int d1) rfl ?_
    walk_at "rd"
    refine rd_ifJ (fun σ' H' => H' = H2 ∧ ∃ b, σ' = [some (.int c), some (.int p), some (.ref dq), some (.int b), none, none, none, none] ∧ 0 ≤ b ∧ b ≤ 3000) ?_ ?_
    · walk_at "rd"
      refine rd_ixL (SqL.of hd) (v := .int d0) rfl ?_
      walk_at "rd"
      refine ite2 (fun h => ?_) (fun h => ?_)
      · walk_at "rd"
        refine rd_ixL (SqL.of hd) (v := .int d0) rfl ?_
        walk_at "rd"
        cases hd0 : decide (d0 = 7) with
        | true =>
          refine rd_ixL (SqL.of hd) (v := .int d3) rfl ?_
          walk_at "rd"
          exact ⟨rfl, d3, rfl, by omega, by omega⟩
        | false =>
          refine rd_ixL (SqL.of hd) (v := .int d2) rfl ?_
          walk_at "rd"
          exact ⟨rfl, d2, rfl, by omega, by omega⟩
      · walk_at "rd"
        exact ⟨rfl, d1, rfl, by omega, by omega⟩
    rintro σ' H' ⟨rfl, b, rfl, hb0, hb1⟩
    walk_at "rd"
    refine rd_ixL (SqL.of hd) (v := .int d5) rfl ?_
    walk_at "rd"
    refine rd_ifJ (fun σ' H'' => H'' = H' ∧ ∃ s, σ' = [some (.int c), some (.int p), some (.ref dq), some (.int b), some (.int s), none, none, none] ∧ 1 ≤ s ∧ s ≤ 840) ?_ ?_
    · walk_at "rd"
      refine rd_ixL (SqL.of hd) (v := .int d4) rfl ?_
      walk_at "rd"
      refine ite2 (fun h => ?_) (fun h => ?_)
      · walk_at "rd"
        refine rd_ixL (SqL.of hd) (v := .int d6) rfl ?_
        walk_at "rd"
        exact ⟨rfl, _, rfl, by omega, by omega⟩
      · walk_at "rd"
        exact ⟨rfl, _, rfl, by omega, by omega⟩
    rintro σ' H'' ⟨rfl, s1, rfl, hs0, hs1⟩
    walk_at "rd"
    refine rd_ifJ (fun σ' H' => Ext H'' H' ∧ ∃ s, σ' = [some (.int c), some (.int p), some (.ref dq), some (.int b), some (.int s), none, none, none] ∧ 1 ≤ s ∧ s ≤ 840) ?_ ?_
    · walk_at "rd"
      refine rd_ixL (SqL.of hd) (v := .int d4) rfl ?_
      walk_at "rd"
      refine ite2 (fun h => ?_) (fun h => ?_)
      · walk_at "rd"
        refine ⟨small_line (by simp), rd_new fun m H3 e3 hm _ => ?_⟩
        walk_at "rd"
        refine rd_ixL (SqL.of (e3 _ _ hd)) (v := .int d7) rfl ?_
        obtain ⟨v, hv, hat⟩ := atI_mem (xs := [V.int 840, V.int 420, V.int 280, V.int 210, V.int 168, V.int 140, V.int 120, V.int 105, V.int 84, V.int 70, V.int 60, V.int 56, V.int 42, V.int 30]) (i := d7) (by omega) (by simp; omega)
        obtain ⟨z, rfl, hz0, hz1⟩ := menu_step hv
        refine rd_ixL (SqL.of hm) hat ?_
        walk_at "rd"
        exact ⟨e3, _, rfl, hz0, hz1⟩
      · walk_at "rd"
        exact ⟨fun _ _ h => h, _, rfl, hs0, hs1⟩
    clear hs0 hs1 s1
    rintro σ' H3 ⟨e3, s', rfl, hs0, hs1⟩
    clear b0 b1 b2 b3 b4 b5 b6 b7 b8 hbd
    have hd3 := e3 _ _ hd
    walk_at "rd"
    refine ⟨c, 9211512360960, rfl, by decide, by decide, fun z => ?_⟩
    walk_at "rd"
    refine ⟨z, b + s', p, rfl, by omega, by omega, hp, fun bq f H4 e4 hq4 hqn => ?_⟩
    have hd4 := e4 _ _ hd3
    have en4 : Ext H H4 := (eH.trans e3).trans e4
    -- from here on: the draws stand at dq, the bits somewhere that was free
    have hn0 : (b + s').toNat = b.toNat + s'.toNat := by omega
    walk_at "rd"
    refine rd_ifJ (fun σ' H' => Ext H3 H' ∧ ∃ (bq : Addr) (f : Nat → Bool), σ' = [some (.int c), some (.int p), some (.ref dq), some (.int b), some (.int s'), some (.ref bq), none, none] ∧ H3 bq = none ∧ H' bq = some (.lst (mkB (b + s').toNat f))) ?_ ?_
    · walk_at "rd"
      refine rd_ixL (SqL.of hd4) (v := .int d8) rfl ?_
      walk_at "rd"
      refine ite2 (fun h => ?_) (fun h => ?_)
      · walk_at "rd"
        refine ⟨small_line (by simp), rd_new fun m H5 e5 hm _ => ?_⟩
        walk_at "rd"
        refine rd_rep hm (by omega) (small_line (by simp; omega)) (rd_new fun m2 H6 e6 hm2 hn2 => ?_)
        walk_at "rd"
        rw [mkB_rep] at hm2
        exact ⟨e4.trans (e5.trans e6), m2, _, rfl, (e4.trans e5).none hn2, hm2⟩
      · walk_at "rd"
        exact ⟨e4, bq, f, rfl, hqn, hq4⟩
    clear hq4 hqn en4 hd4 e4
    rintro σ' H5 ⟨e5, bq, f, rfl, hqn, hq5⟩
    walk_at "rd"
    refine rd_ifJ (fun σ' H' => Ext H3 H' ∧ ∃ (bq : Addr) (f : Nat → Bool), σ' = [some (.int c), some (.int p), some (.ref dq), some (.int b), some (.int s'), some (.ref bq), none, none] ∧ H3 bq = none ∧ H' bq = some (.lst (mkB (b + s').toNat f))) ?_ ?_
    · walk_at "rd"
      refine rd_ixL (SqL.of (e5 _ _ hd3)) (v := .int d8) rfl ?_
      walk_at "rd"
      refine ite2 (fun h => ?_) (fun h => ?_)
      · walk_at "rd"
        refine ⟨small_line (by simp), rd_new fun m H6 e6 hm _ => ?_⟩
        walk_at "rd"
        refine rd_rep hm (by omega) (small_line (by simp; omega)) (rd_new fun m2 H7 e7 hm2 hn2 => ?_)
        walk_at "rd"
        rw [mkB_rep] at hm2
        exact ⟨e5.trans (e6.trans e7), m2, _, rfl, (e5.trans e6).none hn2, hm2⟩
      · walk_at "rd"
        exact ⟨e5, bq, f, rfl, hqn, hq5⟩
    clear hq5 hqn e5 bq f H5
    rintro σ' H5 ⟨e5, bq, f, rfl, hqn, hq5⟩
    walk_at "rd"
    refine rd_ifJ (fun σ' H' => Ext H3 H' ∧ ∃ (bq : Addr) (f : Nat → Bool) (pt : Option V), σ' = [some (.int c), some (.int p), some (.ref dq), some (.int b), some (.int s'), some (.ref bq), pt, none] ∧ H3 bq = none ∧ H' bq = some (.lst (mkB (b + s').toNat f))) ?_ ?_
    · walk_at "rd"
      refine rd_ixL (SqL.of (e5 _ _ hd3)) (v := .int d8) rfl ?_
      walk_at "rd"
      refine ite2 (fun h => ?_) (fun h => ?_)
      · walk_at "rd"
        refine ⟨small_line (by simp), rd_new fun m H6 e6 hm _ => ?_⟩
        walk_at "rd"
        refine rd_i2x (by omega) ?_
        refine comp_range (fun i ys H' => H' = H6 ∧ ∃ ns : List Int, ys = ns.map V.int ∧ ns.length ≤ i ∧ ∀ x ∈ ns, 1 ≤ x) (small_line (by omega)) ⟨rfl, [], rfl, Nat.le_refl _, by simp⟩ ?_ ?_ ?_
        · rintro i ys H' _ ⟨rfl, ns, rfl, hl', _⟩
          rw [List.length_map]; exact hl'
        · rintro i ys H' hi ⟨rfl, ns, rfl, hl', h1⟩
          walk_at "rd"
          refine ite2 (fun h => ?_) (fun h => ?_)
          · walk_at "rd"
            refine ⟨rfl, ns ++ [1 + (i : Int)], by rw [List.map_append]; rfl, by rw [List.length_append]; simp; omega, fun x hx => ?_⟩
            rcases List.mem_append.mp hx with hx | hx
            · exact h1 x hx
            · have := List.mem_singleton.mp hx; omega
          · exact ⟨rfl, ns, rfl, by omega, h1⟩
        · rintro ys H' p' ⟨rfl, ns, rfl, hl', h1⟩ hn
          have e7 : Ext H' (upd H' p' (.lst (ns.map V.int))) := ext_upd hn
          have hp' : (upd H' p' (.lst (ns.map V.int))) p' = some (.lst (ns.map V.int)) := upd_same
          generalize upd H' p' (.lst (ns.map V.int)) = H7 at e7 hp'
          refine rd_cat (e7 _ _ hm) hp' (small_line (by simp; omega)) (rd_new fun m3 H8 e8 hm3 _ => ?_)
          walk_at "rd"
          refine ⟨m3, 1 :: ns, rfl, SqL.of hm3, by simp, fun M hM _ => ?_⟩
          have hM1 : 1 ≤ M := by
            rcases List.mem_cons.mp hM with rfl | hM
            · decide
            · exact h1 M hM
          have e58 : Ext H3 H8 := e5.trans (e6.trans (e7.trans e8))
          have hq8 := e8 _ _ (e7 _ _ (e6 _ _ hq5))
          walk_at "rd"
          refine rd_slL (SqL.of hq8) (rd_new fun m4 H9 e9 hm4 _ => ?_)
          rw [mkB_cut hb0 (by omega)] at hm4
          walk_at "rd"
          refine rd_i1x (by omega) ?_
          refine comp_range (fun i ys H' => H' = H9 ∧ ys = mkB i fun k => f (b + (k : Int) % M).toNat) (small_line (by omega)) ⟨rfl, rfl⟩ ?_ ?_ ?_
          · rintro i ys H' _ ⟨rfl, rfl⟩
            rw [mkB_len]; exact Nat.le_refl _
          · rintro i ys H' hi ⟨rfl, rfl⟩
            have r0 : 0 ≤ (i : Int) % M := Int.emod_nonneg _ (by omega)
            have r1 : (i : Int) % M ≤ i := by
              have h1 := Int.mul_ediv_add_emod (i : Int) M
              have h2 : 0 ≤ (i : Int) / M := Int.ediv_nonneg (by omega) (by omega)
              have h3 : 0 ≤ M * ((i : Int) / M) := Int.mul_nonneg (by omega) h2
              omega
            walk_at "rd"
            refine iteT ?_
            walk_at "rd"
            rw [Int.zero_add]
            refine rd_ixL (SqL.of (e9 _ _ hq8)) (mkB_at (by omega) (by omega)) ?_
            refine ⟨rfl, ?_⟩
            rw [mkB_succ]
          · rintro ys H' p9 ⟨rfl, rfl⟩ hn9
            refine rd_cat (by rw [upd_ne (ne_of_none hm4 hn9)]; exact hm4) upd_same (small_line (by rw [mkB_len, mkB_len]; omega)) ?_
            have e10 : Ext H' (upd H' p9 (.lst (mkB s'.toNat fun k => f (b + (k : Int) % M).toNat))) := ext_upd hn9
            generalize upd H' p9 (.lst (mkB s'.toNat fun k => f (b + (k : Int) % M).toNat)) = H10 at e10
            refine rd_new fun m5 H11 e11 hm5 hn5 => ?_
            walk_at "rd"
            rw [mkB_append, ← hn0] at hm5
            exact ⟨e58.trans (e9.trans (e10.trans e11)), m5, _, _, rfl, (e58.trans (e9.trans e10)).none hn5, hm5⟩
      · walk_at "rd"
        exact ⟨e5, bq, f, none, rfl, hqn, hq5⟩
    clear hq5 hqn e5 bq f H5
    rintro σ' H5 ⟨e5, bq, f, pt, rfl, hqn, hq5⟩
    walk_at "rd"
    refine rd_ifJ (fun σ' H' => Ext H3 H' ∧ ∃ (bq : Addr) (f : Nat → Bool) (x : Option V), σ' = [some (.int c), some (.int p), some (.ref dq), some (.int b), some (.int s'), some (.ref bq), pt, x] ∧ H3 bq = none ∧ H' bq = some (.lst (mkB (b + s').toNat f))) ?_ ?_
    · walk_at "rd"
      refine rd_ixL (SqL.of (e5 _ _ hd3)) (v := .int d8) rfl ?_
      walk_at "rd"
      refine ite2 (fun h => ?_) (fun h => ?_)
      · walk_at "rd"
        refine rd_i3x (by unfold SmallR; omega) ?_
        refine forS (fun i σ H' => Ext H3 H' ∧ ∃ (f : Nat → Bool) (x : Option V), σ = [some (.int c), some (.int p), some (.ref dq), some (.int b), some (.int s'), some (.ref bq), pt, x] ∧ H' bq = some (.lst (mkB (b + s').toNat f))) ⟨e5, f, none, rfl, hq5⟩ ?_ ?_
        · rintro i σ H' hi ⟨e6, g, x, rfl, hq6⟩
          have hx := down_turn hi
          have hx2 : b / 2 ≥ 0 := by omega
          walk_at "rd"
          refine rd_ixL (SqL.of hq6) (mkB_at (by omega) (by omega)) ?_
          walk_at "rd"
          refine rd_setL hq6 (ixN_of (by omega) (by rw [mkB_len]; omega)) ?_
          rw [mkB_set _ _ (by omega)]
          exact ⟨ext_write e6 hqn, _, _, rfl, upd_same⟩
        · rintro σ H' ⟨e6, g, x, rfl, hq6⟩
          exact ⟨e6, bq, g, x, rfl, hqn, hq6⟩
      · walk_at "rd"
        exact ⟨e5, bq, f, none, rfl, hqn, hq5⟩
    clear hq5 hqn e5 bq f H5
    rintro σ' H5 ⟨e5, bq, f, x, rfl, hqn, hq5⟩
    walk_at "rd"
    refine rd_ifJ (fun σ' H' => Ext H3 H' ∧ ∃ (bq : Addr) (f : Nat → Bool), σ' = [some (.int c), some (.int p), some (.ref dq), some (.int b), some (.int s'), some (.ref bq), pt, x] ∧ H' bq = some (.lst (mkB (b + s').toNat f))) ?_ ?_
    · walk_at "rd"
      refine rd_ixL (SqL.of (e5 _ _ hd3)) (v := .int d8) rfl ?_
      walk_at "rd"
      refine ite2 (fun h => ?_) (fun h => ?_)
      · walk_at "rd"
        refine rd_slL (SqL.of hq5) (rd_new fun m4 H9 e9 hm4 _ => ?_)
        rw [mkB_cut hb0 (by omega)] at hm4
        walk_at "rd"
        refine ⟨small_line (by simp), rd_new fun m6 H10 e10 hm6 _ => ?_⟩
        walk_at "rd"
        refine rd_rep hm6 (by omega) (small_line (by simp; omega)) (rd_new fun m7 H11 e11 hm7 _ => ?_)
        rw [mkB_rep] at hm7
        refine rd_cat (e11 _ _ (e10 _ _ hm4)) hm7 (small_line (by rw [mkB_len, mkB_len]; omega)) (rd_new fun m8 H12 e12 hm8 _ => ?_)
        walk_at "rd"
        rw [mkB_append, ← hn0] at hm8
        exact ⟨e5.trans (e9.trans (e10.trans (e11.trans e12))), m8, _, rfl, hm8⟩
      · walk_at "rd"
        exact ⟨e5, bq, f, rfl, hq5⟩
    clear hq5 hqn e5 bq f H5
    rintro σ' H5 ⟨e5, bq, f, rfl, hq5⟩
    walk_at "rd"
    exact ⟨bq, b, s', _, f, rfl, hb0, hs0, by omega, hq5, by omega, fun v H6 e6 hst => q v b s' _ _ H6 ((eH.trans e3).trans (e5.trans e6)) hst (row_gd hb0 hs0 hb1 hs1)⟩
end My
set_option Elab.async false
set_option linter.all false
set_option maxRecDepth 100000
namespace My
open PySem L2 St
set_option maxHeartbeats 4000000
local macro_rules | `(tactic| walk_at "cond") => `(tactic| first | decide | omega | (dsimp only; omega) | (unfold CMul; omega) | (unfold CPow; exact ⟨by decide, by decide, by decide⟩) | (dsimp only; exact ⟨by omega, by omega⟩) | exact .inr ⟨by decide, by decide⟩ | exact .inl ⟨by decide, by decide⟩ | (unfold SmallR; omega))
local macro_rules | `(tactic| walk_at "sq") => `(tactic| first | assumption | exact SqL.of (by assumption) | exact SqT.of (by assumption) | exact SqL.of (by solve_by_elim) | exact SqT.of (by solve_by_elim) | solve_by_elim)
local macro_rules | `(tactic| walk_at "rd") => `(tactic| repeat (first | with_reducible refine rd_seq ?_ | with_reducible refine rd_ret ?_ | with_reducible refine rd_retN ?_ | with_reducible refine rd_asg ?_ | with_reducible refine rd_drop ?_ | with_reducible refine rd_ifS ?_ | with_reducible refine rd_next ?_ | with_reducible refine rd_name ?_ | ((with_reducible apply rd_var); (exact rfl)) | with_reducible refine rd_c ?_ | with_reducible refine rd_op ?_ | with_reducible refine rd_un ?_ | with_reducible refine rd_CB ?_ | with_reducible refine rd_cons ?_ | with_reducible refine rd_nil ?_ | with_reducible refine rd_ints ?_ | with_reducible refine rd_test ?_ | with_reducible refine rd_B ?_ | with_reducible refine rd_exb ?_ | with_reducible refine rd_not ?_ | with_reducible refine rd_and ?_ | with_reducible refine rd_or ?_ | with_reducible refine rd_andV ?_ | with_reducible refine rd_orV ?_ | with_reducible refine rd_notV ?_ | with_reducible refine rd_ifE ?_ | with_reducible refine rd_yes ?_ | with_reducible refine rd_I0 ?_ | ((with_reducible apply rd_I); (walk_at "cond")) | with_reducible refine rd_U ?_ | with_reducible refine rd_EqI ?_ | with_reducible refine rd_NeI ?_ | with_reducible refine rd_EqB ?_ | with_reducible refine rd_NeB ?_ | with_reducible refine rd_call ?_ | with_reducible refine rd_BM ?_ | with_reducible refine rd_tup ?_ | with_reducible refine rd_lst ?_ | with_reducible refine rd_sl ?_ | with_reducible refine rd_noPart ?_ | with_reducible refine rd_part ?_ | with_reducible refine rd_exi ?_ | with_reducible refine rd_chain ?_ | with_reducible refine rd_comp ?_ | with_reducible refine rd_iL ?_ | with_reducible refine rd_iT ?_ | with_reducible refine rd_i1 ?_ | with_reducible refine rd_i2 ?_ | with_reducible refine rd_i3 ?_ | with_reducible refine rd_for ?_ | with_reducible refine rd_tTru ?_ | with_reducible refine rd_intB ?_ | with_reducible refine rd_max2 ?_ | with_reducible refine rd_min2 ?_ | with_reducible refine rd_sub ?_ | with_reducible refine rd_gcons ?_ | with_reducible refine rd_gnil ?_ | ((with_reducible apply rd_aug); (exact rfl)) | with_reducible refine rd_ipI ?_ | with_reducible refine rd_zip ?_ | with_reducible refine rd_rev ?_ | with_reducible refine rd_par ?_ | with_reducible refine rd_par2 ?_ | with_reducible refine rd_lam ?_ | with_reducible refine rd_calV ?_ | with_reducible refine rd_raise ?_ | with_reducible refine rd_fs ?_ | with_reducible refine rd_try ?_ | with_reducible refine rd_bseq ?_ | with_reducible refine rd_bnext ?_ | with_reducible refine rd_bplain ?_ | with_reducible refine rd_bif ?_ | with_reducible refine rd_bcall ?_ | dsimp only))
theorem mkB_drop {n : Nat} {f : Nat → Bool} {i : Int} (h0 : 0 ≤ i) (h : i ≤ n) : cutV (mkB n f) (some i) none = mkB (n - i.toNat) fun k => f (i.toNat + k) := by
  unfold cutV
  rw [mkB_len, HT.sIx_none]
  have e : HT.sIx n 0 (some i) = i.toNat := by
    show (if i < 0 then (i + (n : Int)).toNat else min i.toNat n) = i.toNat
    rw [if_neg (by omega)]
    omega
  rw [e]
  apply List.ext_getElem?
  intro k
  rcases Nat.lt_or_ge k (n - i.toNat) with hk | hk
  · rw [List.getElem?_take_of_lt hk, List.getElem?_drop, mkB_get _ (by omega), mkB_get _ hk]
  · rw [List.getElem?_eq_none (by rw [List.length_take, List.length_drop, mkB_len]; omega), List.getElem?_eq_none (by rw [mkB_len]; omega)]
noncomputable def dB (n : Nat) (f : Nat → Bool) : List PyData := (List.range n).map fun i => PyData.bool (f i)
theorem paired_map {α : Type} {R : V → PyData → Prop} {g : α → V} {k : α → PyData} (h : ∀ x, R (g x) (k x)) : ∀ l : List α, Paired R (l.map g) (l.map k)
  | [] => .nil
  | x :: l => .cons (h x) (paired_map h l)
theorem rep_mkB {H : Hp} {p : Addr} {n : Nat} {f : Nat → Bool} (h : H p = some (.lst (mkB n f))) : RepD H 1 (.ref p) (.list (dB n f)) :=
  .inr ⟨p, mkB n f, dB n f, rfl, .inr ⟨h, rfl⟩, paired_map (fun i => (rfl : f i = f i)) _⟩
theorem eqv_map {α : Type} (f g : α → Bool) : ∀ l : List α, PyData.eqvAll (l.map fun i => PyData.bool (f i)) (l.map fun i => PyData.bool (g i)) = l.all fun i => f i == g i
  | [] => rfl
  | x :: l => by
    show (PyData.eqv (.bool (f x)) (.bool (g x)) && PyData.eqvAll (l.map fun i => PyData.bool (f i)) (l.map fun i => PyData.bool (g i))) = ((f x == g x) && l.all fun i => f i == g i)
    rw [eqv_map f g l]
    rfl
theorem eqv_dB {n : Nat} {f g : Nat → Bool} : PyData.eqv (.list (dB n f)) (.list (dB n g)) = true ↔ ∀ i, i < n → f i = g i := by
  show PyData.eqvAll (dB n f) (dB n g) = true ↔ _
  unfold dB
  rw [eqv_map, List.all_eq_true]
  simp only [List.mem_range, beq_iff_eq]
noncomputable def sp_marks_below (K : PySem.W.Frag) : Sp := fun vs H Q _ => ∃ v n b s o a, vs = [v, .int n] ∧ StAt H v b s o a ∧ Gd b s o a ∧ 0 ≤ n ∧ n ≤ 20000 ∧
  ∀ q H', Ext H H' → H q = none → H' q = some (.lst (mkB n.toNat (fn b s o a))) → Q (.ref q) H'
noncomputable abbrev s_marks_below : Stmt := top 24
theorem sc_marks_below : FnScope ["stair", "end", "marks", "number", "later"] ["stair", "end"] (defScope s_marks_below) := ⟨rfl, rfl, rfl, by decide +kernel, rfl, by decide +kernel, by decide +kernel⟩
theorem ok_marks_below {P : Program} {w : World} {K : PySem.W.Frag} {mg : Str → Option Value} {base : Heap} (D : Dfn K mg "marks_below" s_marks_below ["stair", "end"]) (T : Blt mg) : Cal P w K mg base "marks_below" 1 ["stair", "end"] (sp_marks_below K) := by
  have nd := (sc_marks_below).nd
  refine D.ok sc_marks_below (fun vs H Q E h => ?_) (fun X hX H vs Q E h => ?_)
  · obtain ⟨v, n, b, s, o, a, rfl, _⟩ := h; rfl
  · obtain ⟨f, cdv, A, outer, s, H0, E0, rfl, hr⟩ := hX
    obtain ⟨v, n, b, s', o, a, rfl, hv, hg, hn0, hn1, q⟩ := h
    obtain ⟨p, q', r, rfl, h1, h2, h3⟩ := hv
    have hs := hg.ok.hs
    have hs8 := hg.s8
    have hb0 := hg.ok.hb
    have hb3 := hg.b3
    refine ⟨_, (no_implicit_lambda% (pss_cons (no_implicit_lambda% (ps_set (i := 2) nd rfl (Or.inl rfl) (no_implicit_lambda% (pe_op op_rep (no_implicit_lambda% (pe_lst (no_implicit_lambda% (pa_cons pe_bl pa_nil)))) (no_implicit_lambda% (pv 1))))))
        (no_implicit_lambda% (pss_cons (no_implicit_lambda% (ps_for PassesOwn.never rfl (no_implicit_lambda% (pi_tupK K (no_implicit_lambda% (pe_ix (ix_tupK K) (no_implicit_lambda% (pv 0)) pe_int (fun _ _ => rfl))))) (no_implicit_lambda% (pg_name (i := 3) nd rfl (Or.inl rfl))) (no_implicit_lambda% (pss_one (no_implicit_lambda% (ps_ifJ (no_implicit_lambda% (pt_cmpR op_lt (no_implicit_lambda% (pv 3)) (no_implicit_lambda% (pv 1)) (nomark _))) (no_implicit_lambda% (pss_one (no_implicit_lambda% (ps_asg pe_bl (no_implicit_lambda% (pg_sub (no_implicit_lambda% (pv 2)) (no_implicit_lambda% (pv 3)) set_list)))))) pss_nil))))))
        (no_implicit_lambda% (pss_cons (no_implicit_lambda% (ps_for PassesOwn.never rfl (no_implicit_lambda% (pi_tupK K (no_implicit_lambda% (pe_ix (ix_tupK K) (no_implicit_lambda% (pv 0)) pe_int (fun _ _ => rfl))))) (no_implicit_lambda% (pg_name (i := 3) nd rfl (Or.inl rfl))) (no_implicit_lambda% (pss_one (no_implicit_lambda% (ps_for PassesOwn.never rfl (no_implicit_lambda% (pi_range3 rfl T.range_ (no_implicit_lambda% (pa_cons (no_implicit_lambda% (pv 3)) (no_implicit_lambda% (pa_cons (no_implicit_lambda% (pv 1)) (no_implicit_lambda% (pa_cons (no_implicit_lambda% (pe_ix (ix_tupK K) (no_implicit_lambda% (pv 0)) pe_int (fun _ _ => rfl))) pa_nil)))))))) (no_implicit_lambda% (pg_name (i := 4) nd rfl (Or.inl rfl))) (no_implicit_lambda% (pss_one (no_implicit_lambda% (ps_asg pe_bl (no_implicit_lambda% (pg_sub (no_implicit_lambda% (pv 2)) (no_implicit_lambda% (pv 4)) set_list))))))))))))
        (no_implicit_lambda% (pss_one (no_implicit_lambda% (ps_ret (no_implicit_lambda% (pv 2)))))))))))), ?_⟩
    walk_at "rd"
    refine ⟨small_line (by simp), rd_new fun m H1 e1 hm _ => ?_⟩
    walk_at "rd"
    refine rd_rep hm (by omega) (small_line (by simp; omega)) (rd_new fun m2 H2 e2 hm2 hn2 => ?_)
    rw [mkB_rep] at hm2
    have e12 : Ext H H2 := e1.trans e2
    have hmn : H m2 = none := e1.none hn2
    walk_at "rd"
    refine rd_ixT (SqT.of (e12 _ _ h1)) rfl ?_
    walk_at "rd"
    refine rd_iTx (SqT.of (e12 _ _ h2)) ?_
    refine forT (xs := o.map V.int) (fun i σ H' => Ext H H' ∧ ∃ x, σ = [some (.ref p), some (.int n), some (.ref m2), x, none] ∧ H' m2 = some (.lst (mkB n.toNat fun y => (o.take i).contains (y : Int))))
      ⟨e12, none, rfl, by simpa using hm2⟩ (fun i σ H' _ h => SqT.of (h.1 _ _ h2)) ?_ ?_
    · rintro i v' σ H' hi ⟨e, x, rfl, hm'⟩
      obtain ⟨z, rfl, hz⟩ := map_get hi
      have hz0 := (hg.ok.ho.2 z (List.mem_of_getElem? hz))
      have htake : o.take (i + 1) = o.take i ++ [z] := by rw [List.take_add_one, hz]; rfl
      walk_at "rd"
      refine rd_ifJ (fun σ' H' => Ext H H' ∧ ∃ x, σ' = [some (.ref p), some (.int n), some (.ref m2), x, none] ∧ H' m2 = some (.lst (mkB n.toNat fun y => (o.take (i + 1)).contains (y : Int)))) ?_ (fun _ _ h => h)
      walk_at "rd"
      by_cases hzn : z < n
      · rw [decide_eq_true hzn]
        refine iteT ?_
        walk_at "rd"
        refine rd_setL hm' (ixN_of (by omega) (by rw [mkB_len]; omega)) ?_
        rw [mkB_set _ _ (by omega)]
        refine ⟨ext_write e hmn, _, rfl, ?_⟩
        rw [upd_same]
        congr 2
        refine mkB_congr fun y hy => ?_
        rw [htake, List.contains_append]
        by_cases hyz : y = z.toNat
        · rw [if_pos hyz]
          have : (y : Int) = z := by omega
          rw [this]
          simp
        · rw [if_neg hyz]
          have : [z].contains (y : Int) = false := by
            rw [Bool.eq_false_iff]
            intro hc
            rw [List.contains_iff_mem, List.mem_singleton] at hc
            omega
          rw [this, Bool.or_false]
      · rw [decide_eq_false hzn]
        refine iteF ?_
        walk_at "rd"
        refine ⟨e, _, rfl, ?_⟩
        rw [hm']
        congr 2
        refine mkB_congr fun y hy => ?_
        rw [htake, List.contains_append]
        have : [z].contains (y : Int) = false := by
          rw [Bool.eq_false_iff]
          intro hc
          rw [List.contains_iff_mem, List.mem_singleton] at hc
          omega
        rw [this, Bool.or_false]
    · rintro σ H3 ⟨e3, x, rfl, hm3⟩
      rw [List.length_map, List.take_length] at hm3
      walk_at "rd"
      refine rd_ixT (SqT.of (e3 _ _ h1)) rfl ?_
      walk_at "rd"
      refine rd_iTx (SqT.of (e3 _ _ h3)) ?_
      refine forT (xs := a.map V.int) (fun i σ H' => Ext H H' ∧ ∃ x y, σ = [some (.ref p), some (.int n), some (.ref m2), x, y] ∧ H' m2 = some (.lst (mkB n.toNat (stepF s' o (a.take i)))))
        ⟨e3, _, _, rfl, by rw [hm3]; congr 2; exact mkB_congr fun y _ => by simp [stepF]⟩ (fun i σ H' _ h => SqT.of (h.1 _ _ h3)) ?_ ?_
      · rintro i v' σ H' hi ⟨e, x, y, rfl, hm'⟩
        obtain ⟨z, rfl, hz⟩ := map_get hi
        have hz0 := (hg.ok.ha.2 z (List.mem_of_getElem? hz))
        have htake : a.take (i + 1) = a.take i ++ [z] := by rw [List.take_add_one, hz]; rfl
        walk_at "rd"
        refine rd_ixT (SqT.of (e _ _ h1)) rfl ?_
        walk_at "rd"
        refine rd_i3x (by unfold SmallR; omega) ?_
        refine forS (fun j σ H' => Ext H H' ∧ ∃ y, σ = [some (.ref p), some (.int n), some (.ref m2), some (.int z), y] ∧ H' m2 = some (.lst (mkB n.toNat fun y => stepF s' o (a.take i) y || (List.range j).any fun k => decide ((y : Int) = z + (k : Nat) * s'))))
          ⟨e, _, rfl, by rw [hm']; congr 2; exact mkB_congr fun y _ => by simp⟩ ?_ ?_
        · rintro j σ H'' hj ⟨e', y', rfl, hm''⟩
          have hlt := nRng_up hs hj
          have hge : 0 ≤ (j : Int) * s' := Int.mul_nonneg (by omega) (by omega)
          walk_at "rd"
          refine rd_setL hm'' (ixN_of (by omega) (by rw [mkB_len]; omega)) ?_
          rw [mkB_set _ _ (by omega)]
          refine ⟨ext_write e' hmn, _, rfl, ?_⟩
          rw [upd_same]
          congr 2
          refine mkB_congr fun y hy => ?_
          rw [List.range_succ, List.any_append]
          by_cases hyz : y = (z + (j : Int) * s').toNat
          · rw [if_pos hyz]
            have : (y : Int) = z + (j : Nat) * s' := by omega
            simp [this]
          · rw [if_neg hyz]
            have : (List.any [j] fun k => decide ((y : Int) = z + (k : Nat) * s')) = false := by
              simp
              omega
            rw [this, Bool.or_false]
        · rintro σ H'' ⟨e', y', rfl, hm''⟩
          refine ⟨e', _, _, rfl, ?_⟩
          rw [hm'']
          congr 2
          refine mkB_congr fun y hy => ?_
          rw [htake]
          unfold stepF
          rw [List.any_append, Bool.or_assoc]
          congr 2
          rw [Bool.eq_iff_iff, List.any_eq_true]
          simp only [List.mem_range, decide_eq_true_eq, List.any_cons, List.any_nil, Bool.or_false, Bool.and_eq_true, beq_iff_eq]
          constructor
          · rintro ⟨k, hk, hy'⟩
            have hge : 0 ≤ (k : Int) * s' := Int.mul_nonneg (by omega) (by omega)
            refine ⟨by omega, ?_⟩
            rw [show (y : Int) - z = s' * (k : Int) by rw [Int.mul_comm]; omega]
            exact Int.mul_emod_right _ _
          · rintro ⟨hy1, hy2⟩
            obtain ⟨k, hk1, hk2⟩ := nRng_all (n := n) hs hy1 (by omega) hy2
            exact ⟨k, hk1, hk2⟩
      · rintro σ H4 ⟨e4, x', y', rfl, hm4⟩
        rw [List.length_map, List.take_length] at hm4
        walk_at "rd"
        refine q m2 H4 e4 hmn ?_
        rw [hm4]
        congr 2
        exact mkB_congr fun y _ => stepF_fn hg.ok y
theorem alike_cut {n d : Nat} {g : Nat → Bool} (hd : d ≤ n) (hz : n % d = 0) : PyData.eqv (.list (dB (n - d) fun k => g (d + k))) (.list (dB (n - d) g)) = true ↔ Alike g 0 n d := by
  rw [eqv_dB]
  constructor
  · intro h
    refine ⟨hz, fun i hi => ?_⟩
    have := h i (by omega)
    rw [show 0 + i + d = d + i by omega, this, Nat.zero_add]
  · intro h i hi
    have := h.2 i (by omega)
    rw [show 0 + i + d = d + i by omega, Nat.zero_add] at this
    exact this
noncomputable def sp_least_step (K : PySem.W.Frag) : Sp := fun vs H Q _ => ∃ (p : Addr) (n : Nat) (g : Nat → Bool), vs = [.ref p] ∧ 1 ≤ n ∧ n ≤ 20000 ∧ H p = some (.lst (mkB n g)) ∧
  ∀ (d : Nat) H', Ext H H' → 1 ≤ d → d ≤ n → Alike g 0 n d → (∀ e, 1 ≤ e → e < d → ¬ Alike g 0 n e) → Q (.int d) H'
noncomputable abbrev s_least_step : Stmt := top 25
theorem sc_least_step : FnScope ["turn", "whole", "step"] ["turn"] (defScope s_least_step) := ⟨rfl, rfl, rfl, by decide +kernel, rfl, by decide +kernel, by decide +kernel⟩
theorem ok_least_step {P : Program} {w : World} {K : PySem.W.Frag} {mg : Str → Option Value} {base : Heap} (D : Dfn K mg "least_step" s_least_step ["turn"]) (T : Blt mg) : Cal P w K mg base "least_step" 1 ["turn"] (sp_least_step K) := by
  have nd := (sc_least_step).nd
  refine D.ok sc_least_step (fun vs H Q E h => ?_) (fun X hX H vs Q E h => ?_)
  · obtain ⟨p, n, g, rfl, _⟩ := h; rfl
  · obtain ⟨f, cdv, A, outer, s, H0, E0, rfl, hr⟩ := hX
    obtain ⟨p, n, g, rfl, hn1, hn2, hp, q⟩ := h
    refine ⟨_, (no_implicit_lambda% (pss_cons (no_implicit_lambda% (ps_set (i := 1) nd rfl (Or.inl rfl) (no_implicit_lambda% (pe_callB (call_lenK K) rfl T.len_ PySem.boot_len (no_implicit_lambda% (pa_cons (no_implicit_lambda% (pv 0)) pa_nil))))))
        (no_implicit_lambda% (pss_cons (no_implicit_lambda% (ps_set (i := 2) nd rfl (Or.inl rfl) pe_int))
        (no_implicit_lambda% (pss_cons (no_implicit_lambda% (ps_whileJ PassesOwn.never (no_implicit_lambda% (PW.pt (pw_or (no_implicit_lambda% (pt_cmpR op_ne (no_implicit_lambda% (pe_op op_mod (no_implicit_lambda% (pv 1)) (no_implicit_lambda% (pv 2)))) pe_int (nomark _))) (pw_or1 (no_implicit_lambda% (pt_cmpR (op_neD hr) (no_implicit_lambda% (pe_slice (sl_listK K) (no_implicit_lambda% (pv 0)) (po_some (no_implicit_lambda% (pv 2))) po_none)) (no_implicit_lambda% (pe_slice (sl_listK K) (no_implicit_lambda% (pv 0)) po_none (po_some (no_implicit_lambda% (pe_op op_sub (no_implicit_lambda% (pv 1)) (no_implicit_lambda% (pv 2))))))) (nomark _))))))) (no_implicit_lambda% (pss_one (no_implicit_lambda% (ps_aug (i := 2) nd rfl (Or.inl rfl) pe_int ip_add))))))
        (no_implicit_lambda% (pss_one (no_implicit_lambda% (ps_ret (no_implicit_lambda% (pv 2)))))))))))), ?_⟩
    walk_at "rd"
    refine rd_lenL (SqL.of hp) ?_
    rw [mkB_len]
    walk_at "rd"
    refine rd_while (fun m σ H' => Ext H H' ∧ ∃ d : Nat, σ = [some (.ref p), some (.int n), some (.int d)] ∧ 1 ≤ d ∧ d ≤ n ∧ m = n - d ∧ ∀ e, 1 ≤ e → e < d → ¬ Alike g 0 n e)
      (fun σ H' => Ext H H' ∧ ∃ d : Nat, σ = [some (.ref p), some (.int n), some (.int d)] ∧ 1 ≤ d ∧ d ≤ n ∧ Alike g 0 n d ∧ ∀ e, 1 ≤ e → e < d → ¬ Alike g 0 n e) (n - 1)
      ⟨Ext.rfl' H, 1, rfl, Nat.le_refl _, hn1, rfl, fun e h1 h2 => by omega⟩ ?_ ?_
    rotate_left
    · rintro σ H' ⟨e, d, rfl, h1, h2, ha, hf⟩
      walk_at "rd"
      exact q d H' e h1 h2 ha hf
    rintro m σ H' ⟨e, d, rfl, h1, h2, rfl, hf⟩
    have hp' := e _ _ hp
    have hmod : ((n : Int) % (d : Int) = 0) ↔ n % d = 0 := by
      have : (n : Int) % (d : Int) = ((n % d : Nat) : Int) := rfl
      omega
    have next : ∀ H2, Ext H' H2 → ¬ Alike g 0 n d → ∃ m', m' < n - d ∧ Ext H H2 ∧ ∃ d' : Nat, [some (V.ref p), some (V.int n), some (V.int ((d : Int) + 1))] = [some (V.ref p), some (V.int n), some (V.int d')] ∧ 1 ≤ d' ∧ d' ≤ n ∧ m' = n - d' ∧ ∀ e, 1 ≤ e → e < d' → ¬ Alike g 0 n e := by
      intro H2 e2 hna
      have hlt : d < n := by
        rcases Nat.lt_or_ge d n with h | h
        · exact h
        · have : d = n := by omega
          subst this
          exact absurd ⟨Nat.mod_self d, fun i hi => by omega⟩ hna
      refine ⟨n - (d + 1), by omega, e.trans e2, d + 1, rfl, by omega, by omega, rfl, fun e' h3 h4 => ?_⟩
      rcases Nat.lt_or_ge e' d with h5 | h5
      · exact hf e' h3 h5
      · have : e' = d := by omega
        subst this
        exact hna
    walk_at "rd"
    by_cases hz : (n : Int) % (d : Int) = 0
    · rw [decide_eq_true hz]
      refine iteF ?_
      walk_at "rd"
      refine rd_slL (SqL.of hp') (rd_new fun p1 H1 e1 hp1 _ => ?_)
      walk_at "rd"
      refine rd_slL (SqL.of (e1 _ _ hp')) (rd_new fun p2 H2 e2 hp2 _ => ?_)
      rw [mkB_drop (by omega) (by omega), Int.toNat_natCast] at hp1
      rw [mkB_cut (by omega) (by omega), show ((n : Int) - (d : Int)).toNat = n - d by omega] at hp2
      refine ⟨1, 1, _, _, rep_mkB (e2 _ _ hp1), rep_mkB hp2, by decide, ?_⟩
      walk_at "rd"
      have hal := alike_cut (g := g) h2 (hmod.mp hz)
      cases hc : PyData.eqv (.list (dB (n - d) fun k => g (d + k))) (.list (dB (n - d) g)) with
      | true =>
        exact iteF ⟨e.trans (e1.trans e2), d, rfl, h1, h2, hal.mp hc, hf⟩
      | false =>
        refine iteT ⟨_, fun _ _ h => h, ?_⟩
        walk_at "rd"
        exact next H2 (e1.trans e2) fun h => by rw [hal.mpr h] at hc; cases hc
    · rw [decide_eq_false hz]
      refine iteT (iteT ⟨_, fun _ _ h => h, ?_⟩)
      walk_at "rd"
      exact next H' (Ext.rfl' H') fun h => hz (hmod.mpr h.1)
theorem alike_at {f : Nat → Bool} {b n d : Nat} : Alike (fun k => f (b + k)) 0 n d ↔ Alike f b n d := by
  unfold Alike
  simp only [Nat.zero_add, Nat.add_assoc]
noncomputable def sp_stair_of_marks (K : PySem.W.Frag) : Sp := fun vs H Q _ => ∃ (p : Addr) (b n : Nat) (f : Nat → Bool), vs = [.ref p, .int b] ∧ 1 ≤ n ∧ b + n ≤ 20000 ∧ H p = some (.lst (mkB (b + n) f)) ∧ Per f b n ∧
  ∀ v (l d : Nat) H', Ext H H' → Least f d l → l ≤ b → d ≤ n → StAt H' v l d (row f 0 l) (row f l d) → Q v H'
noncomputable abbrev s_stair_of_marks : Stmt := top 26
theorem sc_stair_of_marks : FnScope ["marks", "base", "step", "low", "once", "again"] ["marks", "base"] (defScope s_stair_of_marks) := ⟨rfl, rfl, rfl, by decide +kernel, rfl, by decide +kernel, by decide +kernel⟩
theorem ok_stair_of_marks {P : Program} {w : World} {K : PySem.W.Frag} {mg : Str → Option Value} {base : Heap} (D : Dfn K mg "stair_of_marks" s_stair_of_marks ["marks", "base"]) (T : Blt mg) (C_least_step : Cal P w K mg base "least_step" 1 ["turn"] (sp_least_step K)) : Cal P w K mg base "stair_of_marks" 2 ["marks", "base"] (sp_stair_of_marks K) := by
  have nd := (sc_stair_of_marks).nd
  refine D.ok sc_stair_of_marks (fun vs H Q E h => ?_) (fun X hX H vs Q E h => ?_)
  · obtain ⟨p, b, n, f, rfl, _⟩ := h; rfl
  · obtain ⟨f, cdv, A, outer, s, H0, E0, rfl, hr⟩ := hX
    obtain ⟨p, b, n, g, rfl, hn1, hbn, hp, hper, q⟩ := h
    refine ⟨_, (no_implicit_lambda% (pss_cons (no_implicit_lambda% (ps_set (i := 2) nd rfl (Or.inl rfl) (no_implicit_lambda% (pe_cal C_least_step hr (no_implicit_lambda% (pa_cons (no_implicit_lambda% (pe_slice (sl_listK K) (no_implicit_lambda% (pv 0)) (po_some (no_implicit_lambda% (pv 1))) po_none)) pa_nil))))))
        (no_implicit_lambda% (pss_cons (no_implicit_lambda% (ps_set (i := 3) nd rfl (Or.inl rfl) (no_implicit_lambda% (pv 1))))
        (no_implicit_lambda% (pss_cons (no_implicit_lambda% (ps_whileJ PassesOwn.never (no_implicit_lambda% (PW.pt (pw_and (no_implicit_lambda% (pt_cmpR op_gt (no_implicit_lambda% (pv 3)) pe_int (nomark _))) (pw_and1 (no_implicit_lambda% (pt_cmpR op_eq (no_implicit_lambda% (pe_ix (ix_listK K) (no_implicit_lambda% (pv 0)) (no_implicit_lambda% (pe_op op_sub (no_implicit_lambda% (pv 3)) pe_int)) (fun _ _ => rfl))) (no_implicit_lambda% (pe_ix (ix_listK K) (no_implicit_lambda% (pv 0)) (no_implicit_lambda% (pe_op op_add (no_implicit_lambda% (pe_op op_sub (no_implicit_lambda% (pv 3)) pe_int)) (no_implicit_lambda% (pv 2)))) (fun _ _ => rfl))) (nomark _))))))) (no_implicit_lambda% (pss_one (no_implicit_lambda% (ps_aug (i := 3) nd rfl (Or.inl rfl) pe_int ip_sub))))))
        (no_implicit_lambda% (pss_cons (no_implicit_lambda% (ps_setComp (i := 4) ["number"] [0] nd rfl (Or.inl rfl) (no_implicit_lambda% (pi_range1 rfl T.range_ (no_implicit_lambda% (pa_cons (no_implicit_lambda% (pv 3)) pa_nil)))) (fun _ => (no_implicit_lambda% (pg_name (i := 0) (show (["number", "marks"] : List Str).Nodup from by decide +kernel) rfl (Or.inl rfl) (Or.inr rfl)))) (fun _ => (pcs_one (no_implicit_lambda% (pt_val (no_implicit_lambda% (pe_ix (ix_listK K) (no_implicit_lambda% (pv 1)) (no_implicit_lambda% (pv 0)) (fun _ _ => rfl))))))) (fun _ => (no_implicit_lambda% (pv 0)))))
        (no_implicit_lambda% (pss_cons (no_implicit_lambda% (ps_setComp (i := 5) ["number"] [0] nd rfl (Or.inl rfl) (no_implicit_lambda% (pi_range2 rfl T.range_ (no_implicit_lambda% (pa_cons (no_implicit_lambda% (pv 3)) (no_implicit_lambda% (pa_cons (no_implicit_lambda% (pe_op op_add (no_implicit_lambda% (pv 3)) (no_implicit_lambda% (pv 2)))) pa_nil)))))) (fun _ => (no_implicit_lambda% (pg_name (i := 0) (show (["number", "marks"] : List Str).Nodup from by decide +kernel) rfl (Or.inl rfl) (Or.inr rfl)))) (fun _ => (pcs_one (no_implicit_lambda% (pt_val (no_implicit_lambda% (pe_ix (ix_listK K) (no_implicit_lambda% (pv 1)) (no_implicit_lambda% (pv 0)) (fun _ _ => rfl))))))) (fun _ => (no_implicit_lambda% (pv 0)))))
        (no_implicit_lambda% (pss_one (no_implicit_lambda% (ps_ret (no_implicit_lambda% (pe_tup (no_implicit_lambda% (pa_cons (no_implicit_lambda% (pv 3)) (no_implicit_lambda% (pa_cons (no_implicit_lambda% (pv 2)) (no_implicit_lambda% (pa_cons (no_implicit_lambda% (pe_callTy (call_tupK K) rfl T.tuple_ PyProof.Rows.boot_tuple (no_implicit_lambda% (pa_cons (no_implicit_lambda% (pv 4)) pa_nil)))) (no_implicit_lambda% (pa_cons (no_implicit_lambda% (pe_callTy (call_tupK K) rfl T.tuple_ PyProof.Rows.boot_tuple (no_implicit_lambda% (pa_cons (no_implicit_lambda% (pv 5)) pa_nil)))) pa_nil)))))))))))))))))))))))), ?_⟩
    walk_at "rd"
    refine rd_slL (SqL.of hp) (rd_new fun p1 H1 e1 hp1 _ => ?_)
    rw [mkB_drop (by omega) (by omega), Int.toNat_natCast, show b + n - b = n by omega] at hp1
    walk_at "rd"
    refine ⟨p1, n, _, rfl, hn1, by omega, hp1, fun d H2 e2 hd1 hd2 hal hfirst => ?_⟩
    have hal' := alike_at.mp hal
    have hfirst' : ∀ e, 1 ≤ e → e < d → ¬ Alike g b n e := fun e h3 h4 h5 => hfirst e h3 h4 (alike_at.mpr h5)
    have e02 : Ext H H2 := e1.trans e2
    have hp2 := e02 _ _ hp
    walk_at "rd"
    refine rd_while (fun m σ H' => H' = H2 ∧ ∃ l : Nat, σ = [some (.ref p), some (.int b), some (.int d), some (.int l), none, none] ∧ l ≤ b ∧ m = l ∧ ∀ x, l ≤ x → x < b → g x = g (x + d))
      (fun σ H' => H' = H2 ∧ ∃ l : Nat, σ = [some (.ref p), some (.int b), some (.int d), some (.int l), none, none] ∧ l ≤ b ∧ (∀ x, l ≤ x → x < b → g x = g (x + d)) ∧ (l = 0 ∨ g (l - 1) ≠ g (l - 1 + d))) b
      ⟨rfl, b, rfl, Nat.le_refl _, rfl, fun x h1 h2 => by omega⟩ ?_ ?_
    · rintro m σ H' ⟨rfl, l, rfl, hl, rfl, hdown⟩
      walk_at "rd"
      by_cases h0 : (0 : Int) < (m : Int)
      · rw [decide_eq_true h0]
        refine iteT ?_
        walk_at "rd"
        refine rd_ixL (SqL.of hp2) (mkB_at (by omega) (by omega)) ?_
        walk_at "rd"
        refine rd_ixL (SqL.of hp2) (mkB_at (by omega) (by omega)) ?_
        walk_at "rd"
        rw [show ((m : Int) - 1).toNat = m - 1 by omega, show ((m : Int) - 1 + (d : Int)).toNat = m - 1 + d by omega]
        cases hc : g (m - 1) == g (m - 1 + d) with
        | true =>
          refine iteT ⟨_, fun _ _ h => h, ?_⟩
          walk_at "rd"
          refine ⟨m - 1, by omega, rfl, m - 1, by rw [show ((m - 1 : Nat) : Int) = (m : Int) - 1 by omega]; rfl, by omega, rfl, fun x h1 h2 => ?_⟩
          rcases Nat.lt_or_ge x m with h3 | h3
          · have : x = m - 1 := by omega
            rw [this]
            exact eq_of_beq hc
          · exact hdown x h3 h2
        | false => exact iteF ⟨rfl, m, rfl, hl, hdown, .inr fun h => by rw [h] at hc; simp at hc⟩
      · rw [decide_eq_false h0]
        exact iteF (iteF ⟨rfl, m, rfl, hl, hdown, .inl (by omega)⟩)
    rintro σ H' ⟨rfl, l, rfl, hl, hdown, hstop⟩
    have hleast : Least g d l := least_of hper hn1 hd1 hal' hfirst' hl hdown hstop
    walk_at "rd"
    refine rd_i1x (by omega) ?_
    rw [Int.toNat_natCast]
    refine comp_range (fun i ys H3 => H3 = H' ∧ ys = (row g 0 i).map V.int) (small_line (by omega)) ⟨rfl, rfl⟩ ?_ ?_ ?_
    · rintro i ys H3 _ ⟨rfl, rfl⟩
      rw [List.length_map]; exact row_len g 0 i
    · rintro i ys H3 hi ⟨rfl, hy⟩
      walk_at "rd"
      refine rd_ixL (SqL.of hp2) (mkB_at (by omega) (by omega)) ?_
      walk_at "rd"
      rw [show ((0 : Int) + (i : Int)).toNat = i by omega]
      have e0 : g (0 + i) = g i := by rw [Nat.zero_add]
      cases hg : g i with
      | true =>
        refine iteT ?_
        walk_at "rd"
        refine ⟨rfl, ?_⟩
        rw [← row_step hy (e0.trans hg)]
        congr 3
        all_goals omega
      | false => exact iteF ⟨rfl, row_skip hy (e0.trans hg)⟩
    rintro ys H3 p3 ⟨rfl, rfl⟩ hp3
    have e4 : Ext H3 (upd H3 p3 (.lst ((row g 0 l).map V.int))) := ext_upd hp3
    have h4 : (upd H3 p3 (.lst ((row g 0 l).map V.int))) p3 = _ := upd_same
    generalize upd H3 p3 (.lst ((row g 0 l).map V.int)) = H4 at e4 h4
    have hp4 := e4 _ _ hp2
    walk_at "rd"
    refine rd_i2x (by omega) ?_
    rw [show ((l : Int) + (d : Int) - (l : Int)).toNat = d by omega]
    refine comp_range (fun i ys H5 => H5 = H4 ∧ ys = (row g l i).map V.int) (small_line (by omega)) ⟨rfl, rfl⟩ ?_ ?_ ?_
    · rintro i ys H5 _ ⟨rfl, rfl⟩
      rw [List.length_map]; exact row_len g _ i
    · rintro i ys H5 hi ⟨rfl, hy⟩
      walk_at "rd"
      refine rd_ixL (SqL.of hp4) (mkB_at (by omega) (by omega)) ?_
      walk_at "rd"
      rw [show ((l : Int) + (i : Int)).toNat = l + i by omega]
      cases hg : g (l + i) with
      | true =>
        refine iteT ?_
        walk_at "rd"
        refine ⟨rfl, ?_⟩
        rw [← row_step hy hg]
        congr 3
        all_goals omega
      | false => exact iteF ⟨rfl, row_skip hy hg⟩
    rintro ys H5 p5 ⟨rfl, rfl⟩ hp5
    have e6 : Ext H5 (upd H5 p5 (.lst ((row g l d).map V.int))) := ext_upd hp5
    have h6 : (upd H5 p5 (.lst ((row g l d).map V.int))) p5 = _ := upd_same
    generalize upd H5 p5 (.lst ((row g l d).map V.int)) = H6 at e6 h6
    walk_at "rd"
    refine rd_tupL (SqL.of (e6 _ _ h4)) (rd_new fun t1 H7 e7 ht1 _ => ?_)
    walk_at "rd"
    refine rd_tupL (SqL.of (e7 _ _ h6)) (rd_new fun t2 H8 e8 ht2 _ => ?_)
    walk_at "rd"
    refine ⟨small_line (by simp), rd_new fun t H9 e9 ht _ => ?_⟩
    exact q _ l d H9 (e02.trans (e4.trans (e6.trans (e7.trans (e8.trans e9))))) hleast hl hd2 ⟨t, t1, t2, rfl, ht, e9 _ _ (e8 _ _ ht1), e9 _ _ ht2⟩
noncomputable def sp_least (K : PySem.W.Frag) : Sp := fun vs H Q _ => ∃ v b s o a, vs = [v] ∧ StAt H v b s o a ∧ Gd b s o a ∧
  ∀ v' (l d : Nat) H', Ext H H' → Least (fn b s o a) d l → (l : Int) ≤ b → (d : Int) ≤ s → StAt H' v' l d (row (fn b s o a) 0 l) (row (fn b s o a) l d) → Q v' H'
noncomputable abbrev s_least : Stmt := top 27
theorem sc_least : FnScope ["stair"] ["stair"] (defScope s_least) := ⟨rfl, rfl, rfl, by decide +kernel, rfl, by decide +kernel, by decide +kernel⟩
theorem ok_least {P : Program} {w : World} {K : PySem.W.Frag} {mg : Str → Option Value} {base : Heap} (D : Dfn K mg "least" s_least ["stair"]) (T : Blt mg) (C_stair_of_marks : Cal P w K mg base "stair_of_marks" 2 ["marks", "base"] (sp_stair_of_marks K)) (C_marks_below : Cal P w K mg base "marks_below" 1 ["stair", "end"] (sp_marks_below K)) (C_refuse_bad_stair : Cal P w K mg base "refuse_bad_stair" 6 ["thing"] (sp_refuse_bad_stair K)) : Cal P w K mg base "least" 7 ["stair"] (sp_least K) := by
  have nd := (sc_least).nd
  refine D.ok sc_least (fun vs H Q E h => ?_) (fun X hX H vs Q E h => ?_)
  · obtain ⟨v, b, s, o, a, rfl, _⟩ := h; rfl
  · obtain ⟨f, cdv, A, outer, s, H0, E0, rfl, hr⟩ := hX
    obtain ⟨v, b, s', o, a, rfl, hv, hg, q⟩ := h
    have hb0 := hg.ok.hb
    have hs0 := hg.ok.hs
    have hb3 := hg.b3
    have hs8 := hg.s8
    refine ⟨_, (no_implicit_lambda% (pss_cons (no_implicit_lambda% (ps_expr (no_implicit_lambda% (pe_cal C_refuse_bad_stair hr (no_implicit_lambda% (pa_cons (no_implicit_lambda% (pv 0)) pa_nil))))))
        (no_implicit_lambda% (pss_one (no_implicit_lambda% (ps_ret (no_implicit_lambda% (pe_cal C_stair_of_marks hr (no_implicit_lambda% (pa_cons (no_implicit_lambda% (pe_cal C_marks_below hr (no_implicit_lambda% (pa_cons (no_implicit_lambda% (pv 0)) (no_implicit_lambda% (pa_cons (no_implicit_lambda% (pe_op op_add (no_implicit_lambda% (pe_ix (ix_tupK K) (no_implicit_lambda% (pv 0)) pe_int (fun _ _ => rfl))) (no_implicit_lambda% (pe_ix (ix_tupK K) (no_implicit_lambda% (pv 0)) pe_int (fun _ _ => rfl))))) pa_nil)))))) (no_implicit_lambda% (pa_cons (no_implicit_lambda% (pe_ix (ix_tupK K) (no_implicit_lambda% (pv 0)) pe_int (fun _ _ => rfl))) pa_nil)))))))))))), ?_⟩
    walk_at "rd"
    refine ⟨v, b, s', o, a, rfl, hv, hg, ?_⟩
    obtain ⟨p, oq, ar, rfl, h1, h2, h3⟩ := id hv
    walk_at "rd"
    refine rd_ixT (SqT.of h1) rfl ?_
    walk_at "rd"
    refine rd_ixT (SqT.of h1) rfl ?_
    walk_at "rd"
    refine ⟨_, b + s', b, s', o, a, rfl, hv, hg, by omega, by omega, fun m H1 e1 hmn hm => ?_⟩
    walk_at "rd"
    refine rd_ixT (SqT.of (e1 _ _ h1)) rfl ?_
    walk_at "rd"
    rw [show (b + s').toNat = b.toNat + s'.toNat by omega] at hm
    refine ⟨m, b.toNat, s'.toNat, _, by rw [Int.toNat_of_nonneg hb0]; rfl, by omega, by omega, hm, fn_per hg.ok, fun v' l d H' e' hL hl hd hst => ?_⟩
    exact q v' l d H' (e1.trans e') hL (by omega) (by omega) hst
end My
set_option Elab.async false
set_option linter.all false
set_option maxRecDepth 100000
namespace My
open PySem L2 St
set_option maxHeartbeats 4000000
local macro_rules | `(tactic| walk_at "cond") => `(tactic| first | decide | omega | (dsimp only; omega) | (unfold CMul; omega) | (unfold CPow; exact ⟨by decide, by decide, by decide⟩) | (dsimp only; exact ⟨by omega, by omega⟩) | exact .inr ⟨by decide, by decide⟩ | exact .inl ⟨by decide, by decide⟩ | (unfold SmallR; omega))
local macro_rules | `(tactic| walk_at "sq") => `(tactic| first | assumption | exact SqL.of (by assumption) | exact SqT.of (by assumption) | exact SqL.of (by solve_by_elim) | exact SqT.of (by solve_by_elim) | solve_by_elim)
local macro_rules | `(tactic| walk_at "rd") => `(tactic| repeat (first | with_reducible refine rd_seq ?_ | with_reducible refine rd_ret ?_ | with_reducible refine rd_retN ?_ | with_reducible refine rd_asg ?_ | with_reducible refine rd_drop ?_ | with_reducible refine rd_ifS ?_ | with_reducible refine rd_next ?_ | with_reducible refine rd_name ?_ | ((with_reducible apply rd_var); (exact rfl)) | with_reducible refine rd_c ?_ | with_reducible refine rd_op ?_ | with_reducible refine rd_un ?_ | with_reducible refine rd_CB ?_ | with_reducible refine rd_cons ?_ | with_reducible refine rd_nil ?_ | with_reducible refine rd_ints ?_ | with_reducible refine rd_test ?_ | with_reducible refine rd_B ?_ | with_reducible refine rd_exb ?_ | with_reducible refine rd_not ?_ | with_reducible refine rd_and ?_ | with_reducible refine rd_or ?_ | with_reducible refine rd_andV ?_ | with_reducible refine rd_orV ?_ | with_reducible refine rd_notV ?_ | with_reducible refine rd_ifE ?_ | with_reducible refine rd_yes ?_ | with_reducible refine rd_I0 ?_ | ((with_reducible apply rd_I); (walk_at "cond")) | with_reducible refine rd_U ?_ | with_reducible refine rd_EqI ?_ | with_reducible refine rd_NeI ?_ | with_reducible refine rd_EqB ?_ | with_reducible refine rd_NeB ?_ | with_reducible refine rd_call ?_ | with_reducible refine rd_BM ?_ | with_reducible refine rd_tup ?_ | with_reducible refine rd_lst ?_ | with_reducible refine rd_sl ?_ | with_reducible refine rd_noPart ?_ | with_reducible refine rd_part ?_ | with_reducible refine rd_exi ?_ | with_reducible refine rd_chain ?_ | with_reducible refine rd_comp ?_ | with_reducible refine rd_iL ?_ | with_reducible refine rd_iT ?_ | with_reducible refine rd_i1 ?_ | with_reducible refine rd_i2 ?_ | with_reducible refine rd_i3 ?_ | with_reducible refine rd_for ?_ | with_reducible refine rd_tTru ?_ | with_reducible refine rd_intB ?_ | with_reducible refine rd_max2 ?_ | with_reducible refine rd_min2 ?_ | with_reducible refine rd_sub ?_ | with_reducible refine rd_gcons ?_ | with_reducible refine rd_gnil ?_ | ((with_reducible apply rd_aug); (exact rfl)) | with_reducible refine rd_ipI ?_ | with_reducible refine rd_zip ?_ | with_reducible refine rd_rev ?_ | with_reducible refine rd_par ?_ | with_reducible refine rd_par2 ?_ | with_reducible refine rd_lam ?_ | with_reducible refine rd_calV ?_ | with_reducible refine rd_raise ?_ | with_reducible refine rd_fs ?_ | with_reducible refine rd_try ?_ | with_reducible refine rd_bseq ?_ | with_reducible refine rd_bnext ?_ | with_reducible refine rd_bplain ?_ | with_reducible refine rd_bif ?_ | with_reducible refine rd_bcall ?_ | dsimp only))
noncomputable def SN (H : Hp) (v : V) (b s : Nat) (o a : List Int) : Prop := StAt H v b s o a ∧ Gd b s o a
theorem SN.ext {H H' : Hp} (e : Ext H H') {v : V} {b s : Nat} {o a : List Int} (h : SN H v b s o a) : SN H' v b s o a := ⟨h.1.ext e, h.2⟩
theorem SN.of {H : Hp} {v : V} {b s : Int} {o a : List Int} (h : StAt H v b s o a) (g : Gd b s o a) : SN H v b.toNat s.toNat o a := by
  have hb := g.ok.hb
  have hs := g.ok.hs
  have e1 : ((b.toNat : Nat) : Int) = b := Int.toNat_of_nonneg hb
  have e2 : ((s.toNat : Nat) : Int) = s := Int.toNat_of_nonneg (by omega)
  unfold SN
  rw [e1, e2]
  exact ⟨h, g⟩
theorem SN.s1 {H : Hp} {v : V} {b s : Nat} {o a : List Int} (h : SN H v b s o a) : 1 ≤ s := by have := h.2.ok.hs; omega
theorem SN.s8 {H : Hp} {v : V} {b s : Nat} {o a : List Int} (h : SN H v b s o a) : s ≤ 840 := by have := h.2.s8; omega
theorem SN.b3 {H : Hp} {v : V} {b s : Nat} {o a : List Int} (h : SN H v b s o a) : b ≤ 3000 := by have := h.2.b3; omega
theorem fn_perN {b s : Nat} {o a : List Int} (g : Gd b s o a) : Per (fn b s o a) b s := by
  have := fn_per g.ok
  simpa using this
end My
set_option Elab.async false
set_option linter.all false
set_option maxRecDepth 100000
namespace My
open PySem L2 St
set_option maxHeartbeats 4000000
local macro_rules | `(tactic| walk_at "cond") => `(tactic| first | decide | omega | (dsimp only; omega) | (unfold CMul; omega) | (unfold CPow; exact ⟨by decide, by decide, by decide⟩) | (dsimp only; exact ⟨by omega, by omega⟩) | exact .inr ⟨by decide, by decide⟩ | exact .inl ⟨by decide, by decide⟩ | (unfold SmallR; omega))
local macro_rules | `(tactic| walk_at "sq") => `(tactic| first | assumption | exact SqL.of (by assumption) | exact SqT.of (by assumption) | exact SqL.of (by solve_by_elim) | exact SqT.of (by solve_by_elim) | solve_by_elim)
local macro_rules | `(tactic| walk_at "rd") => `(tactic| repeat (first | with_reducible refine rd_seq ?_ | with_reducible refine rd_ret ?_ | with_reducible refine rd_retN ?_ | with_reducible refine rd_asg ?_ | with_reducible refine rd_drop ?_ | with_reducible refine rd_ifS ?_ | with_reducible refine rd_next ?_ | with_reducible refine rd_name ?_ | ((with_reducible apply rd_var); (exact rfl)) | with_reducible refine rd_c ?_ | with_reducible refine rd_op ?_ | with_reducible refine rd_un ?_ | with_reducible refine rd_CB ?_ | with_reducible refine rd_cons ?_ | with_reducible refine rd_nil ?_ | with_reducible refine rd_ints ?_ | with_reducible refine rd_test ?_ | with_reducible refine rd_B ?_ | with_reducible refine rd_exb ?_ | with_reducible refine rd_not ?_ | with_reducible refine rd_and ?_ | with_reducible refine rd_or ?_ | with_reducible refine rd_andV ?_ | with_reducible refine rd_orV ?_ | with_reducible refine rd_notV ?_ | with_reducible refine rd_ifE ?_ | with_reducible refine rd_yes ?_ | with_reducible refine rd_I0 ?_ | ((with_reducible apply rd_I); (walk_at "cond")) | with_reducible refine rd_U ?_ | with_reducible refine rd_EqI ?_ | with_reducible refine rd_NeI ?_ | with_reducible refine rd_EqB ?_ | with_reducible refine rd_NeB ?_ | with_reducible refine rd_call ?_ | with_reducible refine rd_BM ?_ | with_reducible refine rd_tup ?_ | with_reducible refine rd_lst ?_ | with_reducible refine rd_sl ?_ | with_reducible refine rd_noPart ?_ | with_reducible refine rd_part ?_ | with_reducible refine rd_exi ?_ | with_reducible refine rd_chain ?_ | with_reducible refine rd_comp ?_ | with_reducible refine rd_iL ?_ | with_reducible refine rd_iT ?_ | with_reducible refine rd_i1 ?_ | with_reducible refine rd_i2 ?_ | with_reducible refine rd_i3 ?_ | with_reducible refine rd_for ?_ | with_reducible refine rd_tTru ?_ | with_reducible refine rd_intB ?_ | with_reducible refine rd_max2 ?_ | with_reducible refine rd_min2 ?_ | with_reducible refine rd_sub ?_ | with_reducible refine rd_gcons ?_ | with_reducible refine rd_gnil ?_ | ((with_reducible apply rd_aug); (exact rfl)) | with_reducible refine rd_ipI ?_ | with_reducible refine rd_zip ?_ | with_reducible refine rd_rev ?_ | with_reducible refine rd_par ?_ | with_reducible refine rd_par2 ?_ | with_reducible refine rd_lam ?_ | with_reducible refine rd_calV ?_ | with_reducible refine rd_raise ?_ | with_reducible refine rd_fs ?_ | with_reducible refine rd_try ?_ | with_reducible refine rd_bseq ?_ | with_reducible refine rd_bnext ?_ | with_reducible refine rd_bplain ?_ | with_reducible refine rd_bif ?_ | with_reducible refine rd_bcall ?_ | dsimp only))
theorem cut_tail (xs : List V) : cutV xs (some 1) none = xs.drop 1 := by
  unfold cutV
  rw [HT.sIx_none]
  have e : HT.sIx xs.length 0 (some 1) = min 1 xs.length := rfl
  rw [e]
  rcases Nat.lt_or_ge xs.length 1 with h | h
  · have : xs = [] := List.eq_nil_of_length_eq_zero (by omega)
    subst this
    rfl
  · rw [Nat.min_eq_left h]
    exact List.take_of_length_le (by rw [List.length_drop]; exact Nat.le_refl _)
noncomputable def sp__law_rises (K : PySem.W.Frag) : Sp := fun vs H Q _ => ∃ (p : Addr) (lo hi : Int) (xs : List Int), vs = [.ref p, .int lo, .int hi] ∧ H p = some (.tup (xs.map V.int)) ∧ xs.length ≤ 10000 ∧ Rising lo hi xs ∧ ∀ H', Ext H H' → Q (.bl true) H'
noncomputable abbrev s__law_rises : Stmt := top 35
theorem sc__law_rises : FnScope ["_law_row", "_law_low", "_law_high"] ["_law_row", "_law_low", "_law_high"] (defScope s__law_rises) := ⟨rfl, rfl, rfl, by decide +kernel, rfl, by decide +kernel, by decide +kernel⟩
theorem ok__law_rises {P : Program} {w : World} {K : PySem.W.Frag} {mg : Str → Option Value} {base : Heap} (D : Dfn K mg "_law_rises" s__law_rises ["_law_row", "_law_low", "_law_high"]) (T : Blt mg) (C__law_whole : Cal P w K mg base "_law_whole" 1 ["_law_found"] (sp__law_whole K)) : Cal P w K mg base "_law_rises" 2 ["_law_row", "_law_low", "_law_high"] (sp__law_rises K) := by
  have nd := (sc__law_rises).nd
  refine D.ok sc__law_rises (fun vs H Q E h => ?_) (fun X hX H vs Q E h => ?_)
  · obtain ⟨p, lo, hi, xs, rfl, _⟩ := h; rfl
  · obtain ⟨f, cdv, A, outer, s, H0, E0, rfl, hr⟩ := hX
    obtain ⟨p, lo, hi, xs, rfl, hp, hl, hr', q⟩ := h
    have hk : kindV H (.ref p) "tuple" := .inr ⟨rfl, _, hp⟩
    refine ⟨_, (no_implicit_lambda% (pss_cons (no_implicit_lambda% (ps_if (no_implicit_lambda% (PW.pt (pw_or (no_implicit_lambda% (pt_not (no_implicit_lambda% (pt_val (no_implicit_lambda% (pe_callB call_isi rfl T.isinstance_ PyProof.Rows.boot_isinstance (no_implicit_lambda% (pa_cons (no_implicit_lambda% (pv 0)) (no_implicit_lambda% (pa_cons (no_implicit_lambda% (pe_bltn (v := .ty "tuple") rfl T.tuple_ PyProof.Rows.boot_tuple rfl)) pa_nil)))))))))) (pw_or1 (no_implicit_lambda% (pt_not (no_implicit_lambda% (pt_val (no_implicit_lambda% (pe_callB (call_allL K rfl) rfl T.all_ PyProof.Rows.boot_all (no_implicit_lambda% (pa_cons (no_implicit_lambda% (pe_comp ["_law_part"] [] (no_implicit_lambda% (pi_tupK K (no_implicit_lambda% (pv 0)))) (fun _ => (no_implicit_lambda% (pg_name (i := 0) (show (["_law_part"] : List Str).Nodup from by decide +kernel) rfl (Or.inl rfl) (Or.inr rfl)))) (fun _ => pcs_nil) (fun _ => (no_implicit_lambda% (pe_cal C__law_whole hr (no_implicit_lambda% (pa_cons (no_implicit_lambda% (pv 0)) pa_nil))))))) pa_nil)))))))))))) (no_implicit_lambda% (pss_one (no_implicit_lambda% (ps_ret pe_bl)))) pss_nil))
        (no_implicit_lambda% (pss_one (no_implicit_lambda% (ps_ret (no_implicit_lambda% (pe_and (no_implicit_lambda% (pe_callB (call_allL K rfl) rfl T.all_ PyProof.Rows.boot_all (no_implicit_lambda% (pa_cons (no_implicit_lambda% (pe_comp ["_law_part"] [1, 2] (no_implicit_lambda% (pi_tupK K (no_implicit_lambda% (pv 0)))) (fun _ => (no_implicit_lambda% (pg_name (i := 0) (show (["_law_part", "_law_low", "_law_high"] : List Str).Nodup from by decide +kernel) rfl (Or.inl rfl) (Or.inr rfl)))) (fun _ => pcs_nil) (fun _ => (no_implicit_lambda% (pe_chain op_le op_lt (no_implicit_lambda% (pv 1)) (no_implicit_lambda% (pv 0)) (no_implicit_lambda% (pv 2))))))) pa_nil)))) (pe_one (no_implicit_lambda% (pe_callB (call_allL K rfl) rfl T.all_ PyProof.Rows.boot_all (no_implicit_lambda% (pa_cons (no_implicit_lambda% (pe_comp ["_law_one", "_law_two"] [] (no_implicit_lambda% (pi_zip K rfl T.zip_ (no_implicit_lambda% (pa_cons (no_implicit_lambda% (pv 0)) (no_implicit_lambda% (pa_cons (no_implicit_lambda% (pe_slice sl_tup1 (no_implicit_lambda% (pv 0)) (po_some pe_int) po_none)) pa_nil)))))) (fun _ => (no_implicit_lambda% (pg_tupK (n := 2) K rfl (pgs_cons (no_implicit_lambda% (pg_name (i := 0) (show (["_law_one", "_law_two"] : List Str).Nodup from by decide +kernel) rfl (Or.inl rfl) (Or.inr rfl))) (pgs_cons (no_implicit_lambda% (pg_name (i := 1) (show (["_law_one", "_law_two"] : List Str).Nodup from by decide +kernel) rfl (Or.inl rfl) (Or.inr rfl))) pgs_nil))))) (fun _ => pcs_nil) (fun _ => (no_implicit_lambda% (pe_cmpR op_lt (no_implicit_lambda% (pv 0)) (no_implicit_lambda% (pv 1)) (nomark _)))))) pa_nil))))))))))))), ?_⟩
    walk_at "rd"
    refine rd_isi hk (b := true) rfl ?_
    walk_at "rd"
    refine iteF ?_
    walk_at "rd"
    refine rd_iTx (SqT.of hp) ?_
    refine comp_tup (xs := xs.map V.int) (fun i ys H' => H' = H ∧ ys = (List.replicate i true).map V.bl) (small_line (by rw [List.length_map]; omega)) ⟨rfl, rfl⟩ ?_ ?_ ?_
    · rintro i ys H' _ ⟨rfl, rfl⟩
      exact ⟨SqT.of hp, by simp⟩
    · rintro i v ys H' hi' ⟨rfl, rfl⟩
      obtain ⟨x, rfl, hx⟩ := map_get hi'
      walk_at "rd"
      refine iteT ?_
      walk_at "rd"
      refine ⟨_, "int", rfl, rfl, ⟨rfl, ?_⟩⟩
      rw [List.replicate_succ', List.map_append]
      rfl
    rintro ys H' p1 ⟨rfl, rfl⟩ hp1
    have e1 : Ext H' (upd H' p1 (.lst ((List.replicate (xs.map V.int).length true).map V.bl))) := ext_upd hp1
    have h1 : (upd H' p1 (.lst ((List.replicate (xs.map V.int).length true).map V.bl))) p1 = _ := upd_same
    generalize upd H' p1 (.lst ((List.replicate (xs.map V.int).length true).map V.bl)) = H1 at e1 h1
    walk_at "rd"
    refine ⟨p1, _, rfl, SqL.of h1, ?_⟩
    rw [show (List.replicate (xs.map V.int).length true).all id = true by rw [List.all_eq_true]; intro b hb; rw [List.eq_of_mem_replicate hb]; rfl]
    walk_at "rd"
    refine iteF ?_
    walk_at "rd"
    have hp' := e1 _ _ hp
    refine rd_iTx (SqT.of hp') ?_
    refine comp_tup (xs := xs.map V.int) (fun i ys H' => H' = H1 ∧ ys = (List.replicate i true).map V.bl) (small_line (by rw [List.length_map]; omega)) ⟨rfl, rfl⟩ ?_ ?_ ?_
    · rintro i ys H' _ ⟨rfl, rfl⟩
      exact ⟨SqT.of hp', by simp⟩
    · rintro i v ys H' hi' ⟨rfl, rfl⟩
      obtain ⟨x, rfl, hx⟩ := map_get hi'
      have hb := hr'.2 x (List.mem_of_getElem? hx)
      walk_at "rd"
      refine iteT ?_
      walk_at "rd"
      rw [decide_eq_true hb.1]
      refine iteT ?_
      walk_at "rd"
      rw [decide_eq_true hb.2]
      refine ⟨rfl, ?_⟩
      rw [List.replicate_succ', List.map_append]
      rfl
    rintro ys H2' p2 ⟨rfl, rfl⟩ hp2
    have e2 : Ext H2' (upd H2' p2 (.lst ((List.replicate (xs.map V.int).length true).map V.bl))) := ext_upd hp2
    have h2 : (upd H2' p2 (.lst ((List.replicate (xs.map V.int).length true).map V.bl))) p2 = _ := upd_same
    generalize upd H2' p2 (.lst ((List.replicate (xs.map V.int).length true).map V.bl)) = H2 at e2 h2
    walk_at "rd"
    refine ⟨p2, _, rfl, SqL.of h2, ?_⟩
    rw [show (List.replicate (xs.map V.int).length true).all id = true by rw [List.all_eq_true]; intro b hb; rw [List.eq_of_mem_replicate hb]; rfl]
    walk_at "rd"
    refine iteT ?_
    walk_at "rd"
    have hp2' := e2 _ _ hp'
    refine rd_slT1 hp2' fun p3 H3 e3 h3 => ?_
    rw [cut_tail] at h3
    walk_at "rd"
    refine rd_zipT (SqT.of (e3 _ _ hp2')) (SqT.of h3) ?_
    refine comp_zipT (xs := xs.map V.int) (ys := (xs.map V.int).drop 1) (fun i zs H' => Ext H3 H' ∧ zs = (List.replicate i true).map V.bl) (small_line (by rw [List.length_map]; omega)) ⟨Ext.rfl' H3, rfl⟩ ?_ ?_ ?_
    · rintro i zs H' ⟨e, rfl⟩
      exact ⟨SqT.of (e _ _ (e3 _ _ hp2')), SqT.of (e _ _ h3), by simp⟩
    · rintro i u v zs H' p4 H4 hu hv ⟨e, rfl⟩ e4 h4 hn4
      obtain ⟨x, rfl, hx⟩ := map_get hu
      rw [← List.map_drop] at hv
      obtain ⟨y, rfl, hy⟩ := map_get hv
      have hlt : x < y := by
        rw [List.getElem?_drop] at hy
        obtain ⟨g1, rfl⟩ := List.getElem?_eq_some_iff.mp hx
        obtain ⟨g2, rfl⟩ := List.getElem?_eq_some_iff.mp hy
        exact List.pairwise_iff_getElem.mp hr'.1 i (1 + i) g1 g2 (by omega)
      refine rd_gtup (SqT.of h4) rfl ?_
      walk_at "rd"
      refine iteT ?_
      walk_at "rd"
      rw [decide_eq_true hlt]
      refine ⟨e.trans e4, ?_⟩
      rw [List.replicate_succ', List.map_append]
      rfl
    rintro zs H' p5 ⟨e, rfl⟩ hp5
    walk_at "rd"
    refine ⟨p5, _, rfl, SqL.of upd_same, ?_⟩
    rw [show ∀ n : Nat, (List.replicate n true).all id = true from fun n => by rw [List.all_eq_true]; intro b hb; rw [List.eq_of_mem_replicate hb]; rfl]
    exact q _ (e1.trans (e2.trans (e3.trans (e.trans (ext_upd hp5)))))
structure Gw (b s : Int) (o a : List Int) : Prop where
  ok : Ok b s o a
  b9 : b ≤ 9000
  s9 : s ≤ 900
theorem Gw.lo {b s : Int} {o a : List Int} (g : Gw b s o a) : o.length ≤ 9000 := by
  have := rising_len g.ok.ho
  have := g.b9; have := g.ok.hb
  omega
theorem Gw.la {b s : Int} {o a : List Int} (g : Gw b s o a) : a.length ≤ 900 := by
  have := rising_len g.ok.ha
  have := g.s9; have := g.ok.hs
  omega
theorem row_gw {f : Nat → Bool} {l d : Nat} (h1 : 1 ≤ d) (h2 : l ≤ 9000) (h3 : d ≤ 900) : Gw l d (row f 0 l) (row f l d) := ⟨row_ok f l d h1, by omega, by omega⟩
noncomputable def sp__law_is_stair (K : PySem.W.Frag) : Sp := fun vs H Q _ => ∃ v b s o a, vs = [v] ∧ StAt H v b s o a ∧ Gw b s o a ∧ ∀ H', Ext H H' → Q (.bl true) H'
noncomputable abbrev s__law_is_stair : Stmt := top 36
theorem sc__law_is_stair : FnScope ["_law_found"] ["_law_found"] (defScope s__law_is_stair) := ⟨rfl, rfl, rfl, by decide +kernel, rfl, by decide +kernel, by decide +kernel⟩
theorem ok__law_is_stair {P : Program} {w : World} {K : PySem.W.Frag} {mg : Str → Option Value} {base : Heap} (D : Dfn K mg "_law_is_stair" s__law_is_stair ["_law_found"]) (T : Blt mg) (C__law_rises : Cal P w K mg base "_law_rises" 2 ["_law_row", "_law_low", "_law_high"] (sp__law_rises K)) (C__law_whole : Cal P w K mg base "_law_whole" 1 ["_law_found"] (sp__law_whole K)) : Cal P w K mg base "_law_is_stair" 3 ["_law_found"] (sp__law_is_stair K) := by
  have nd := (sc__law_is_stair).nd
  refine D.ok sc__law_is_stair (fun vs H Q E h => ?_) (fun X hX H vs Q E h => ?_)
  · obtain ⟨v, b, s, o, a, rfl, _⟩ := h; rfl
  · obtain ⟨f, cdv, A, outer, s, H0, E0, rfl, hr⟩ := hX
    obtain ⟨v, b, s', o, a, rfl, ⟨p, q', r, rfl, h1, h2, h3⟩, hg, q⟩ := h
    have hb0 := hg.ok.hb
    have hs0 := hg.ok.hs
    have lo := hg.lo
    have la := hg.la
    have hk : kindV H (.ref p) "tuple" := .inr ⟨rfl, _, h1⟩
    refine ⟨_, (no_implicit_lambda% (pss_cons (no_implicit_lambda% (ps_if (no_implicit_lambda% (PW.pt (pw_or (no_implicit_lambda% (pt_not (no_implicit_lambda% (pt_val (no_implicit_lambda% (pe_callB call_isi rfl T.isinstance_ PyProof.Rows.boot_isinstance (no_implicit_lambda% (pa_cons (no_implicit_lambda% (pv 0)) (no_implicit_lambda% (pa_cons (no_implicit_lambda% (pe_bltn (v := .ty "tuple") rfl T.tuple_ PyProof.Rows.boot_tuple rfl)) pa_nil)))))))))) (pw_or1 (no_implicit_lambda% (pt_cmpR op_ne (no_implicit_lambda% (pe_callB (call_lenK K) rfl T.len_ PySem.boot_len (no_implicit_lambda% (pa_cons (no_implicit_lambda% (pv 0)) pa_nil)))) pe_int (nomark _))))))) (no_implicit_lambda% (pss_one (no_implicit_lambda% (ps_ret pe_bl)))) pss_nil))
        (no_implicit_lambda% (pss_cons (no_implicit_lambda% (ps_if (no_implicit_lambda% (PW.pt (pw_or (no_implicit_lambda% (pt_not (no_implicit_lambda% (pt_val (no_implicit_lambda% (pe_cal C__law_whole hr (no_implicit_lambda% (pa_cons (no_implicit_lambda% (pe_ix (ix_tupK K) (no_implicit_lambda% (pv 0)) pe_int (fun _ _ => rfl))) pa_nil)))))))) (pw_or1 (no_implicit_lambda% (pt_not (no_implicit_lambda% (pt_val (no_implicit_lambda% (pe_cal C__law_whole hr (no_implicit_lambda% (pa_cons (no_implicit_lambda% (pe_ix (ix_tupK K) (no_implicit_lambda% (pv 0)) pe_int (fun _ _ => rfl))) pa_nil)))))))))))) (no_implicit_lambda% (pss_one (no_implicit_lambda% (ps_ret pe_bl)))) pss_nil))
        (no_implicit_lambda% (pss_cons (no_implicit_lambda% (ps_if (no_implicit_lambda% (PW.pt (pw_or (no_implicit_lambda% (pt_cmpR op_lt (no_implicit_lambda% (pe_ix (ix_tupK K) (no_implicit_lambda% (pv 0)) pe_int (fun _ _ => rfl))) pe_int (nomark _))) (pw_or (no_implicit_lambda% (pt_cmpR op_lt (no_implicit_lambda% (pe_ix (ix_tupK K) (no_implicit_lambda% (pv 0)) pe_int (fun _ _ => rfl))) pe_int (nomark _))) (pw_or1 (no_implicit_lambda% (pt_not (no_implicit_lambda% (pt_val (no_implicit_lambda% (pe_cal C__law_rises hr (no_implicit_lambda% (pa_cons (no_implicit_lambda% (pe_ix (ix_tupK K) (no_implicit_lambda% (pv 0)) pe_int (fun _ _ => rfl))) (no_implicit_lambda% (pa_cons pe_int (no_implicit_lambda% (pa_cons (no_implicit_lambda% (pe_ix (ix_tupK K) (no_implicit_lambda% (pv 0)) pe_int (fun _ _ => rfl))) pa_nil))))))))))))))))) (no_implicit_lambda% (pss_one (no_implicit_lambda% (ps_ret pe_bl)))) pss_nil))
        (no_implicit_lambda% (pss_one (no_implicit_lambda% (ps_ret (no_implicit_lambda% (pe_cal C__law_rises hr (no_implicit_lambda% (pa_cons (no_implicit_lambda% (pe_ix (ix_tupK K) (no_implicit_lambda% (pv 0)) pe_int (fun _ _ => rfl))) (no_implicit_lambda% (pa_cons (no_implicit_lambda% (pe_ix (ix_tupK K) (no_implicit_lambda% (pv 0)) pe_int (fun _ _ => rfl))) (no_implicit_lambda% (pa_cons (no_implicit_lambda% (pe_op op_add (no_implicit_lambda% (pe_ix (ix_tupK K) (no_implicit_lambda% (pv 0)) pe_int (fun _ _ => rfl))) (no_implicit_lambda% (pe_ix (ix_tupK K) (no_implicit_lambda% (pv 0)) pe_int (fun _ _ => rfl))))) pa_nil)))))))))))))))))), ?_⟩
    walk_at "rd"
    refine rd_isi hk (b := true) rfl ?_
    walk_at "rd"
    refine iteF ?_
    walk_at "rd"
    refine rd_lenT (SqT.of h1) ?_
    walk_at "rd"
    refine iteF ?_
    walk_at "rd"
    refine rd_ixT (SqT.of h1) rfl ?_
    walk_at "rd"
    refine ⟨_, "int", rfl, rfl, ?_⟩
    walk_at "rd"
    refine iteF ?_
    walk_at "rd"
    refine rd_ixT (SqT.of h1) rfl ?_
    walk_at "rd"
    refine ⟨_, "int", rfl, rfl, ?_⟩
    walk_at "rd"
    refine iteF ?_
    walk_at "rd"
    refine rd_ixT (SqT.of h1) rfl ?_
    walk_at "rd"
    rw [decide_eq_false (show ¬ b < 0 by omega)]
    refine iteF ?_
    walk_at "rd"
    refine rd_ixT (SqT.of h1) rfl ?_
    walk_at "rd"
    rw [decide_eq_false (show ¬ s' < 1 by omega)]
    refine iteF ?_
    walk_at "rd"
    refine rd_ixT (SqT.of h1) rfl ?_
    walk_at "rd"
    refine rd_ixT (SqT.of h1) rfl ?_
    walk_at "rd"
    refine ⟨q', 0, b, o, rfl, h2, by omega, hg.ok.ho, fun H1 e1 => ?_⟩
    walk_at "rd"
    refine iteF ?_
    walk_at "rd"
    refine rd_ixT (SqT.of (e1 _ _ h1)) rfl ?_
    walk_at "rd"
    refine rd_ixT (SqT.of (e1 _ _ h1)) rfl ?_
    walk_at "rd"
    refine rd_ixT (SqT.of (e1 _ _ h1)) rfl ?_
    walk_at "rd"
    refine rd_ixT (SqT.of (e1 _ _ h1)) rfl ?_
    walk_at "rd"
    refine ⟨r, b, b + s', a, rfl, e1 _ _ h3, by omega, hg.ok.ha, fun H2 e2 => ?_⟩
    exact q H2 (e1.trans e2)
noncomputable def dS (b s : Int) (o a : List Int) : PyData := .tuple [.int b, .int s, .tuple (o.map PyData.int), .tuple (a.map PyData.int)]
theorem rep_ints {H : Hp} {q : Addr} {xs : List Int} (h : H q = some (.tup (xs.map V.int))) : RepD H 1 (.ref q) (.tuple (xs.map PyData.int)) :=
  .inr ⟨q, _, _, rfl, .inl ⟨h, rfl⟩, paired_map (fun i => (rfl : i = i)) _⟩
theorem StAt.rep {H : Hp} {v : V} {b s : Int} {o a : List Int} (h : StAt H v b s o a) : RepD H 2 v (dS b s o a) := by
  obtain ⟨p, q, r, rfl, h1, h2, h3⟩ := h
  exact .inr ⟨p, _, _, rfl, .inl ⟨h1, rfl⟩, .cons (.inl (rfl : b = b)) (.cons (.inl (rfl : s = s)) (.cons (rep_ints h2) (.cons (rep_ints h3) .nil)))⟩
theorem StAt.eqv {H : Hp} {v : V} {b s : Int} {o a : List Int} (h : StAt H v b s o a) : PyData.eqv (dS b s o a) (dS b s o a) = true := SeqAt.eqv_refl _ (RepD.lay 2 h.rep).1
noncomputable def sp__law_is_due (K : PySem.W.Frag) : Sp := fun vs H Q _ => ∃ v v' b s o a, vs = [v, v'] ∧ StAt H v b s o a ∧ StAt H v' b s o a ∧ Gw b s o a ∧ ∀ H', Ext H H' → Q (.bl true) H'
noncomputable abbrev s__law_is_due : Stmt := top 42
theorem sc__law_is_due : FnScope ["_law_found", "_law_due"] ["_law_found", "_law_due"] (defScope s__law_is_due) := ⟨rfl, rfl, rfl, by decide +kernel, rfl, by decide +kernel, by decide +kernel⟩
theorem ok__law_is_due {P : Program} {w : World} {K : PySem.W.Frag} {mg : Str → Option Value} {base : Heap} (D : Dfn K mg "_law_is_due" s__law_is_due ["_law_found", "_law_due"]) (T : Blt mg) (C__law_is_stair : Cal P w K mg base "_law_is_stair" 3 ["_law_found"] (sp__law_is_stair K)) : Cal P w K mg base "_law_is_due" 4 ["_law_found", "_law_due"] (sp__law_is_due K) := by
  have nd := (sc__law_is_due).nd
  refine D.ok sc__law_is_due (fun vs H Q E h => ?_) (fun X hX H vs Q E h => ?_)
  · obtain ⟨v, v', b, s, o, a, rfl, _⟩ := h; rfl
  · obtain ⟨f, cdv, A, outer, s, H0, E0, rfl, hr⟩ := hX
    obtain ⟨v, v', b, s', o, a, rfl, hv, hv', hg, q⟩ := h
    refine ⟨_, (no_implicit_lambda% (pss_one (no_implicit_lambda% (ps_ret (no_implicit_lambda% (pe_and (no_implicit_lambda% (pe_cal C__law_is_stair hr (no_implicit_lambda% (pa_cons (no_implicit_lambda% (pv 0)) pa_nil)))) (pe_one (no_implicit_lambda% (pe_cmpR (op_eqD hr) (no_implicit_lambda% (pv 0)) (no_implicit_lambda% (pv 1)) (nomark _)))))))))), ?_⟩
    walk_at "rd"
    refine ⟨v, b, s', o, a, rfl, hv, hg, fun H1 e1 => ?_⟩
    walk_at "rd"
    refine iteT ?_
    walk_at "rd"
    refine ⟨2, 2, _, _, (hv.ext e1).rep, (hv'.ext e1).rep, by decide, ?_⟩
    rw [hv.eqv]
    exact q H1 e1
noncomputable def sp__law_least (K : PySem.W.Frag) : Sp := fun vs H Q _ => ∃ (p : Addr) (b n m : Nat) (f : Nat → Bool), vs = [.ref p, .int b, .int n] ∧ 1 ≤ n ∧ b + n ≤ m ∧ m ≤ 20000 ∧ H p = some (.lst (mkB m f)) ∧ Per f b n ∧
  ∀ v (l d : Nat) H', Ext H H' → Least f d l → l ≤ b → d ≤ n → StAt H' v l d (row f 0 l) (row f l d) → Q v H'
theorem down_n (n : Nat) : nRng (n : Int) 0 (-1) = n := by
  unfold nRng
  rw [if_neg (by decide)]
  split
  · rw [show (- -1 : Int) = 1 by decide, Int.ediv_one]
    omega
  · omega
noncomputable abbrev s__law_least : Stmt := top 37
theorem sc__law_least : FnScope ["_law_bits_here", "_law_base", "_law_step", "_law_best", "_law_s", "_law_alike", "_law_once"] ["_law_bits_here", "_law_base", "_law_step"] (defScope s__law_least) := ⟨rfl, rfl, rfl, by decide +kernel, rfl, by decide +kernel, by decide +kernel⟩
theorem ok__law_least {P : Program} {w : World} {K : PySem.W.Frag} {mg : Str → Option Value} {base : Heap} (D : Dfn K mg "_law_least" s__law_least ["_law_bits_here", "_law_base", "_law_step"]) (T : Blt mg) : Cal P w K mg base "_law_least" 1 ["_law_bits_here", "_law_base", "_law_step"] (sp__law_least K) := by
  have nd := (sc__law_least).nd
  refine D.ok sc__law_least (fun vs H Q E h => ?_) (fun X hX H vs Q E h => ?_)
  · obtain ⟨p, b, n, m, f, rfl, _⟩ := h; rfl
  · obtain ⟨f, cdv, A, outer, s, H0, E0, rfl, hr⟩ := hX
    obtain ⟨p, b, n, m, g, rfl, hn1, hbn, hm, hp, hper, q⟩ := h
    refine ⟨_, (no_implicit_lambda% (pss_cons (no_implicit_lambda% (ps_set (i := 3) nd rfl (Or.inl rfl) (no_implicit_lambda% (pv 2))))
        (no_implicit_lambda% (pss_cons (no_implicit_lambda% (ps_for PassesOwn.never rfl (no_implicit_lambda% (pi_range3 rfl T.range_ (no_implicit_lambda% (pa_cons (no_implicit_lambda% (pv 2)) (no_implicit_lambda% (pa_cons pe_int (no_implicit_lambda% (pa_cons (no_implicit_lambda% (pe_un un_neg pe_int)) pa_nil)))))))) (no_implicit_lambda% (pg_name (i := 4) nd rfl (Or.inr rfl))) (no_implicit_lambda% (pss_one (no_implicit_lambda% (ps_ifJ (no_implicit_lambda% (pt_cmpR op_eq (no_implicit_lambda% (pe_op op_mod (no_implicit_lambda% (pv 2)) (no_implicit_lambda% (pv 4)))) pe_int (nomark _))) (no_implicit_lambda% (pss_cons (no_implicit_lambda% (ps_setComp (i := 5) ["_law_k"] [0, 1, 4] nd rfl (Or.inl rfl) (no_implicit_lambda% (pi_range1 rfl T.range_ (no_implicit_lambda% (pa_cons (no_implicit_lambda% (pv 2)) pa_nil)))) (fun _ => (no_implicit_lambda% (pg_name (i := 0) (show (["_law_k", "_law_bits_here", "_law_base", "_law_s"] : List Str).Nodup from by decide +kernel) rfl (Or.inl rfl) (Or.inr rfl)))) (fun _ => pcs_nil) (fun _ => (no_implicit_lambda% (pe_cmpR op_eq (no_implicit_lambda% (pe_ix (ix_listK K) (no_implicit_lambda% (pv 1)) (no_implicit_lambda% (pe_op op_add (no_implicit_lambda% (pv 2)) (no_implicit_lambda% (pv 0)))) (fun _ _ => rfl))) (no_implicit_lambda% (pe_ix (ix_listK K) (no_implicit_lambda% (pv 1)) (no_implicit_lambda% (pe_op op_add (no_implicit_lambda% (pv 2)) (no_implicit_lambda% (pe_op op_mod (no_implicit_lambda% (pv 0)) (no_implicit_lambda% (pv 3)))))) (fun _ _ => rfl))) (nomark _))))))
        (no_implicit_lambda% (pss_one (no_implicit_lambda% (ps_ifJ (no_implicit_lambda% (pt_val (no_implicit_lambda% (pe_callB (call_allL K rfl) rfl T.all_ PyProof.Rows.boot_all (no_implicit_lambda% (pa_cons (no_implicit_lambda% (pv 5)) pa_nil)))))) (no_implicit_lambda% (pss_one (no_implicit_lambda% (ps_set (i := 3) nd rfl (Or.inl rfl) (no_implicit_lambda% (pv 4)))))) pss_nil)))))) pss_nil))))))
        (no_implicit_lambda% (pss_cons (no_implicit_lambda% (ps_whileJ PassesOwn.never (no_implicit_lambda% (PW.pt (pw_and (no_implicit_lambda% (pt_cmpR op_gt (no_implicit_lambda% (pv 1)) pe_int (nomark _))) (pw_and1 (no_implicit_lambda% (pt_cmpR op_eq (no_implicit_lambda% (pe_ix (ix_listK K) (no_implicit_lambda% (pv 0)) (no_implicit_lambda% (pe_op op_sub (no_implicit_lambda% (pv 1)) pe_int)) (fun _ _ => rfl))) (no_implicit_lambda% (pe_ix (ix_listK K) (no_implicit_lambda% (pv 0)) (no_implicit_lambda% (pe_op op_add (no_implicit_lambda% (pe_op op_sub (no_implicit_lambda% (pv 1)) pe_int)) (no_implicit_lambda% (pv 3)))) (fun _ _ => rfl))) (nomark _))))))) (no_implicit_lambda% (pss_one (no_implicit_lambda% (ps_set (i := 1) nd rfl (Or.inr rfl) (no_implicit_lambda% (pe_op op_sub (no_implicit_lambda% (pv 1)) pe_int))))))))
        (no_implicit_lambda% (pss_cons (no_implicit_lambda% (ps_set (i := 6) nd rfl (Or.inl rfl) (no_implicit_lambda% (pe_callTy (call_tupK K) rfl T.tuple_ PyProof.Rows.boot_tuple (no_implicit_lambda% (pa_cons (no_implicit_lambda% (pe_comp ["_law_x"] [0] (no_implicit_lambda% (pi_range1 rfl T.range_ (no_implicit_lambda% (pa_cons (no_implicit_lambda% (pv 1)) pa_nil)))) (fun _ => (no_implicit_lambda% (pg_name (i := 0) (show (["_law_x", "_law_bits_here"] : List Str).Nodup from by decide +kernel) rfl (Or.inl rfl) (Or.inr rfl)))) (fun _ => (pcs_one (no_implicit_lambda% (pt_val (no_implicit_lambda% (pe_ix (ix_listK K) (no_implicit_lambda% (pv 1)) (no_implicit_lambda% (pv 0)) (fun _ _ => rfl))))))) (fun _ => (no_implicit_lambda% (pv 0))))) pa_nil))))))
        (no_implicit_lambda% (pss_one (no_implicit_lambda% (ps_ret (no_implicit_lambda% (pe_tup (no_implicit_lambda% (pa_cons (no_implicit_lambda% (pv 1)) (no_implicit_lambda% (pa_cons (no_implicit_lambda% (pv 3)) (no_implicit_lambda% (pa_cons (no_implicit_lambda% (pv 6)) (no_implicit_lambda% (pa_cons (no_implicit_lambda% (pe_callTy (call_tupK K) rfl T.tuple_ PyProof.Rows.boot_tuple (no_implicit_lambda% (pa_cons (no_implicit_lambda% (pe_comp ["_law_x"] [0] (no_implicit_lambda% (pi_range2 rfl T.range_ (no_implicit_lambda% (pa_cons (no_implicit_lambda% (pv 1)) (no_implicit_lambda% (pa_cons (no_implicit_lambda% (pe_op op_add (no_implicit_lambda% (pv 1)) (no_implicit_lambda% (pv 3)))) pa_nil)))))) (fun _ => (no_implicit_lambda% (pg_name (i := 0) (show (["_law_x", "_law_bits_here"] : List Str).Nodup from by decide +kernel) rfl (Or.inl rfl) (Or.inr rfl)))) (fun _ => (pcs_one (no_implicit_lambda% (pt_val (no_implicit_lambda% (pe_ix (ix_listK K) (no_implicit_lambda% (pv 1)) (no_implicit_lambda% (pv 0)) (fun _ _ => rfl))))))) (fun _ => (no_implicit_lambda% (pv 0))))) pa_nil)))) pa_nil)))))))))))))))))))))), ?_⟩
    walk_at "rd"
    refine rd_i3x (by unfold SmallR; omega) ?_
    rw [down_n]
    refine forS (fun i σ H' => Ext H H' ∧ ∃ (d : Nat) (x y : Option V), σ = [some (.ref p), some (.int b), some (.int n), some (.int d), x, y, none] ∧ 1 ≤ d ∧ d ≤ n ∧ Round g b n d ∧ ∀ e, n - i < e → e < d → ¬ Round g b n e)
      ⟨Ext.rfl' H, n, none, none, rfl, hn1, Nat.le_refl _, ⟨Nat.mod_self n, fun k hk => by rw [Nat.mod_eq_of_lt hk]⟩, fun e h1 h2 => by omega⟩ ?_ ?_
    · rintro i σ H' hi ⟨e, d, x, y, rfl, hd1, hd2, hrd, hfirst⟩
      have hp' := e _ _ hp
      obtain ⟨c, hc⟩ : ∃ c : Nat, c + i = n := ⟨n - i, by omega⟩
      have hce : (n : Int) + (i : Int) * (-1) = (c : Int) := by omega
      rw [hce]
      have hc1 : 1 ≤ c := by omega
      have hcn : c ≤ n := by omega
      have hmod : ((n : Int) % (c : Int) = 0) ↔ n % c = 0 := by
        have : (n : Int) % (c : Int) = ((n % c : Nat) : Int) := rfl
        omega
      have skip : ∀ H2 (y : Option V), Ext H' H2 → ¬ Round g b n c → (Ext H H2 ∧ ∃ (d' : Nat) (x y' : Option V), [some (V.ref p), some (V.int b), some (V.int n), some (V.int d), some (V.int c), y, none] = [some (V.ref p), some (V.int b), some (V.int n), some (V.int d'), x, y', none] ∧ 1 ≤ d' ∧ d' ≤ n ∧ Round g b n d' ∧ ∀ e, n - (i + 1) < e → e < d' → ¬ Round g b n e) := by
        intro H2 y' e2 hno
        refine ⟨e.trans e2, d, _, _, rfl, hd1, hd2, hrd, fun e' h1 h2 => ?_⟩
        rcases Nat.lt_or_ge c e' with h3 | h3
        · exact hfirst e' (by omega) h2
        · have : e' = c := by omega
          rw [this]
          exact hno
      walk_at "rd"
      refine rd_ifN ?_
      walk_at "rd"
      by_cases hz : (n : Int) % (c : Int) = 0
      · rw [decide_eq_true hz]
        refine iteT ?_
        walk_at "rd"
        refine rd_i1x (by omega) ?_
        rw [Int.toNat_natCast]
        refine comp_range (fun j ys H2 => H2 = H' ∧ ys = ((List.range j).map fun k => g (b + k) == g (b + k % c)).map V.bl) (small_line (by omega)) ⟨rfl, rfl⟩ ?_ ?_ ?_
        · rintro j ys H2 _ ⟨rfl, rfl⟩
          simp
        · rintro j ys H2 hj ⟨rfl, rfl⟩
          have hjc : (j : Int) % (c : Int) = ((j % c : Nat) : Int) := rfl
          have hjl : j % c < c := Nat.mod_lt _ (by omega)
          walk_at "rd"
          refine iteT ?_
          walk_at "rd"
          refine rd_ixL (SqL.of hp') (mkB_at (by omega) (by omega)) ?_
          walk_at "rd"
          rw [Int.zero_add, hjc]
          refine rd_ixL (SqL.of hp') (mkB_at (by omega) (by omega)) ?_
          walk_at "rd"
          refine ⟨rfl, ?_⟩
          rw [List.range_succ, List.map_append, List.map_append, show ((b : Int) + (j : Int)).toNat = b + j by omega, show ((b : Int) + ((j % c : Nat) : Int)).toNat = b + j % c by omega]
          rfl
        rintro ys H2 p2 ⟨rfl, rfl⟩ hp2
        have e3 : Ext H2 (upd H2 p2 (.lst (((List.range n).map fun k => g (b + k) == g (b + k % c)).map V.bl))) := ext_upd hp2
        have h3 : (upd H2 p2 (.lst (((List.range n).map fun k => g (b + k) == g (b + k % c)).map V.bl))) p2 = _ := upd_same
        generalize upd H2 p2 (.lst (((List.range n).map fun k => g (b + k) == g (b + k % c)).map V.bl)) = H3 at e3 h3
        have hround : ((List.range n).map fun k => g (b + k) == g (b + k % c)).all id = true ↔ Round g b n c := by
          rw [List.all_map, List.all_eq_true]
          constructor
          · intro h
            exact ⟨hmod.mp hz, fun k hk => by simpa using h k (List.mem_range.mpr hk)⟩
          · intro h k hk
            simpa using h.2 k (List.mem_range.mp hk)
        walk_at "rd"
        refine rd_ifN ?_
        walk_at "rd"
        refine ⟨p2, _, rfl, SqL.of h3, ?_⟩
        walk_at "rd"
        cases hall : ((List.range n).map fun k => g (b + k) == g (b + k % c)).all id with
        | true =>
          refine iteT ?_
          walk_at "rd"
          refine ⟨e.trans e3, c, _, _, rfl, hc1, hcn, hround.mp hall, fun e' h1 h2 => by omega⟩
        | false =>
          refine iteF ?_
          walk_at "rd"
          exact skip H3 _ e3 fun h => by rw [hround.mpr h] at hall; cases hall
      · rw [decide_eq_false hz]
        refine iteF ?_
        walk_at "rd"
        exact skip H' _ (Ext.rfl' H') fun h => hz (hmod.mpr h.1)
    rintro σ H1 ⟨e1, d, x, y, rfl, hd1, hd2, hrd, hfirst⟩
    have hal := hrd.alike hd1
    have hfirst' : ∀ e, 1 ≤ e → e < d → ¬ Alike g b n e := fun e h1 h2 h3 => hfirst e (by omega) h2 ((h3.per hper hn1 h1).round h3.1)
    have hp1 := e1 _ _ hp
    walk_at "rd"
    refine rd_while (fun m' σ H' => H' = H1 ∧ ∃ l : Nat, σ = [some (.ref p), some (.int l), some (.int n), some (.int d), x, y, none] ∧ l ≤ b ∧ m' = l ∧ ∀ x, l ≤ x → x < b → g x = g (x + d))
      (fun σ H' => H' = H1 ∧ ∃ l : Nat, σ = [some (.ref p), some (.int l), some (.int n), some (.int d), x, y, none] ∧ l ≤ b ∧ (∀ x, l ≤ x → x < b → g x = g (x + d)) ∧ (l = 0 ∨ g (l - 1) ≠ g (l - 1 + d))) b
      ⟨rfl, b, rfl, Nat.le_refl _, rfl, fun x h1 h2 => by omega⟩ ?_ ?_
    · rintro k σ H' ⟨rfl, l, rfl, hl, rfl, hdown⟩
      walk_at "rd"
      by_cases h0 : (0 : Int) < (k : Int)
      · rw [decide_eq_true h0]
        refine iteT ?_
        walk_at "rd"
        refine rd_ixL (SqL.of hp1) (mkB_at (by omega) (by omega)) ?_
        walk_at "rd"
        refine rd_ixL (SqL.of hp1) (mkB_at (by omega) (by omega)) ?_
        walk_at "rd"
        rw [show ((k : Int) - 1).toNat = k - 1 by omega, show ((k : Int) - 1 + (d : Int)).toNat = k - 1 + d by omega]
        cases hc : g (k - 1) == g (k - 1 + d) with
        | true =>
          refine iteT ⟨_, fun _ _ h => h, ?_⟩
          walk_at "rd"
          refine ⟨k - 1, by omega, rfl, k - 1, by rw [show ((k - 1 : Nat) : Int) = (k : Int) - 1 by omega]; rfl, by omega, rfl, fun x h1 h2 => ?_⟩
          rcases Nat.lt_or_ge x k with h3 | h3
          · have : x = k - 1 := by omega
            rw [this]
            exact eq_of_beq hc
          · exact hdown x h3 h2
        | false => exact iteF ⟨rfl, k, rfl, hl, hdown, .inr fun h => by rw [h] at hc; simp at hc⟩
      · rw [decide_eq_false h0]
        exact iteF (iteF ⟨rfl, k, rfl, hl, hdown, .inl (by omega)⟩)
    rintro σ H' ⟨rfl, l, rfl, hl, hdown, hstop⟩
    have hleast : Least g d l := least_of hper hn1 hd1 hal hfirst' hl hdown hstop
    walk_at "rd"
    refine rd_i1x (by omega) ?_
    rw [Int.toNat_natCast]
    refine comp_range (fun i ys H3 => H3 = H' ∧ ys = (row g 0 i).map V.int) (small_line (by omega)) ⟨rfl, rfl⟩ ?_ ?_ ?_
    · rintro i ys H3 _ ⟨rfl, rfl⟩
      rw [List.length_map]; exact row_len g 0 i
    · rintro i ys H3 hi ⟨rfl, hy⟩
      walk_at "rd"
      refine rd_ixL (SqL.of hp1) (mkB_at (by omega) (by omega)) ?_
      walk_at "rd"
      rw [show ((0 : Int) + (i : Int)).toNat = i by omega]
      have e0 : g (0 + i) = g i := by rw [Nat.zero_add]
      cases hg : g i with
      | true =>
        refine iteT ?_
        walk_at "rd"
        refine ⟨rfl, ?_⟩
        rw [← row_step hy (e0.trans hg)]
        congr 3
        all_goals omega
      | false => exact iteF ⟨rfl, row_skip hy (e0.trans hg)⟩
    rintro ys H3 p3 ⟨rfl, rfl⟩ hp3
    have e4 : Ext H3 (upd H3 p3 (.lst ((row g 0 l).map V.int))) := ext_upd hp3
    have h4 : (upd H3 p3 (.lst ((row g 0 l).map V.int))) p3 = _ := upd_same
    generalize upd H3 p3 (.lst ((row g 0 l).map V.int)) = H4 at e4 h4
    walk_at "rd"
    refine rd_tupL (SqL.of h4) (rd_new fun t1 H5 e5 ht1 _ => ?_)
    have hp5 := e5 _ _ (e4 _ _ hp1)
    walk_at "rd"
    refine rd_i2x (by omega) ?_
    rw [show ((l : Int) + (d : Int) - (l : Int)).toNat = d by omega]
    refine comp_range (fun i ys H6 => H6 = H5 ∧ ys = (row g l i).map V.int) (small_line (by omega)) ⟨rfl, rfl⟩ ?_ ?_ ?_
    · rintro i ys H6 _ ⟨rfl, rfl⟩
      rw [List.length_map]; exact row_len g _ i
    · rintro i ys H6 hi ⟨rfl, hy⟩
      walk_at "rd"
      refine rd_ixL (SqL.of hp5) (mkB_at (by omega) (by omega)) ?_
      walk_at "rd"
      rw [show ((l : Int) + (i : Int)).toNat = l + i by omega]
      cases hg : g (l + i) with
      | true =>
        refine iteT ?_
        walk_at "rd"
        refine ⟨rfl, ?_⟩
        rw [← row_step hy hg]
        congr 3
        all_goals omega
      | false => exact iteF ⟨rfl, row_skip hy hg⟩
    rintro ys H6 p6 ⟨rfl, rfl⟩ hp6
    have e7 : Ext H6 (upd H6 p6 (.lst ((row g l d).map V.int))) := ext_upd hp6
    have h7 : (upd H6 p6 (.lst ((row g l d).map V.int))) p6 = _ := upd_same
    generalize upd H6 p6 (.lst ((row g l d).map V.int)) = H7 at e7 h7
    walk_at "rd"
    refine rd_tupL (SqL.of h7) (rd_new fun t2 H8 e8 ht2 _ => ?_)
    walk_at "rd"
    refine ⟨small_line (by simp), rd_new fun t H9 e9 ht _ => ?_⟩
    exact q _ l d H9 (e1.trans (e4.trans (e5.trans (e7.trans (e8.trans e9))))) hleast hl hd2 ⟨t, t1, t2, rfl, ht, e9 _ _ (e8 _ _ (e7 _ _ ht1)), e9 _ _ ht2⟩
theorem row_gdN {f : Nat → Bool} {l d : Nat} (h1 : 1 ≤ d) (h2 : l ≤ 3000) (h3 : d ≤ 840) : Gd l d (row f 0 l) (row f l d) := ⟨row_ok f l d h1, by omega, by omega⟩
theorem fn_rowN {f : Nat → Bool} {l d : Nat} (h1 : 1 ≤ d) (h : Per f l d) : fn l d (row f 0 l) (row f l d) = f := funext fun x => row_mem h1 h x
end My
set_option Elab.async false
set_option linter.all false
set_option maxRecDepth 100000
namespace My
open PySem L2 St
set_option maxHeartbeats 4000000
local macro_rules | `(tactic| walk_at "cond") => `(tactic| first | decide | omega | (dsimp only; omega) | (unfold CMul; omega) | (unfold CPow; exact ⟨by decide, by decide, by decide⟩) | (dsimp only; exact ⟨by omega, by omega⟩) | exact .inr ⟨by decide, by decide⟩ | exact .inl ⟨by decide, by decide⟩ | (unfold SmallR; omega))
local macro_rules | `(tactic| walk_at "sq") => `(tactic| first | assumption | exact SqL.of (by assumption) | exact SqT.of (by assumption) | exact SqL.of (by solve_by_elim) | exact SqT.of (by solve_by_elim) | solve_by_elim)
local macro_rules | `(tactic| walk_at "rd") => `(tactic| repeat (first | with_reducible refine rd_seq ?_ | with_reducible refine rd_ret ?_ | with_reducible refine rd_retN ?_ | with_reducible refine rd_asg ?_ | with_reducible refine rd_drop ?_ | with_reducible refine rd_ifS ?_ | with_reducible refine rd_next ?_ | with_reducible refine rd_name ?_ | ((with_reducible apply rd_var); (exact rfl)) | with_reducible refine rd_c ?_ | with_reducible refine rd_op ?_ | with_reducible refine rd_un ?_ | with_reducible refine rd_CB ?_ | with_reducible refine rd_cons ?_ | with_reducible refine rd_nil ?_ | with_reducible refine rd_ints ?_ | with_reducible refine rd_test ?_ | with_reducible refine rd_B ?_ | with_reducible refine rd_exb ?_ | with_reducible refine rd_not ?_ | with_reducible refine rd_and ?_ | with_reducible refine rd_or ?_ | with_reducible refine rd_andV ?_ | with_reducible refine rd_orV ?_ | with_reducible refine rd_notV ?_ | with_reducible refine rd_ifE ?_ | with_reducible refine rd_yes ?_ | with_reducible refine rd_I0 ?_ | ((with_reducible apply rd_I); (walk_at "cond")) | with_reducible refine rd_U ?_ | with_reducible refine rd_EqI ?_ | with_reducible refine rd_NeI ?_ | with_reducible refine rd_EqB ?_ | with_reducible refine rd_NeB ?_ | with_reducible refine rd_call ?_ | with_reducible refine rd_BM ?_ | with_reducible refine rd_tup ?_ | with_reducible refine rd_lst ?_ | with_reducible refine rd_sl ?_ | with_reducible refine rd_noPart ?_ | with_reducible refine rd_part ?_ | with_reducible refine rd_exi ?_ | with_reducible refine rd_chain ?_ | with_reducible refine rd_comp ?_ | with_reducible refine rd_iL ?_ | with_reducible refine rd_iT ?_ | with_reducible refine rd_i1 ?_ | with_reducible refine rd_i2 ?_ | with_reducible refine rd_i3 ?_ | with_reducible refine rd_for ?_ | with_reducible refine rd_tTru ?_ | with_reducible refine rd_intB ?_ | with_reducible refine rd_max2 ?_ | with_reducible refine rd_min2 ?_ | with_reducible refine rd_sub ?_ | with_reducible refine rd_gcons ?_ | with_reducible refine rd_gnil ?_ | ((with_reducible apply rd_aug); (exact rfl)) | with_reducible refine rd_ipI ?_ | with_reducible refine rd_zip ?_ | with_reducible refine rd_rev ?_ | with_reducible refine rd_par ?_ | with_reducible refine rd_par2 ?_ | with_reducible refine rd_lam ?_ | with_reducible refine rd_calV ?_ | with_reducible refine rd_raise ?_ | with_reducible refine rd_fs ?_ | with_reducible refine rd_try ?_ | with_reducible refine rd_bseq ?_ | with_reducible refine rd_bnext ?_ | with_reducible refine rd_bplain ?_ | with_reducible refine rd_bif ?_ | with_reducible refine rd_bcall ?_ | dsimp only))
noncomputable def mvF (k : Int) (f : Nat → Bool) : Nat → Bool := fun x => decide (k ≤ (x : Int)) && f ((x : Int) - k).toNat
theorem mvF_per {k : Int} {f : Nat → Bool} {b s B : Nat} (h : Per f b s) (h1 : (b : Int) + k ≤ B) : Per (mvF k f) B s := fun x hx => by
  unfold mvF
  have e1 : decide (k ≤ ((x + s : Nat) : Int)) = true := decide_eq_true (by omega)
  have e2 : decide (k ≤ (x : Int)) = true := decide_eq_true (by omega)
  rw [e1, e2, Bool.true_and, Bool.true_and, show (((x + s : Nat) : Int) - k).toNat = ((x : Int) - k).toNat + s by omega]
  exact h _ (by omega)
theorem mv_list {k : Int} {f : Nat → Bool} {n B s : Nat} {z c : Nat} (hz : (z : Int) - c = k) (h0 : z = 0 ∨ c = 0) (hn : (n : Int) = B - k + s) (hc : c ≤ n) : mkB z (fun _ => false) ++ mkB (n - c) (fun i => f (c + i)) = mkB (B + s) (mvF k f) := by
  rw [mkB_append, show z + (n - c) = B + s by omega]
  refine mkB_congr fun i hi => ?_
  unfold mvF
  by_cases h : i < z
  · rw [if_pos h, decide_eq_false (by omega), Bool.false_and]
  · rw [if_neg h, decide_eq_true (by omega), Bool.true_and]
    congr 1
    omega
theorem mvF_down (k : Nat) (f : Nat → Bool) : mvF (-(k : Int)) f = fun x => f (k + x) := by
  funext x
  unfold mvF
  rw [decide_eq_true (by omega), Bool.true_and]
  congr 1
  omega
theorem mvF_back (k : Nat) (f : Nat → Bool) : mvF (-(k : Int)) (mvF k f) = f := by
  rw [mvF_down]
  funext x
  unfold mvF
  rw [decide_eq_true (by omega), Bool.true_and]
  congr 1
  omega
noncomputable def sp_moved (K : PySem.W.Frag) : Sp := fun vs H Q E => ∃ (v : V) (k : Int) (b s : Nat) (o a : List Int), vs = [v, .int k] ∧ SN H v b s o a ∧
  ((-3000 ≤ k ∧ k ≤ 3000 ∧ ∀ v' (l d : Nat) H', Ext H H' → Least (mvF k (fn b s o a)) d l → (l : Int) ≤ max 0 ((b : Int) + k) → d ≤ s → StAt H' v' l d (row (mvF k (fn b s o a)) 0 l) (row (mvF k (fn b s o a)) l d) → Q v' H') ∨
   ((k < -3000 ∨ 3000 < k) ∧ E (.ref (cA K "TooGreat")) none H))
noncomputable abbrev s_moved : Stmt := top 28
theorem sc_moved : FnScope ["stair", "k", "base", "marks"] ["stair", "k"] (defScope s_moved) := ⟨rfl, rfl, rfl, by decide +kernel, rfl, by decide +kernel, by decide +kernel⟩
theorem ok_moved {P : Program} {w : World} {K : PySem.W.Frag} {mg : Str → Option Value} {base : Heap} (D : Dfn K mg "moved" s_moved ["stair", "k"]) (T : Blt mg) (g_GREATEST_MOVE : ∃ t, mg "GREATEST_MOVE" = some (.int 3000 t)) (XF : Xf K mg base allC raisedC) (C_stair_of_marks : Cal P w K mg base "stair_of_marks" 2 ["marks", "base"] (sp_stair_of_marks K)) (C_marks_below : Cal P w K mg base "marks_below" 1 ["stair", "end"] (sp_marks_below K)) (C_refuse_bad_stair : Cal P w K mg base "refuse_bad_stair" 6 ["thing"] (sp_refuse_bad_stair K)) : CalX P w K mg base "moved" 7 ["stair", "k"] (sp_moved K) := by
  have nd := (sc_moved).nd
  refine D.okX sc_moved (fun vs H Q E h => ?_) (fun f cdv A outer s H vs Q E hr h => ?_)
  · obtain ⟨v, k, b, s, o, a, rfl, _⟩ := h; rfl
  · obtain ⟨t_GREATEST_MOVE, c_GREATEST_MOVE⟩ := g_GREATEST_MOVE
    obtain ⟨v, k, b, s1, o, a, rfl, hv, hh⟩ := h
    have x1 := hv.b3
    have y1 := hv.s1
    have y8 := hv.s8
    have hper := fn_perN hv.2
    refine ⟨_, (no_implicit_lambda% (pss_cons (no_implicit_lambda% (ps_expr (no_implicit_lambda% (pe_cal C_refuse_bad_stair hr (no_implicit_lambda% (pa_cons (no_implicit_lambda% (pv 0)) pa_nil))))))
        (no_implicit_lambda% (pss_cons (no_implicit_lambda% (ps_if (no_implicit_lambda% (pt_cmpR op_gt (no_implicit_lambda% (pe_callB call_abs rfl T.abs_ PyProof.Rows.boot_abs (no_implicit_lambda% (pa_cons (no_implicit_lambda% (pv 1)) pa_nil)))) (no_implicit_lambda% (pe_glob (v := .int 3000) rfl c_GREATEST_MOVE ⟨_, rfl⟩)) (nomark _))) (no_implicit_lambda% (pss_one (no_implicit_lambda% (ps_raise (XF.own "TooGreat" (by decide +kernel)) PySem.F.excBase_ValueError (no_implicit_lambda% (pa_cons (no_implicit_lambda% (pe_fstr (no_implicit_lambda% (pe_glob (v := .int 3000) rfl c_GREATEST_MOVE ⟨_, rfl⟩)))) pa_nil)))))) pss_nil))
        (no_implicit_lambda% (pss_cons (no_implicit_lambda% (ps_set (i := 2) nd rfl (Or.inl rfl) (no_implicit_lambda% (pe_callB (call_max2N rfl) rfl T.max_ PyProof.Rows.boot_max (no_implicit_lambda% (pa_cons pe_int (no_implicit_lambda% (pa_cons (no_implicit_lambda% (pe_op op_add (no_implicit_lambda% (pe_ix (ix_tupK K) (no_implicit_lambda% (pv 0)) pe_int (fun _ _ => rfl))) (no_implicit_lambda% (pv 1)))) pa_nil))))))))
        (no_implicit_lambda% (pss_cons (no_implicit_lambda% (ps_set (i := 3) nd rfl (Or.inl rfl) (no_implicit_lambda% (pe_cal C_marks_below hr (no_implicit_lambda% (pa_cons (no_implicit_lambda% (pv 0)) (no_implicit_lambda% (pa_cons (no_implicit_lambda% (pe_op op_add (no_implicit_lambda% (pe_op op_sub (no_implicit_lambda% (pv 2)) (no_implicit_lambda% (pv 1)))) (no_implicit_lambda% (pe_ix (ix_tupK K) (no_implicit_lambda% (pv 0)) pe_int (fun _ _ => rfl))))) pa_nil))))))))
        (no_implicit_lambda% (pss_one (no_implicit_lambda% (ps_ret (no_implicit_lambda% (pe_cal C_stair_of_marks hr (no_implicit_lambda% (pa_cons (no_implicit_lambda% (pe_op op_cat (no_implicit_lambda% (pe_op op_rep (no_implicit_lambda% (pe_lst (no_implicit_lambda% (pa_cons pe_bl pa_nil)))) (no_implicit_lambda% (pe_callB (call_max2N rfl) rfl T.max_ PyProof.Rows.boot_max (no_implicit_lambda% (pa_cons pe_int (no_implicit_lambda% (pa_cons (no_implicit_lambda% (pv 1)) pa_nil)))))))) (no_implicit_lambda% (pe_slice (sl_listK K) (no_implicit_lambda% (pv 3)) (po_some (no_implicit_lambda% (pe_callB (call_max2N rfl) rfl T.max_ PyProof.Rows.boot_max (no_implicit_lambda% (pa_cons pe_int (no_implicit_lambda% (pa_cons (no_implicit_lambda% (pe_un un_neg (no_implicit_lambda% (pv 1)))) pa_nil))))))) po_none)))) (no_implicit_lambda% (pa_cons (no_implicit_lambda% (pv 2)) pa_nil)))))))))))))))))), ?_⟩
    walk_at "rd"
    refine ⟨v, _, _, _, _, rfl, hv.1, hv.2, ?_⟩
    obtain ⟨p, oq, ar, rfl, k1, _, _⟩ := id hv.1
    walk_at "rd"
    refine ⟨k, rfl, ?_⟩
    walk_at "rd"
    rcases hh with ⟨hk1, hk2, q⟩ | ⟨hk, q⟩
    rotate_left
    · rw [decide_eq_true (show (3000 : Int) < (if k < 0 then -k else k) by split <;> omega)]
      refine iteT ?_
      walk_at "rd"
      refine ⟨by decide, by decide +kernel, fun z => ?_⟩
      walk_at "rd"
      exact ⟨small_line (by simp), q⟩
    rw [decide_eq_false (show ¬ (3000 : Int) < (if k < 0 then -k else k) by split <;> omega)]
    refine iteF ?_
    walk_at "rd"
    refine rd_ixT (SqT.of k1) rfl ?_
    walk_at "rd"
    obtain ⟨B, hB⟩ : ∃ B : Nat, (if (b : Int) + k > 0 then (b : Int) + k else 0) = (B : Int) := ⟨(if (b : Int) + k > 0 then (b : Int) + k else 0).toNat, by split <;> omega⟩
    have hB' : (B : Int) = max 0 ((b : Int) + k) := by rw [← hB]; split <;> omega
    rw [hB]
    clear hB
    refine rd_ixT (SqT.of k1) rfl ?_
    walk_at "rd"
    obtain ⟨n, hn⟩ : ∃ n : Nat, (B : Int) - k + (s1 : Int) = (n : Int) := ⟨((B : Int) - k + (s1 : Int)).toNat, by omega⟩
    rw [hn]
    refine ⟨_, (n : Int), b, s1, o, a, rfl, hv.1, hv.2, by omega, by omega, fun m H1 e1 hmn hm => ?_⟩
    rw [Int.toNat_natCast] at hm
    walk_at "rd"
    refine ⟨small_line (by simp), rd_new fun m2 H2 e2 hm2 _ => ?_⟩
    walk_at "rd"
    obtain ⟨Z, hZ⟩ : ∃ Z : Nat, (if k > 0 then k else 0) = (Z : Int) := ⟨(if k > 0 then k else 0).toNat, by split <;> omega⟩
    obtain ⟨C, hC⟩ : ∃ C : Nat, (if -k > 0 then -k else 0) = (C : Int) := ⟨(if -k > 0 then -k else 0).toNat, by split <;> omega⟩
    have hZC : (Z : Int) - C = k ∧ (Z = 0 ∨ C = 0) := by
      split at hZ <;> split at hC <;> omega
    rw [hZ]
    clear hZ
    refine rd_rep hm2 (by omega) (small_line (by simp; omega)) (rd_new fun m3 H3 e3 hm3 _ => ?_)
    rw [mkB_rep, Int.toNat_natCast] at hm3
    walk_at "rd"
    rw [hC]
    clear hC
    refine rd_slL (SqL.of (e3 _ _ (e2 _ _ hm))) (rd_new fun m4 H4 e4 hm4 _ => ?_)
    rw [mkB_drop (by omega) (by omega), Int.toNat_natCast] at hm4
    refine rd_cat (e4 _ _ hm3) hm4 (small_line (by rw [mkB_len, mkB_len]; omega)) (rd_new fun m5 H5 e5 hm5 _ => ?_)
    rw [mv_list hZC.1 hZC.2 (B := B) (s := s1) (by omega) (by omega)] at hm5
    walk_at "rd"
    refine ⟨m5, B, s1, _, rfl, y1, by omega, hm5, mvF_per hper (by omega), fun v' l d H6 e6 hL hl hd hst => ?_⟩
    exact q v' l d H6 (e1.trans (e2.trans (e3.trans (e4.trans (e5.trans e6))))) hL (by omega) hd hst
noncomputable def sp__law_refused (K : PySem.W.Frag) : Sp := fun vs H Q _ => ∃ (v : V) (k : Int) (b s : Nat) (o a : List Int), vs = [v, .int k] ∧ SN H v b s o a ∧
  ∀ H', Ext H H' → Q (.str (if -3000 ≤ k ∧ k ≤ 3000 then "told" else "great")) H'
noncomputable abbrev s__law_refused : Stmt := top 43
theorem sc__law_refused : FnScope ["_law_stair", "_law_k", "_law_word", "e"] ["_law_stair", "_law_k"] (defScope s__law_refused) := ⟨rfl, rfl, rfl, by decide +kernel, rfl, by decide +kernel, by decide +kernel⟩
theorem ok__law_refused {P : Program} {w : World} {K : PySem.W.Frag} {mg : Str → Option Value} {base : Heap} (D : Dfn K mg "_law_refused" s__law_refused ["_law_stair", "_law_k"]) (T : Blt mg) (XF : Xf K mg base allC raisedC) (CX_moved : CalX P w K mg base "moved" 7 ["stair", "k"] (sp_moved K)) : Cal P w K mg base "_law_refused" 8 ["_law_stair", "_law_k"] (sp__law_refused K) := by
  have nd := (sc__law_refused).nd
  refine D.ok sc__law_refused (fun vs H Q E h => ?_) (fun X hX H vs Q E h => ?_)
  · obtain ⟨v, k, b, s, o, a, rfl, _⟩ := h; rfl
  · obtain ⟨f, cdv, A, outer, s, H0, E0, rfl, hr⟩ := hX
    obtain ⟨v, k, b, s1, o, a, rfl, hv, q⟩ := h
    refine ⟨_, (no_implicit_lambda% (pss_cons (no_implicit_lambda% (ps_set (i := 2) nd rfl (Or.inl rfl) pe_str))
        (no_implicit_lambda% (pss_cons (no_implicit_lambda% (ps_try (i := 3) rfl rfl nd rfl rfl rfl (XF.cl "StairError" (by decide +kernel)) rfl (by decide) (pbs_cons (pb_call CX_moved hr (no_implicit_lambda% (pa_cons (no_implicit_lambda% (pv 0)) (no_implicit_lambda% (pa_cons (no_implicit_lambda% (pv 1)) pa_nil))))) pbs_nil) (fun x oe Dx hK hc => (no_implicit_lambda% (pss_cons (no_implicit_lambda% (ps_set (i := 2) nd rfl (Or.inl rfl) pe_str))
        (no_implicit_lambda% (pss_cons (no_implicit_lambda% (ps_ifJ (no_implicit_lambda% (PW.pt (pw_and (no_implicit_lambda% (pt_val (no_implicit_lambda% (pe_callB (call_isiX hK hc) rfl T.isinstance_ PyProof.Rows.boot_isinstance (no_implicit_lambda% (pa_cons (no_implicit_lambda% (pv 3)) (no_implicit_lambda% (pa_cons (no_implicit_lambda% (pe_glob (v := .ref (cA K "TooGreat")) rfl (XF.cl "TooGreat" (by decide +kernel)) rfl)) pa_nil)))))))) (pw_and1 (no_implicit_lambda% (pt_val (no_implicit_lambda% (pe_callB (call_isiX hK hc) rfl T.isinstance_ PyProof.Rows.boot_isinstance (no_implicit_lambda% (pa_cons (no_implicit_lambda% (pv 3)) (no_implicit_lambda% (pa_cons (no_implicit_lambda% (pe_bltn (v := .ty "ValueError") rfl T.ValueError_ PyProof.Rows.Boot.«ValueError» rfl)) pa_nil)))))))))))) (no_implicit_lambda% (pss_one (no_implicit_lambda% (ps_set (i := 2) nd rfl (Or.inl rfl) pe_str)))) pss_nil))
        (no_implicit_lambda% (pss_one (no_implicit_lambda% (ps_ifJ (no_implicit_lambda% (pt_val (no_implicit_lambda% (pe_callB (call_isiX hK hc) rfl T.isinstance_ PyProof.Rows.boot_isinstance (no_implicit_lambda% (pa_cons (no_implicit_lambda% (pv 3)) (no_implicit_lambda% (pa_cons (no_implicit_lambda% (pe_tup (no_implicit_lambda% (pa_cons (no_implicit_lambda% (pe_glob (v := .ref (cA K "Endless")) rfl (XF.cl "Endless" (by decide +kernel)) rfl)) (no_implicit_lambda% (pa_cons (no_implicit_lambda% (pe_glob (v := .ref (cA K "NoDeed")) rfl (XF.cl "NoDeed" (by decide +kernel)) rfl)) (no_implicit_lambda% (pa_cons (no_implicit_lambda% (pe_glob (v := .ref (cA K "NoHouse")) rfl (XF.cl "NoHouse" (by decide +kernel)) rfl)) (no_implicit_lambda% (pa_cons (no_implicit_lambda% (pe_glob (v := .ref (cA K "NoLine")) rfl (XF.cl "NoLine" (by decide +kernel)) rfl)) (no_implicit_lambda% (pa_cons (no_implicit_lambda% (pe_glob (v := .ref (cA K "NoPlace")) rfl (XF.cl "NoPlace" (by decide +kernel)) rfl)) (no_implicit_lambda% (pa_cons (no_implicit_lambda% (pe_glob (v := .ref (cA K "NoStair")) rfl (XF.cl "NoStair" (by decide +kernel)) rfl)) (no_implicit_lambda% (pa_cons (no_implicit_lambda% (pe_glob (v := .ref (cA K "NoText")) rfl (XF.cl "NoText" (by decide +kernel)) rfl)) (no_implicit_lambda% (pa_cons (no_implicit_lambda% (pe_glob (v := .ref (cA K "NotBare")) rfl (XF.cl "NotBare" (by decide +kernel)) rfl)) (no_implicit_lambda% (pa_cons (no_implicit_lambda% (pe_glob (v := .ref (cA K "NoWalk")) rfl (XF.cl "NoWalk" (by decide +kernel)) rfl)) (no_implicit_lambda% (pa_cons (no_implicit_lambda% (pe_glob (v := .ref (cA K "NoWay")) rfl (XF.cl "NoWay" (by decide +kernel)) rfl)) pa_nil)))))))))))))))))))))) pa_nil)))))))) (no_implicit_lambda% (pss_one (no_implicit_lambda% (ps_set (i := 2) nd rfl (Or.inl rfl) pe_str)))) pss_nil)))))))))))
        (no_implicit_lambda% (pss_one (no_implicit_lambda% (ps_ret (no_implicit_lambda% (pv 2)))))))))), ?_⟩
    walk_at "rd"
    by_cases hk : -3000 ≤ k ∧ k ≤ 3000
    · refine ⟨v, k, b, s1, o, a, rfl, hv, .inl ⟨hk.1, hk.2, fun v' l d H1 e1 _ _ _ _ => ?_⟩⟩
      walk_at "rd"
      have := q H1 e1
      rw [if_pos hk] at this
      exact this
    · refine ⟨v, k, b, s1, o, a, rfl, hv, .inr ⟨by omega, ?_⟩⟩
      refine ⟨_, rfl, XF.up "TooGreat" (by decide +kernel), XF.exk "TooGreat" (by decide +kernel), fun x hx => ?_⟩
      have kt : PySem.W.kitOne K (.ref (cA K "TooGreat")) (.ref (cA K "TooGreat")) = some true := (XF.kc "TooGreat" (by decide +kernel) "TooGreat" (by decide +kernel)).trans (by decide +kernel)
      have kn : ∀ y ∈ (["Endless", "NoDeed", "NoHouse", "NoLine", "NoPlace", "NoStair", "NoText", "NotBare", "NoWalk", "NoWay"] : List Str), y ∈ allC ∧ (("TooGreat" : Str) == y || y == ("StairError" : Str)) = false := by decide +kernel
      walk_at "rd"
      refine rd_ifN ?_
      walk_at "rd"
      refine rd_isiC kt ?_
      walk_at "rd"
      refine iteT ?_
      walk_at "rd"
      refine rd_isiT (XF.kv "TooGreat" (by decide +kernel)) ?_
      walk_at "rd"
      refine iteT ?_
      walk_at "rd"
      refine rd_ifN ?_
      walk_at "rd"
      refine ⟨small_line (by simp), rd_new fun tp H1 e1 ht _ => ?_⟩
      walk_at "rd"
      refine rd_isiP (Cs := (["Endless", "NoDeed", "NoHouse", "NoLine", "NoPlace", "NoStair", "NoText", "NotBare", "NoWalk", "NoWay"] : List Str).map (cA K)) ht (kitAny_no fun C hC => ?_) ?_
      · obtain ⟨y, hy, rfl⟩ := List.mem_map.mp hC
        exact (XF.kc "TooGreat" (by decide +kernel) y (kn y hy).1).trans (by rw [(kn y hy).2])
      walk_at "rd"
      refine iteF ?_
      walk_at "rd"
      have := q H1 e1
      rw [if_neg hk] at this
      exact this
theorem mv_up {k n : Nat} {f : Nat → Bool} : mkB k (fun _ => false) ++ mkB n f = mkB (k + n) (mvF k f) := by
  rw [mkB_append]
  refine mkB_congr fun i hi => ?_
  unfold mvF
  by_cases h : i < k
  · rw [if_pos h, decide_eq_false (by omega), Bool.false_and]
  · rw [if_neg h, decide_eq_true (by omega), Bool.true_and]
    congr 1
    omega
noncomputable def sp_law (K : PySem.W.Frag) : Sp := fun vs H Q _ => ∃ (a : Addr) (ns : List Int), vs = [.ref a] ∧ SqL K H a (ns.map V.int) ∧ ns.length ≤ 63 ∧ ∀ H', Q (.bl true) H'
noncomputable abbrev s_law : Stmt := top 44
theorem sc_law : FnScope ["_law_script", "_law_stair", "_law_draws_here", "_law_k", "_law_base", "_law_step", "_law_bits_here", "_law_up", "_law_down", "_law_far"] ["_law_script"] (defScope s_law) := ⟨rfl, rfl, rfl, by decide +kernel, rfl, by decide +kernel, by decide +kernel⟩
theorem ok_law {P : Program} {w : World} {K : PySem.W.Frag} {mg : Str → Option Value} {base : Heap} {f : Addr} {fd : FuncData} (F : Fun K "law" "law" s_law f fd) (T : Blt mg) (C__law_refused : Cal P w K mg base "_law_refused" 8 ["_law_stair", "_law_k"] (sp__law_refused K)) (C__law_draws : Cal P w K mg base "_law_draws" 2 ["_law_cell_here", "_law_widths", "_law_prime"] (sp__law_draws K)) (C__law_cell : Cal P w K mg base "_law_cell" 1 ["_law_script", "_law_k"] (sp__law_cell K)) (C_least : Cal P w K mg base "least" 7 ["stair"] (sp_least K)) (C__law_is_due : Cal P w K mg base "_law_is_due" 4 ["_law_found", "_law_due"] (sp__law_is_due K)) (C__law_least : Cal P w K mg base "_law_least" 1 ["_law_bits_here", "_law_base", "_law_step"] (sp__law_least K)) (C__law_stair_bits : Cal P w K mg base "_law_stair_bits" 1 ["_law_stair", "_law_many"] (sp__law_stair_bits K)) (C__law_some_stair : Cal P w K mg base "_law_some_stair" 4 ["_law_cell_here", "_law_prime"] (sp__law_some_stair K)) (C0_moved : Cal P w K mg base "moved" 7 ["stair", "k"] (fun vs H Q _ => sp_moved K vs H Q E0)) : FnOk P w K mg base CX0 9 f fd ["_law_script"] (sp_law K) := by
  have nd := (sc_law).nd
  refine F.ok sc_law (fun vs H Q E h => ?_) (fun cdv A outer s H vs Q E hr h => ?_)
  · obtain ⟨a, ns, rfl, _⟩ := h; rfl
  · obtain ⟨a, ns, rfl, ha, hl, q⟩ := h
    refine ⟨_, (no_implicit_lambda% (pss_cons (no_implicit_lambda% (ps_set (i := 1) nd rfl (Or.inl rfl) (no_implicit_lambda% (pe_cal C__law_some_stair hr (no_implicit_lambda% (pa_cons (no_implicit_lambda% (pe_cal C__law_cell hr (no_implicit_lambda% (pa_cons (no_implicit_lambda% (pv 0)) (no_implicit_lambda% (pa_cons pe_int pa_nil)))))) (no_implicit_lambda% (pa_cons pe_int pa_nil))))))))
        (no_implicit_lambda% (pss_cons (no_implicit_lambda% (ps_set (i := 2) nd rfl (Or.inl rfl) (no_implicit_lambda% (pe_cal C__law_draws hr (no_implicit_lambda% (pa_cons (no_implicit_lambda% (pe_cal C__law_cell hr (no_implicit_lambda% (pa_cons (no_implicit_lambda% (pv 0)) (no_implicit_lambda% (pa_cons pe_int pa_nil)))))) (no_implicit_lambda% (pa_cons (no_implicit_lambda% (pe_lst (no_implicit_lambda% (pa_ints (.c (.c (.c (.c .n)))))))) (no_implicit_lambda% (pa_cons pe_int pa_nil))))))))))
        (no_implicit_lambda% (pss_cons (no_implicit_lambda% (ps_set (i := 3) nd rfl (Or.inl rfl) (no_implicit_lambda% (pe_op op_mod (no_implicit_lambda% (pe_ix (ix_listK K) (no_implicit_lambda% (pv 2)) pe_int (fun _ _ => rfl))) (no_implicit_lambda% (pe_ix (ix_listK K) (no_implicit_lambda% (pe_lst (no_implicit_lambda% (pa_ints (.c (.c (.c (.c .n)))))))) (no_implicit_lambda% (pe_ix (ix_listK K) (no_implicit_lambda% (pv 2)) pe_int (fun _ _ => rfl))) (fun _ _ => rfl)))))))
        (no_implicit_lambda% (pss_cons (no_implicit_lambda% (ps_ifJ (no_implicit_lambda% (pt_cmpR op_eq (no_implicit_lambda% (pe_ix (ix_listK K) (no_implicit_lambda% (pv 2)) pe_int (fun _ _ => rfl))) pe_int (nomark _))) (no_implicit_lambda% (pss_one (no_implicit_lambda% (ps_set (i := 3) nd rfl (Or.inl rfl) (no_implicit_lambda% (pe_ix (ix_listK K) (no_implicit_lambda% (pe_lst (no_implicit_lambda% (pa_cons pe_int (no_implicit_lambda% (pa_cons pe_int (no_implicit_lambda% (pa_cons pe_int pa_nil)))))))) (no_implicit_lambda% (pe_ix (ix_listK K) (no_implicit_lambda% (pv 2)) pe_int (fun _ _ => rfl))) (fun _ _ => rfl))))))) pss_nil))
        (no_implicit_lambda% (pss_cons (no_implicit_lambda% (ps_asg (no_implicit_lambda% (pe_slice sl_tup1 (no_implicit_lambda% (pv 1)) po_none (po_some pe_int))) (no_implicit_lambda% (pg_tupK (n := 2) K rfl (pgs_cons (no_implicit_lambda% (pg_name (i := 4) nd rfl (Or.inl rfl))) (pgs_cons (no_implicit_lambda% (pg_name (i := 5) nd rfl (Or.inl rfl))) pgs_nil))))))
        (no_implicit_lambda% (pss_cons (no_implicit_lambda% (ps_set (i := 6) nd rfl (Or.inl rfl) (no_implicit_lambda% (pe_cal C__law_stair_bits hr (no_implicit_lambda% (pa_cons (no_implicit_lambda% (pv 1)) (no_implicit_lambda% (pa_cons (no_implicit_lambda% (pe_op op_add (no_implicit_lambda% (pe_op op_add (no_implicit_lambda% (pv 4)) (no_implicit_lambda% (pv 5)))) pe_int)) pa_nil))))))))
        (no_implicit_lambda% (pss_cons (no_implicit_lambda% (ps_set (i := 7) nd rfl (Or.inl rfl) (no_implicit_lambda% (pe_cal C__law_least hr (no_implicit_lambda% (pa_cons (no_implicit_lambda% (pe_op op_cat (no_implicit_lambda% (pe_op op_rep (no_implicit_lambda% (pe_lst (no_implicit_lambda% (pa_cons pe_bl pa_nil)))) (no_implicit_lambda% (pv 3)))) (no_implicit_lambda% (pv 6)))) (no_implicit_lambda% (pa_cons (no_implicit_lambda% (pe_op op_add (no_implicit_lambda% (pv 4)) (no_implicit_lambda% (pv 3)))) (no_implicit_lambda% (pa_cons (no_implicit_lambda% (pv 5)) pa_nil))))))))))
        (no_implicit_lambda% (pss_cons (no_implicit_lambda% (ps_set (i := 8) nd rfl (Or.inl rfl) (no_implicit_lambda% (pe_cal C__law_least hr (no_implicit_lambda% (pa_cons (no_implicit_lambda% (pe_slice (sl_listK K) (no_implicit_lambda% (pv 6)) (po_some (no_implicit_lambda% (pv 3))) po_none)) (no_implicit_lambda% (pa_cons (no_implicit_lambda% (pe_callB (call_max2N rfl) rfl T.max_ PyProof.Rows.boot_max (no_implicit_lambda% (pa_cons pe_int (no_implicit_lambda% (pa_cons (no_implicit_lambda% (pe_op op_sub (no_implicit_lambda% (pv 4)) (no_implicit_lambda% (pv 3)))) pa_nil)))))) (no_implicit_lambda% (pa_cons (no_implicit_lambda% (pv 5)) pa_nil))))))))))
        (no_implicit_lambda% (pss_cons (no_implicit_lambda% (ps_ifJ (no_implicit_lambda% (PW.pt (pw_or (no_implicit_lambda% (pt_not (no_implicit_lambda% (pt_val (no_implicit_lambda% (pe_cal C__law_is_due hr (no_implicit_lambda% (pa_cons (no_implicit_lambda% (pe_cal C0_moved hr (no_implicit_lambda% (pa_cons (no_implicit_lambda% (pv 1)) (no_implicit_lambda% (pa_cons (no_implicit_lambda% (pv 3)) pa_nil)))))) (no_implicit_lambda% (pa_cons (no_implicit_lambda% (pv 7)) pa_nil)))))))))) (pw_or1 (no_implicit_lambda% (pt_not (no_implicit_lambda% (pt_val (no_implicit_lambda% (pe_cal C__law_is_due hr (no_implicit_lambda% (pa_cons (no_implicit_lambda% (pe_cal C0_moved hr (no_implicit_lambda% (pa_cons (no_implicit_lambda% (pv 1)) (no_implicit_lambda% (pa_cons (no_implicit_lambda% (pe_un un_neg (no_implicit_lambda% (pv 3)))) pa_nil)))))) (no_implicit_lambda% (pa_cons (no_implicit_lambda% (pv 8)) pa_nil)))))))))))))) (no_implicit_lambda% (pss_one (no_implicit_lambda% (ps_ret pe_bl)))) pss_nil))
        (no_implicit_lambda% (pss_cons (no_implicit_lambda% (ps_ifJ (no_implicit_lambda% (PW.pt (pw_and (no_implicit_lambda% (pt_cmpR op_le (no_implicit_lambda% (pe_op op_add (no_implicit_lambda% (pv 4)) (no_implicit_lambda% (pv 3)))) pe_int (nomark _))) (pw_and1 (no_implicit_lambda% (pt_cmpR (op_neD hr) (no_implicit_lambda% (pe_cal C0_moved hr (no_implicit_lambda% (pa_cons (no_implicit_lambda% (pe_cal C0_moved hr (no_implicit_lambda% (pa_cons (no_implicit_lambda% (pv 1)) (no_implicit_lambda% (pa_cons (no_implicit_lambda% (pv 3)) pa_nil)))))) (no_implicit_lambda% (pa_cons (no_implicit_lambda% (pe_un un_neg (no_implicit_lambda% (pv 3)))) pa_nil)))))) (no_implicit_lambda% (pe_cal C_least hr (no_implicit_lambda% (pa_cons (no_implicit_lambda% (pv 1)) pa_nil)))) (nomark _))))))) (no_implicit_lambda% (pss_one (no_implicit_lambda% (ps_ret pe_bl)))) pss_nil))
        (no_implicit_lambda% (pss_cons (no_implicit_lambda% (ps_set (i := 9) nd rfl (Or.inl rfl) (no_implicit_lambda% (pe_op op_add pe_int (no_implicit_lambda% (pe_op op_mul (no_implicit_lambda% (pe_ix (ix_listK K) (no_implicit_lambda% (pe_cal C__law_draws hr (no_implicit_lambda% (pa_cons (no_implicit_lambda% (pe_cal C__law_cell hr (no_implicit_lambda% (pa_cons (no_implicit_lambda% (pv 0)) (no_implicit_lambda% (pa_cons pe_int pa_nil)))))) (no_implicit_lambda% (pa_cons (no_implicit_lambda% (pe_lst (no_implicit_lambda% (pa_cons (no_implicit_lambda% (pe_op op_pow pe_int pe_int)) pa_nil)))) (no_implicit_lambda% (pa_cons pe_int pa_nil)))))))) pe_int (fun _ _ => rfl))) (no_implicit_lambda% (pe_ix (ix_listK K) (no_implicit_lambda% (pv 2)) pe_int (fun _ _ => rfl)))))))))
        (no_implicit_lambda% (pss_cons (no_implicit_lambda% (ps_ifJ (no_implicit_lambda% (PW.pt (pw_or (no_implicit_lambda% (pt_cmpR op_ne (no_implicit_lambda% (pe_cal C__law_refused hr (no_implicit_lambda% (pa_cons (no_implicit_lambda% (pv 1)) (no_implicit_lambda% (pa_cons (no_implicit_lambda% (pv 9)) pa_nil)))))) pe_str (nomark _))) (pw_or1 (no_implicit_lambda% (pt_cmpR op_ne (no_implicit_lambda% (pe_cal C__law_refused hr (no_implicit_lambda% (pa_cons (no_implicit_lambda% (pv 1)) (no_implicit_lambda% (pa_cons (no_implicit_lambda% (pe_un un_neg (no_implicit_lambda% (pv 9)))) pa_nil)))))) pe_str (nomark _))))))) (no_implicit_lambda% (pss_one (no_implicit_lambda% (ps_ret pe_bl)))) pss_nil))
        (no_implicit_lambda% (pss_one (no_implicit_lambda% (ps_ret (no_implicit_lambda% (pe_and (no_implicit_lambda% (pe_cmpR op_eq (no_implicit_lambda% (pe_cal C__law_refused hr (no_implicit_lambda% (pa_cons (no_implicit_lambda% (pv 1)) (no_implicit_lambda% (pa_cons pe_int pa_nil)))))) pe_str (nomark _))) (pe_one (no_implicit_lambda% (pe_cmpR op_eq (no_implicit_lambda% (pe_cal C__law_refused hr (no_implicit_lambda% (pa_cons (no_implicit_lambda% (pv 1)) (no_implicit_lambda% (pa_cons (no_implicit_lambda% (pe_un un_neg pe_int)) pa_nil)))))) pe_str (nomark _)))))))))))))))))))))))))))))))))), ?_⟩
    walk_at "rd"
    refine ⟨a, ns, 0, rfl, ha, hl, by decide, fun z => ?_⟩
    walk_at "rd"
    refine ⟨z, _, rfl, by decide, fun w1 c1 d1 o1 a1 H1 e1 hv1 hg1 => ?_⟩
    obtain ⟨b1, s1, h1⟩ : ∃ b1 s1 : Nat, SN H1 w1 b1 s1 o1 a1 := ⟨_, _, SN.of hv1 hg1⟩
    clear hv1 hg1
    have x1 := h1.b3
    have y1 := h1.s1
    have y8 := h1.s8
    have hper := fn_perN h1.2
    walk_at "rd"
    refine ⟨a, ns, 1, rfl, ha.ext e1, hl, by decide, fun z2 => ?_⟩
    walk_at "rd"
    refine ⟨small_line (by simp), rd_new fun w' H2 e2 hw _ => ?_⟩
    walk_at "rd"
    refine ⟨z2, w', [4, 2, 3001, 3], _, rfl, hw, by decide, by decide, by decide, fun dq ds H3 e3 hd _ hdl hdb => ?_⟩
    obtain ⟨d0, d1, d2, d3, rfl⟩ : ∃ d0 d1 d2 d3, ds = [d0, d1, d2, d3] := ar4 (P := fun ds => ∃ d0 d1 d2 d3, ds = [d0, d1, d2, d3]) (fun x y z u => ⟨x, y, z, u, rfl⟩) ds hdl
    have k0 := hdb 0 _ _ rfl rfl
    have k1 := hdb 1 _ _ rfl rfl
    have k2 := hdb 2 _ _ rfl rfl
    have k3 := hdb 3 _ _ rfl rfl
    walk_at "rd"
    refine rd_ixL (SqL.of hd) (v := .int d2) rfl ?_
    walk_at "rd"
    refine ⟨small_line (by simp), rd_new fun mq H4 e4 hm4 _ => ?_⟩
    walk_at "rd"
    refine rd_ixL (SqL.of (e4 _ _ hd)) (v := .int d0) rfl ?_
    obtain ⟨w, hw1, hw2, hw3⟩ : ∃ w : Int, 1 ≤ w ∧ w ≤ 3001 ∧ atI (([13, 201, 3001, 1] : List Int).map V.int) d0 = some (.int w) := by
      have : d0 = 0 ∨ d0 = 1 ∨ d0 = 2 ∨ d0 = 3 := by omega
      rcases this with rfl | rfl | rfl | rfl <;> exact ⟨_, by decide, by decide, rfl⟩
    refine rd_ixL (SqL.of hm4) hw3 ?_
    try refine rd_I (show (0 : Int) < w by omega) ?_
    walk_at "rd"
    have r0 : 0 ≤ d2 % w := Int.emod_nonneg _ (by omega)
    have r1 : d2 % w < w := Int.emod_lt_of_pos _ (by omega)
    have e14 : Ext H1 H4 := e2.trans (e3.trans e4)
    refine rd_ifJ (fun σ' H' => Ext H4 H' ∧ ∃ k : Nat, k ≤ 3000 ∧ σ' = [some (.ref a), some w1, some (.ref dq), some (.int k), none, none, none, none, none, none]) ?_ ?_
    · walk_at "rd"
      refine rd_ixL (SqL.of (e4 _ _ hd)) (v := .int d0) rfl ?_
      walk_at "rd"
      refine ite2 (fun h => ?_) (fun h => ?_)
      · walk_at "rd"
        refine ⟨small_line (by simp), rd_new fun nq H5 e5 hm5 _ => ?_⟩
        walk_at "rd"
        refine rd_ixL (SqL.of (e5 _ _ (e4 _ _ hd))) (v := .int d3) rfl ?_
        obtain ⟨u, hu1, hu3⟩ : ∃ u : Nat, u ≤ 3000 ∧ atI [V.int 0, V.int 3000, V.int 2999] d3 = some (.int u) := by
          have : d3 = 0 ∨ d3 = 1 ∨ d3 = 2 := by omega
          rcases this with rfl | rfl | rfl
          · exact ⟨0, by decide, rfl⟩
          · exact ⟨3000, by decide, rfl⟩
          · exact ⟨2999, by decide, rfl⟩
        refine rd_ixL (SqL.of hm5) hu3 ?_
        walk_at "rd"
        exact ⟨e5, u, hu1, rfl⟩
      · walk_at "rd"
        exact ⟨Ext.rfl' H4, (d2 % w).toNat, by omega, by rw [Int.toNat_of_nonneg r0]; rfl⟩
    rintro σ' H5 ⟨e5, k, hk, rfl⟩
    clear k0 k2 k3 hw1 hw2 r0 r1
    have e15 : Ext H1 H5 := e14.trans e5
    have h5 := h1.ext e15
    obtain ⟨p, oq, ar, rfl, k1', _, _⟩ := id h5.1
    walk_at "rd"
    refine rd_slT1 k1' fun t2 H6 e6 ht2 => ?_
    replace ht2 : H6 t2 = some (.tup [.int b1, .int s1]) := ht2
    refine rd_gtup (SqT.of ht2) rfl ?_
    walk_at "rd"
    have h6 := h5.ext e6
    refine ⟨_, (b1 : Int) + (s1 : Int) + 3000, b1, s1, o1, a1, rfl, h6.1, h6.2, by omega, by omega, fun bq H7 e7 hbn hbq => ?_⟩
    rw [show ((b1 : Int) + (s1 : Int) + 3000).toNat = b1 + s1 + 3000 by omega] at hbq
    walk_at "rd"
    refine ⟨small_line (by simp), rd_new fun m1 H8 e8 hm1 _ => ?_⟩
    walk_at "rd"
    refine rd_rep hm1 (by omega) (small_line (by simp; omega)) (rd_new fun m2 H9 e9 hm2 _ => ?_)
    rw [mkB_rep, Int.toNat_natCast] at hm2
    walk_at "rd"
    have hbq9 := e9 _ _ (e8 _ _ hbq)
    refine rd_cat hm2 hbq9 (small_line (by rw [mkB_len, mkB_len]; omega)) (rd_new fun m3 I1 f1 hm3 _ => ?_)
    rw [mv_up] at hm3
    walk_at "rd"
    refine ⟨m3, b1 + k, s1, k + (b1 + s1 + 3000), _, by rw [show (b1 : Int) + (k : Int) = ((b1 + k : Nat) : Int) by omega]; rfl, y1, by omega, by omega, hm3, mvF_per hper (by omega), fun vu lu du I2 f2 hLu hlu hdu hstu => ?_⟩
    walk_at "rd"
    have hbqI := f2 _ _ (f1 _ _ hbq9)
    refine rd_slL (SqL.of hbqI) (rd_new fun m4 I3 f3 hm4' _ => ?_)
    rw [mkB_drop (by omega) (by omega), Int.toNat_natCast] at hm4'
    walk_at "rd"
    obtain ⟨B, hB⟩ : ∃ B : Nat, (if (b1 : Int) - (k : Int) > 0 then (b1 : Int) - (k : Int) else 0) = (B : Int) := ⟨(if (b1 : Int) - (k : Int) > 0 then (b1 : Int) - (k : Int) else 0).toNat, by split <;> omega⟩
    have hB' : (B : Int) = max 0 ((b1 : Int) - (k : Int)) := by rw [← hB]; split <;> omega
    rw [hB]
    rw [← mvF_down] at hm4'
    refine ⟨m4, B, s1, b1 + s1 + 3000 - k, _, rfl, y1, by omega, by omega, hm4', mvF_per hper (by omega), fun vd ld dd I4 f4 hLd hld hdd hstd => ?_⟩
    have e6I : Ext H6 I4 := e7.trans (e8.trans (e9.trans (f1.trans (f2.trans (f3.trans f4)))))
    have hI := h6.ext e6I
    walk_at "rd"
    refine rd_ifN ?_
    walk_at "rd"
    refine ⟨_, (k : Int), b1, s1, o1, a1, rfl, hI, .inl ⟨by omega, by omega, fun v1 l1 d1' I5 f5 hL1 _ _ hst1 => ?_⟩⟩
    obtain ⟨rfl, rfl⟩ := hL1.one hLu
    walk_at "rd"
    refine ⟨v1, vu, _, _, _, _, rfl, hst1, hstu.ext (f3.trans (f4.trans f5)), row_gw hL1.pos (by omega) (by omega), fun I6 f6 => ?_⟩
    walk_at "rd"
    refine iteF ?_
    walk_at "rd"
    refine ⟨_, -(k : Int), b1, s1, o1, a1, rfl, hI.ext (f5.trans f6), .inl ⟨by omega, by omega, fun v2 l2 d2' I7 f7 hL2 _ _ hst2 => ?_⟩⟩
    obtain ⟨rfl, rfl⟩ := hL2.one hLd
    walk_at "rd"
    refine ⟨v2, vd, _, _, _, _, rfl, hst2, hstd.ext (f5.trans (f6.trans f7)), row_gw hL2.pos (by omega) (by omega), fun I8 f8 => ?_⟩
    walk_at "rd"
    refine iteF ?_
    have e4I : Ext I4 I8 := f5.trans (f6.trans (f7.trans f8))
    have hJ := hI.ext e4I
    walk_at "rd"
    refine rd_ifJ (fun σ' H' => Ext I8 H' ∧ σ' = [some (.ref a), some (.ref p), some (.ref dq), some (.int k), some (.int b1), some (.int s1), some (.ref bq), some vu, some vd, none]) ?_ ?_
    · walk_at "rd"
      by_cases hle : (b1 : Int) + (k : Int) ≤ 3000
      · rw [decide_eq_true hle]
        refine iteT ?_
        walk_at "rd"
        refine ⟨_, (k : Int), b1, s1, o1, a1, rfl, hJ, .inl ⟨by omega, by omega, fun v3 l3 d3' J1 g1 hL3 hl3 hd3 hst3 => ?_⟩⟩
        walk_at "rd"
        refine ⟨v3, -(k : Int), l3, d3', _, _, rfl, ⟨hst3, row_gdN hL3.pos (by omega) (by omega)⟩, .inl ⟨by omega, by omega, fun v4 l4 d4 J2 g2 hL4 _ _ hst4 => ?_⟩⟩
        rw [fn_rowN hL3.pos hL3.per, mvF_back] at hL4 hst4
        walk_at "rd"
        refine ⟨_, _, _, _, _, rfl, (hJ.ext (g1.trans g2)).1, h1.2, fun v5 l5 d5 J3 g3 hL5 _ _ hst5 => ?_⟩
        obtain ⟨rfl, rfl⟩ := hL5.one hL4
        refine ⟨2, 2, _, _, (hst4.ext g3).rep, hst5.rep, by decide, ?_⟩
        rw [hst5.eqv]
        walk_at "rd"
        refine iteF ?_
        walk_at "rd"
        exact ⟨g1.trans (g2.trans g3), rfl⟩
      · rw [decide_eq_false hle]
        refine iteF ?_
        walk_at "rd"
        refine iteF ?_
        walk_at "rd"
        exact ⟨Ext.rfl' I8, rfl⟩
    rintro σ' J4 ⟨g4, rfl⟩
    have E4 : Ext H3 J4 := e4.trans (e5.trans (e6.trans (e6I.trans (e4I.trans g4))))
    walk_at "rd"
    refine ⟨a, ns, 2, rfl, ha.ext (e1.trans (e2.trans (e3.trans E4))), hl, by decide, fun z4 => ?_⟩
    walk_at "rd"
    refine ⟨small_line (by simp), rd_new fun wq J5 g5 hwq _ => ?_⟩
    walk_at "rd"
    refine ⟨z4, wq, [10 ^ 8], _, rfl, hwq, by decide, by decide, by decide, fun eq es J6 g6 he _ hel heb => ?_⟩
    obtain ⟨x, rfl⟩ : ∃ x, es = [x] := ar1 (P := fun es => ∃ x, es = [x]) (fun x => ⟨x, rfl⟩) es hel
    have hx := heb 0 _ _ rfl rfl
    walk_at "rd"
    refine rd_ixL (SqL.of he) (v := .int x) rfl ?_
    walk_at "rd"
    refine rd_ixL (SqL.of ((E4.trans (g5.trans g6)) _ _ hd)) (v := .int d1) rfl ?_
    try refine rd_I (show CMul _ _ from .inr (by omega)) ?_
    walk_at "rd"
    have hfar : 0 ≤ x * d1 := Int.mul_nonneg hx.1 k1.1
    generalize x * d1 = far at hfar
    have hM := hJ.ext (g4.trans (g5.trans g6))
    refine rd_ifN ?_
    walk_at "rd"
    refine ⟨_, 3001 + far, _, _, _, _, rfl, hM, fun J7 g7 => ?_⟩
    rw [if_neg (by omega)]
    walk_at "rd"
    refine ⟨rfl, ?_⟩
    rw [show decide (V.str "great" = V.str "great") = true from decide_eq_true rfl]
    walk_at "rd"
    refine iteF ?_
    walk_at "rd"
    refine ⟨_, -(3001 + far), _, _, _, _, rfl, hM.ext g7, fun J8 g8 => ?_⟩
    rw [if_neg (by omega)]
    walk_at "rd"
    refine ⟨rfl, ?_⟩
    rw [show decide (V.str "great" = V.str "great") = true from decide_eq_true rfl]
    walk_at "rd"
    refine iteF ?_
    walk_at "rd"
    refine ⟨_, 3000, _, _, _, _, rfl, hM.ext (g7.trans g8), fun J9 g9 => ?_⟩
    rw [if_pos (by omega)]
    walk_at "rd"
    refine ⟨rfl, ?_⟩
    rw [show decide (V.str "told" = V.str "told") = true from decide_eq_true rfl]
    walk_at "rd"
    refine iteT ?_
    walk_at "rd"
    refine ⟨_, -3000, _, _, _, _, rfl, hM.ext (g7.trans (g8.trans g9)), fun J10 g10 => ?_⟩
    rw [if_pos (by omega)]
    walk_at "rd"
    refine ⟨rfl, ?_⟩
    rw [show decide (V.str "told" = V.str "told") = true from decide_eq_true rfl]
    exact q _
theorem all_mk {l : PySem.W.OpenLaw} {w : World} {K : PySem.W.Frag} {h : Heap} {mg : Str → Option Value} {fa : Addr} (X : K.In h) (G : h.Ns mainGlobals mg) (hfa : mg "law" = some (.ref fa))
    {f0 : Addr} {od0 an0 : Option Addr} {sl0 : Array (Option Value)} {oc0 kV0 dc0 pm0 cd0 ct0 : Value} (a0 : PySem.W.nsIn K mainGlobals "least_step" = some (some (.ref f0))) (l0 : K.lookup f0 = some ⟨oc0, od0, .func (PySem.W.fnOf "least_step" "least_step" (defArgs s_least_step) (defBody s_least_step) (defScope s_least_step) .none kV0 dc0 pm0 an0 cd0 ct0), sl0⟩) (c0 : PySem.W.codeIn K cd0 "least_step" = true) (k0 : PySem.W.keepIn K (.ref f0) = true)
    {f1 : Addr} {od1 an1 : Option Addr} {sl1 : Array (Option Value)} {oc1 kV1 dc1 pm1 cd1 ct1 : Value} (a1 : PySem.W.nsIn K mainGlobals "stair_of_marks" = some (some (.ref f1))) (l1 : K.lookup f1 = some ⟨oc1, od1, .func (PySem.W.fnOf "stair_of_marks" "stair_of_marks" (defArgs s_stair_of_marks) (defBody s_stair_of_marks) (defScope s_stair_of_marks) .none kV1 dc1 pm1 an1 cd1 ct1), sl1⟩) (c1 : PySem.W.codeIn K cd1 "stair_of_marks" = true) (k1 : PySem.W.keepIn K (.ref f1) = true)
    {f2 : Addr} {od2 an2 : Option Addr} {sl2 : Array (Option Value)} {oc2 kV2 dc2 pm2 cd2 ct2 : Value} (a2 : PySem.W.nsIn K mainGlobals "marks_below" = some (some (.ref f2))) (l2 : K.lookup f2 = some ⟨oc2, od2, .func (PySem.W.fnOf "marks_below" "marks_below" (defArgs s_marks_below) (defBody s_marks_below) (defScope s_marks_below) .none kV2 dc2 pm2 an2 cd2 ct2), sl2⟩) (c2 : PySem.W.codeIn K cd2 "marks_below" = true) (k2 : PySem.W.keepIn K (.ref f2) = true)
    {f3 : Addr} {od3 an3 : Option Addr} {sl3 : Array (Option Value)} {oc3 kV3 dc3 pm3 cd3 ct3 : Value} (a3 : PySem.W.nsIn K mainGlobals "refuse_great_stair" = some (some (.ref f3))) (l3 : K.lookup f3 = some ⟨oc3, od3, .func (PySem.W.fnOf "refuse_great_stair" "refuse_great_stair" (defArgs s_refuse_great_stair) (defBody s_refuse_great_stair) (defScope s_refuse_great_stair) .none kV3 dc3 pm3 an3 cd3 ct3), sl3⟩) (c3 : PySem.W.codeIn K cd3 "refuse_great_stair" = true) (k3 : PySem.W.keepIn K (.ref f3) = true)
    {f4 : Addr} {od4 an4 : Option Addr} {sl4 : Array (Option Value)} {oc4 kV4 dc4 pm4 cd4 ct4 : Value} (a4 : PySem.W.nsIn K mainGlobals "is_whole" = some (some (.ref f4))) (l4 : K.lookup f4 = some ⟨oc4, od4, .func (PySem.W.fnOf "is_whole" "is_whole" (defArgs s_is_whole) (defBody s_is_whole) (defScope s_is_whole) .none kV4 dc4 pm4 an4 cd4 ct4), sl4⟩) (c4 : PySem.W.codeIn K cd4 "is_whole" = true) (k4 : PySem.W.keepIn K (.ref f4) = true)
    {f5 : Addr} {od5 an5 : Option Addr} {sl5 : Array (Option Value)} {oc5 kV5 dc5 pm5 cd5 ct5 : Value} (a5 : PySem.W.nsIn K mainGlobals "is_rising_row" = some (some (.ref f5))) (l5 : K.lookup f5 = some ⟨oc5, od5, .func (PySem.W.fnOf "is_rising_row" "is_rising_row" (defArgs s_is_rising_row) (defBody s_is_rising_row) (defScope s_is_rising_row) .none kV5 dc5 pm5 an5 cd5 ct5), sl5⟩) (c5 : PySem.W.codeIn K cd5 "is_rising_row" = true) (k5 : PySem.W.keepIn K (.ref f5) = true)
    {f6 : Addr} {od6 an6 : Option Addr} {sl6 : Array (Option Value)} {oc6 kV6 dc6 pm6 cd6 ct6 : Value} (a6 : PySem.W.nsIn K mainGlobals "are_stair_places" = some (some (.ref f6))) (l6 : K.lookup f6 = some ⟨oc6, od6, .func (PySem.W.fnOf "are_stair_places" "are_stair_places" (defArgs s_are_stair_places) (defBody s_are_stair_places) (defScope s_are_stair_places) .none kV6 dc6 pm6 an6 cd6 ct6), sl6⟩) (c6 : PySem.W.codeIn K cd6 "are_stair_places" = true) (k6 : PySem.W.keepIn K (.ref f6) = true)
    {f7 : Addr} {od7 an7 : Option Addr} {sl7 : Array (Option Value)} {oc7 kV7 dc7 pm7 cd7 ct7 : Value} (a7 : PySem.W.nsIn K mainGlobals "is_stair" = some (some (.ref f7))) (l7 : K.lookup f7 = some ⟨oc7, od7, .func (PySem.W.fnOf "is_stair" "is_stair" (defArgs s_is_stair) (defBody s_is_stair) (defScope s_is_stair) .none kV7 dc7 pm7 an7 cd7 ct7), sl7⟩) (c7 : PySem.W.codeIn K cd7 "is_stair" = true) (k7 : PySem.W.keepIn K (.ref f7) = true)
    {f8 : Addr} {od8 an8 : Option Addr} {sl8 : Array (Option Value)} {oc8 kV8 dc8 pm8 cd8 ct8 : Value} (a8 : PySem.W.nsIn K mainGlobals "refuse_no_stair" = some (some (.ref f8))) (l8 : K.lookup f8 = some ⟨oc8, od8, .func (PySem.W.fnOf "refuse_no_stair" "refuse_no_stair" (defArgs s_refuse_no_stair) (defBody s_refuse_no_stair) (defScope s_refuse_no_stair) .none kV8 dc8 pm8 an8 cd8 ct8), sl8⟩) (c8 : PySem.W.codeIn K cd8 "refuse_no_stair" = true) (k8 : PySem.W.keepIn K (.ref f8) = true)
    {f9 : Addr} {od9 an9 : Option Addr} {sl9 : Array (Option Value)} {oc9 kV9 dc9 pm9 cd9 ct9 : Value} (a9 : PySem.W.nsIn K mainGlobals "refuse_bad_stair" = some (some (.ref f9))) (l9 : K.lookup f9 = some ⟨oc9, od9, .func (PySem.W.fnOf "refuse_bad_stair" "refuse_bad_stair" (defArgs s_refuse_bad_stair) (defBody s_refuse_bad_stair) (defScope s_refuse_bad_stair) .none kV9 dc9 pm9 an9 cd9 ct9), sl9⟩) (c9 : PySem.W.codeIn K cd9 "refuse_bad_stair" = true) (k9 : PySem.W.keepIn K (.ref f9) = true)
    {f10 : Addr} {od10 an10 : Option Addr} {sl10 : Array (Option Value)} {oc10 kV10 dc10 pm10 cd10 ct10 : Value} (a10 : PySem.W.nsIn K mainGlobals "moved" = some (some (.ref f10))) (l10 : K.lookup f10 = some ⟨oc10, od10, .func (PySem.W.fnOf "moved" "moved" (defArgs s_moved) (defBody s_moved) (defScope s_moved) .none kV10 dc10 pm10 an10 cd10 ct10), sl10⟩) (c10 : PySem.W.codeIn K cd10 "moved" = true) (k10 : PySem.W.keepIn K (.ref f10) = true)
    {f11 : Addr} {od11 an11 : Option Addr} {sl11 : Array (Option Value)} {oc11 kV11 dc11 pm11 cd11 ct11 : Value} (a11 : PySem.W.nsIn K mainGlobals "_law_refused" = some (some (.ref f11))) (l11 : K.lookup f11 = some ⟨oc11, od11, .func (PySem.W.fnOf "_law_refused" "_law_refused" (defArgs s__law_refused) (defBody s__law_refused) (defScope s__law_refused) .none kV11 dc11 pm11 an11 cd11 ct11), sl11⟩) (c11 : PySem.W.codeIn K cd11 "_law_refused" = true) (k11 : PySem.W.keepIn K (.ref f11) = true)
    {f12 : Addr} {od12 an12 : Option Addr} {sl12 : Array (Option Value)} {oc12 kV12 dc12 pm12 cd12 ct12 : Value} (a12 : PySem.W.nsIn K mainGlobals "_law_mixed" = some (some (.ref f12))) (l12 : K.lookup f12 = some ⟨oc12, od12, .func (PySem.W.fnOf "_law_mixed" "_law_mixed" (defArgs s__law_mixed) (defBody s__law_mixed) (defScope s__law_mixed) .none kV12 dc12 pm12 an12 cd12 ct12), sl12⟩) (c12 : PySem.W.codeIn K cd12 "_law_mixed" = true) (k12 : PySem.W.keepIn K (.ref f12) = true)
    {f13 : Addr} {od13 an13 : Option Addr} {sl13 : Array (Option Value)} {oc13 kV13 dc13 pm13 cd13 ct13 : Value} (a13 : PySem.W.nsIn K mainGlobals "_law_draws" = some (some (.ref f13))) (l13 : K.lookup f13 = some ⟨oc13, od13, .func (PySem.W.fnOf "_law_draws" "_law_draws" (defArgs s__law_draws) (defBody s__law_draws) (defScope s__law_draws) .none kV13 dc13 pm13 an13 cd13 ct13), sl13⟩) (c13 : PySem.W.codeIn K cd13 "_law_draws" = true) (k13 : PySem.W.keepIn K (.ref f13) = true)
    {f14 : Addr} {od14 an14 : Option Addr} {sl14 : Array (Option Value)} {oc14 kV14 dc14 pm14 cd14 ct14 : Value} (a14 : PySem.W.nsIn K mainGlobals "_law_cell" = some (some (.ref f14))) (l14 : K.lookup f14 = some ⟨oc14, od14, .func (PySem.W.fnOf "_law_cell" "_law_cell" (defArgs s__law_cell) (defBody s__law_cell) (defScope s__law_cell) .none kV14 dc14 pm14 an14 cd14 ct14), sl14⟩) (c14 : PySem.W.codeIn K cd14 "_law_cell" = true) (k14 : PySem.W.keepIn K (.ref f14) = true)
    {f15 : Addr} {od15 an15 : Option Addr} {sl15 : Array (Option Value)} {oc15 kV15 dc15 pm15 cd15 ct15 : Value} (a15 : PySem.W.nsIn K mainGlobals "least" = some (some (.ref f15))) (l15 : K.lookup f15 = some ⟨oc15, od15, .func (PySem.W.fnOf "least" "least" (defArgs s_least) (defBody s_least) (defScope s_least) .none kV15 dc15 pm15 an15 cd15 ct15), sl15⟩) (c15 : PySem.W.codeIn K cd15 "least" = true) (k15 : PySem.W.keepIn K (.ref f15) = true)
    {f16 : Addr} {od16 an16 : Option Addr} {sl16 : Array (Option Value)} {oc16 kV16 dc16 pm16 cd16 ct16 : Value} (a16 : PySem.W.nsIn K mainGlobals "_law_whole" = some (some (.ref f16))) (l16 : K.lookup f16 = some ⟨oc16, od16, .func (PySem.W.fnOf "_law_whole" "_law_whole" (defArgs s__law_whole) (defBody s__law_whole) (defScope s__law_whole) .none kV16 dc16 pm16 an16 cd16 ct16), sl16⟩) (c16 : PySem.W.codeIn K cd16 "_law_whole" = true) (k16 : PySem.W.keepIn K (.ref f16) = true)
    {f17 : Addr} {od17 an17 : Option Addr} {sl17 : Array (Option Value)} {oc17 kV17 dc17 pm17 cd17 ct17 : Value} (a17 : PySem.W.nsIn K mainGlobals "_law_rises" = some (some (.ref f17))) (l17 : K.lookup f17 = some ⟨oc17, od17, .func (PySem.W.fnOf "_law_rises" "_law_rises" (defArgs s__law_rises) (defBody s__law_rises) (defScope s__law_rises) .none kV17 dc17 pm17 an17 cd17 ct17), sl17⟩) (c17 : PySem.W.codeIn K cd17 "_law_rises" = true) (k17 : PySem.W.keepIn K (.ref f17) = true)
    {f18 : Addr} {od18 an18 : Option Addr} {sl18 : Array (Option Value)} {oc18 kV18 dc18 pm18 cd18 ct18 : Value} (a18 : PySem.W.nsIn K mainGlobals "_law_is_stair" = some (some (.ref f18))) (l18 : K.lookup f18 = some ⟨oc18, od18, .func (PySem.W.fnOf "_law_is_stair" "_law_is_stair" (defArgs s__law_is_stair) (defBody s__law_is_stair) (defScope s__law_is_stair) .none kV18 dc18 pm18 an18 cd18 ct18), sl18⟩) (c18 : PySem.W.codeIn K cd18 "_law_is_stair" = true) (k18 : PySem.W.keepIn K (.ref f18) = true)
    {f19 : Addr} {od19 an19 : Option Addr} {sl19 : Array (Option Value)} {oc19 kV19 dc19 pm19 cd19 ct19 : Value} (a19 : PySem.W.nsIn K mainGlobals "_law_is_due" = some (some (.ref f19))) (l19 : K.lookup f19 = some ⟨oc19, od19, .func (PySem.W.fnOf "_law_is_due" "_law_is_due" (defArgs s__law_is_due) (defBody s__law_is_due) (defScope s__law_is_due) .none kV19 dc19 pm19 an19 cd19 ct19), sl19⟩) (c19 : PySem.W.codeIn K cd19 "_law_is_due" = true) (k19 : PySem.W.keepIn K (.ref f19) = true)
    {f20 : Addr} {od20 an20 : Option Addr} {sl20 : Array (Option Value)} {oc20 kV20 dc20 pm20 cd20 ct20 : Value} (a20 : PySem.W.nsIn K mainGlobals "_law_least" = some (some (.ref f20))) (l20 : K.lookup f20 = some ⟨oc20, od20, .func (PySem.W.fnOf "_law_least" "_law_least" (defArgs s__law_least) (defBody s__law_least) (defScope s__law_least) .none kV20 dc20 pm20 an20 cd20 ct20), sl20⟩) (c20 : PySem.W.codeIn K cd20 "_law_least" = true) (k20 : PySem.W.keepIn K (.ref f20) = true)
    {f21 : Addr} {od21 an21 : Option Addr} {sl21 : Array (Option Value)} {oc21 kV21 dc21 pm21 cd21 ct21 : Value} (a21 : PySem.W.nsIn K mainGlobals "_law_stair_bits" = some (some (.ref f21))) (l21 : K.lookup f21 = some ⟨oc21, od21, .func (PySem.W.fnOf "_law_stair_bits" "_law_stair_bits" (defArgs s__law_stair_bits) (defBody s__law_stair_bits) (defScope s__law_stair_bits) .none kV21 dc21 pm21 an21 cd21 ct21), sl21⟩) (c21 : PySem.W.codeIn K cd21 "_law_stair_bits" = true) (k21 : PySem.W.keepIn K (.ref f21) = true)
    {f22 : Addr} {od22 an22 : Option Addr} {sl22 : Array (Option Value)} {oc22 kV22 dc22 pm22 cd22 ct22 : Value} (a22 : PySem.W.nsIn K mainGlobals "_law_stair_of" = some (some (.ref f22))) (l22 : K.lookup f22 = some ⟨oc22, od22, .func (PySem.W.fnOf "_law_stair_of" "_law_stair_of" (defArgs s__law_stair_of) (defBody s__law_stair_of) (defScope s__law_stair_of) .none kV22 dc22 pm22 an22 cd22 ct22), sl22⟩) (c22 : PySem.W.codeIn K cd22 "_law_stair_of" = true) (k22 : PySem.W.keepIn K (.ref f22) = true)
    {f23 : Addr} {od23 an23 : Option Addr} {sl23 : Array (Option Value)} {oc23 kV23 dc23 pm23 cd23 ct23 : Value} (a23 : PySem.W.nsIn K mainGlobals "_law_bits" = some (some (.ref f23))) (l23 : K.lookup f23 = some ⟨oc23, od23, .func (PySem.W.fnOf "_law_bits" "_law_bits" (defArgs s__law_bits) (defBody s__law_bits) (defScope s__law_bits) .none kV23 dc23 pm23 an23 cd23 ct23), sl23⟩) (c23 : PySem.W.codeIn K cd23 "_law_bits" = true) (k23 : PySem.W.keepIn K (.ref f23) = true)
    {f24 : Addr} {od24 an24 : Option Addr} {sl24 : Array (Option Value)} {oc24 kV24 dc24 pm24 cd24 ct24 : Value} (a24 : PySem.W.nsIn K mainGlobals "_law_spare" = some (some (.ref f24))) (l24 : K.lookup f24 = some ⟨oc24, od24, .func (PySem.W.fnOf "_law_spare" "_law_spare" (defArgs s__law_spare) (defBody s__law_spare) (defScope s__law_spare) .none kV24 dc24 pm24 an24 cd24 ct24), sl24⟩) (c24 : PySem.W.codeIn K cd24 "_law_spare" = true) (k24 : PySem.W.keepIn K (.ref f24) = true)
    {f25 : Addr} {od25 an25 : Option Addr} {sl25 : Array (Option Value)} {oc25 kV25 dc25 pm25 cd25 ct25 : Value} (a25 : PySem.W.nsIn K mainGlobals "_law_some_stair" = some (some (.ref f25))) (l25 : K.lookup f25 = some ⟨oc25, od25, .func (PySem.W.fnOf "_law_some_stair" "_law_some_stair" (defArgs s__law_some_stair) (defBody s__law_some_stair) (defScope s__law_some_stair) .none kV25 dc25 pm25 an25 cd25 ct25), sl25⟩) (c25 : PySem.W.codeIn K cd25 "_law_some_stair" = true) (k25 : PySem.W.keepIn K (.ref f25) = true)
    {f26 : Addr} {od26 an26 : Option Addr} {sl26 : Array (Option Value)} {oc26 kV26 dc26 pm26 cd26 ct26 : Value} (a26 : PySem.W.nsIn K mainGlobals "law" = some (some (.ref f26))) (l26 : K.lookup f26 = some ⟨oc26, od26, .func (PySem.W.fnOf "law" "law" (defArgs s_law) (defBody s_law) (defScope s_law) .none kV26 dc26 pm26 an26 cd26 ct26), sl26⟩) (c26 : PySem.W.codeIn K cd26 "law" = true) (k26 : PySem.W.keepIn K (.ref f26) = true)
    (z0 : PySem.W.nsIn K mainGlobals "len" = some none)
    (z1 : PySem.W.nsIn K mainGlobals "isinstance" = some none)
    (z2 : PySem.W.nsIn K mainGlobals "tuple" = some none)
    (z3 : PySem.W.nsIn K mainGlobals "list" = some none)
    (z4 : PySem.W.nsIn K mainGlobals "int" = some none)
    (z5 : PySem.W.nsIn K mainGlobals "bool" = some none)
    (z6 : PySem.W.nsIn K mainGlobals "range" = some none)
    (z7 : PySem.W.nsIn K mainGlobals "zip" = some none)
    (z8 : PySem.W.nsIn K mainGlobals "max" = some none)
    (z9 : PySem.W.nsIn K mainGlobals "min" = some none)
    (z10 : PySem.W.nsIn K mainGlobals "abs" = some none)
    (z11 : PySem.W.nsIn K mainGlobals "all" = some none)
    (z12 : PySem.W.nsIn K mainGlobals "ValueError" = some none)
    {t0 : Tok} (v0 : PySem.W.nsIn K mainGlobals "GREATEST_STEP" = some (some (.int 840 t0)))
    {t1 : Tok} (v1 : PySem.W.nsIn K mainGlobals "GREATEST_BASE" = some (some (.int 3000 t1)))
    {t2 : Tok} (v2 : PySem.W.nsIn K mainGlobals "GREATEST_MOVE" = some (some (.int 3000 t2)))
    (hxf : xfB K allC raisedC = true)
    : ∃ fd : FuncData, (∀ (s : Shared) (v : Value), BindsTo s fd ⟨[v], []⟩ [("_law_script", v)]) ∧ ∀ base : Heap, K.In base → base.Ns mainGlobals mg → FnOk l.prog w K mg base CX0 9 fa fd ["_law_script"] (sp_law K) := by
  have e := hfa.symm.trans (PySem.W.mg_of X G a26)
  cases e
  have T : Blt mg := ⟨PySem.W.mg_none_of X G z0, PySem.W.mg_none_of X G z1, PySem.W.mg_none_of X G z2, PySem.W.mg_none_of X G z3, PySem.W.mg_none_of X G z4, PySem.W.mg_none_of X G z5, PySem.W.mg_none_of X G z6, PySem.W.mg_none_of X G z7, PySem.W.mg_none_of X G z8, PySem.W.mg_none_of X G z9, PySem.W.mg_none_of X G z10, PySem.W.mg_none_of X G z11, PySem.W.mg_none_of X G z12⟩
  have D0 : Dfn K mg "least_step" s_least_step ["turn"] := ⟨f0, _, PySem.W.mg_of X G a0, fun_mk (st := s_least_step) l0 c0 k0, (fun_mk (st := s_least_step) l0 c0 k0).binds (ps := ["turn"]) fun _ _ _ _ _ _ => ar1 (fun _ => rfl)⟩
  have D1 : Dfn K mg "stair_of_marks" s_stair_of_marks ["marks", "base"] := ⟨f1, _, PySem.W.mg_of X G a1, fun_mk (st := s_stair_of_marks) l1 c1 k1, (fun_mk (st := s_stair_of_marks) l1 c1 k1).binds (ps := ["marks", "base"]) fun _ _ _ _ _ _ => ar2 (fun _ _ => rfl)⟩
  have D2 : Dfn K mg "marks_below" s_marks_below ["stair", "end"] := ⟨f2, _, PySem.W.mg_of X G a2, fun_mk (st := s_marks_below) l2 c2 k2, (fun_mk (st := s_marks_below) l2 c2 k2).binds (ps := ["stair", "end"]) fun _ _ _ _ _ _ => ar2 (fun _ _ => rfl)⟩
  have D3 : Dfn K mg "refuse_great_stair" s_refuse_great_stair ["stair"] := ⟨f3, _, PySem.W.mg_of X G a3, fun_mk (st := s_refuse_great_stair) l3 c3 k3, (fun_mk (st := s_refuse_great_stair) l3 c3 k3).binds (ps := ["stair"]) fun _ _ _ _ _ _ => ar1 (fun _ => rfl)⟩
  have D4 : Dfn K mg "is_whole" s_is_whole ["thing"] := ⟨f4, _, PySem.W.mg_of X G a4, fun_mk (st := s_is_whole) l4 c4 k4, (fun_mk (st := s_is_whole) l4 c4 k4).binds (ps := ["thing"]) fun _ _ _ _ _ _ => ar1 (fun _ => rfl)⟩
  have D5 : Dfn K mg "is_rising_row" s_is_rising_row ["thing", "low", "end"] := ⟨f5, _, PySem.W.mg_of X G a5, fun_mk (st := s_is_rising_row) l5 c5 k5, (fun_mk (st := s_is_rising_row) l5 c5 k5).binds (ps := ["thing", "low", "end"]) fun _ _ _ _ _ _ => ar3 (fun _ _ _ => rfl)⟩
  have D6 : Dfn K mg "are_stair_places" s_are_stair_places ["base", "step", "once", "again"] := ⟨f6, _, PySem.W.mg_of X G a6, fun_mk (st := s_are_stair_places) l6 c6 k6, (fun_mk (st := s_are_stair_places) l6 c6 k6).binds (ps := ["base", "step", "once", "again"]) fun _ _ _ _ _ _ => ar4 (fun _ _ _ _ => rfl)⟩
  have D7 : Dfn K mg "is_stair" s_is_stair ["thing"] := ⟨f7, _, PySem.W.mg_of X G a7, fun_mk (st := s_is_stair) l7 c7 k7, (fun_mk (st := s_is_stair) l7 c7 k7).binds (ps := ["thing"]) fun _ _ _ _ _ _ => ar1 (fun _ => rfl)⟩
  have D8 : Dfn K mg "refuse_no_stair" s_refuse_no_stair ["thing"] := ⟨f8, _, PySem.W.mg_of X G a8, fun_mk (st := s_refuse_no_stair) l8 c8 k8, (fun_mk (st := s_refuse_no_stair) l8 c8 k8).binds (ps := ["thing"]) fun _ _ _ _ _ _ => ar1 (fun _ => rfl)⟩
  have D9 : Dfn K mg "refuse_bad_stair" s_refuse_bad_stair ["thing"] := ⟨f9, _, PySem.W.mg_of X G a9, fun_mk (st := s_refuse_bad_stair) l9 c9 k9, (fun_mk (st := s_refuse_bad_stair) l9 c9 k9).binds (ps := ["thing"]) fun _ _ _ _ _ _ => ar1 (fun _ => rfl)⟩
  have D10 : Dfn K mg "moved" s_moved ["stair", "k"] := ⟨f10, _, PySem.W.mg_of X G a10, fun_mk (st := s_moved) l10 c10 k10, (fun_mk (st := s_moved) l10 c10 k10).binds (ps := ["stair", "k"]) fun _ _ _ _ _ _ => ar2 (fun _ _ => rfl)⟩
  have D11 : Dfn K mg "_law_refused" s__law_refused ["_law_stair", "_law_k"] := ⟨f11, _, PySem.W.mg_of X G a11, fun_mk (st := s__law_refused) l11 c11 k11, (fun_mk (st := s__law_refused) l11 c11 k11).binds (ps := ["_law_stair", "_law_k"]) fun _ _ _ _ _ _ => ar2 (fun _ _ => rfl)⟩
  have D12 : Dfn K mg "_law_mixed" s__law_mixed ["_law_cell_here", "_law_k", "_law_prime"] := ⟨f12, _, PySem.W.mg_of X G a12, fun_mk (st := s__law_mixed) l12 c12 k12, (fun_mk (st := s__law_mixed) l12 c12 k12).binds (ps := ["_law_cell_here", "_law_k", "_law_prime"]) fun _ _ _ _ _ _ => ar3 (fun _ _ _ => rfl)⟩
  have D13 : Dfn K mg "_law_draws" s__law_draws ["_law_cell_here", "_law_widths", "_law_prime"] := ⟨f13, _, PySem.W.mg_of X G a13, fun_mk (st := s__law_draws) l13 c13 k13, (fun_mk (st := s__law_draws) l13 c13 k13).binds (ps := ["_law_cell_here", "_law_widths", "_law_prime"]) fun _ _ _ _ _ _ => ar3 (fun _ _ _ => rfl)⟩
  have D14 : Dfn K mg "_law_cell" s__law_cell ["_law_script", "_law_k"] := ⟨f14, _, PySem.W.mg_of X G a14, fun_mk (st := s__law_cell) l14 c14 k14, (fun_mk (st := s__law_cell) l14 c14 k14).binds (ps := ["_law_script", "_law_k"]) fun _ _ _ _ _ _ => ar2 (fun _ _ => rfl)⟩
  have D15 : Dfn K mg "least" s_least ["stair"] := ⟨f15, _, PySem.W.mg_of X G a15, fun_mk (st := s_least) l15 c15 k15, (fun_mk (st := s_least) l15 c15 k15).binds (ps := ["stair"]) fun _ _ _ _ _ _ => ar1 (fun _ => rfl)⟩
  have D16 : Dfn K mg "_law_whole" s__law_whole ["_law_found"] := ⟨f16, _, PySem.W.mg_of X G a16, fun_mk (st := s__law_whole) l16 c16 k16, (fun_mk (st := s__law_whole) l16 c16 k16).binds (ps := ["_law_found"]) fun _ _ _ _ _ _ => ar1 (fun _ => rfl)⟩
  have D17 : Dfn K mg "_law_rises" s__law_rises ["_law_row", "_law_low", "_law_high"] := ⟨f17, _, PySem.W.mg_of X G a17, fun_mk (st := s__law_rises) l17 c17 k17, (fun_mk (st := s__law_rises) l17 c17 k17).binds (ps := ["_law_row", "_law_low", "_law_high"]) fun _ _ _ _ _ _ => ar3 (fun _ _ _ => rfl)⟩
  have D18 : Dfn K mg "_law_is_stair" s__law_is_stair ["_law_found"] := ⟨f18, _, PySem.W.mg_of X G a18, fun_mk (st := s__law_is_stair) l18 c18 k18, (fun_mk (st := s__law_is_stair) l18 c18 k18).binds (ps := ["_law_found"]) fun _ _ _ _ _ _ => ar1 (fun _ => rfl)⟩
  have D19 : Dfn K mg "_law_is_due" s__law_is_due ["_law_found", "_law_due"] := ⟨f19, _, PySem.W.mg_of X G a19, fun_mk (st := s__law_is_due) l19 c19 k19, (fun_mk (st := s__law_is_due) l19 c19 k19).binds (ps := ["_law_found", "_law_due"]) fun _ _ _ _ _ _ => ar2 (fun _ _ => rfl)⟩
  have D20 : Dfn K mg "_law_least" s__law_least ["_law_bits_here", "_law_base", "_law_step"] := ⟨f20, _, PySem.W.mg_of X G a20, fun_mk (st := s__law_least) l20 c20 k20, (fun_mk (st := s__law_least) l20 c20 k20).binds (ps := ["_law_bits_here", "_law_base", "_law_step"]) fun _ _ _ _ _ _ => ar3 (fun _ _ _ => rfl)⟩
  have D21 : Dfn K mg "_law_stair_bits" s__law_stair_bits ["_law_stair", "_law_many"] := ⟨f21, _, PySem.W.mg_of X G a21, fun_mk (st := s__law_stair_bits) l21 c21 k21, (fun_mk (st := s__law_stair_bits) l21 c21 k21).binds (ps := ["_law_stair", "_law_many"]) fun _ _ _ _ _ _ => ar2 (fun _ _ => rfl)⟩
  have D22 : Dfn K mg "_law_stair_of" s__law_stair_of ["_law_bits_here", "_law_base", "_law_step"] := ⟨f22, _, PySem.W.mg_of X G a22, fun_mk (st := s__law_stair_of) l22 c22 k22, (fun_mk (st := s__law_stair_of) l22 c22 k22).binds (ps := ["_law_bits_here", "_law_base", "_law_step"]) fun _ _ _ _ _ _ => ar3 (fun _ _ _ => rfl)⟩
  have D23 : Dfn K mg "_law_bits" s__law_bits ["_law_cell_here", "_law_many", "_law_prime"] := ⟨f23, _, PySem.W.mg_of X G a23, fun_mk (st := s__law_bits) l23 c23 k23, (fun_mk (st := s__law_bits) l23 c23 k23).binds (ps := ["_law_cell_here", "_law_many", "_law_prime"]) fun _ _ _ _ _ _ => ar3 (fun _ _ _ => rfl)⟩
  have D24 : Dfn K mg "_law_spare" s__law_spare ["_law_cell_here", "_law_width"] := ⟨f24, _, PySem.W.mg_of X G a24, fun_mk (st := s__law_spare) l24 c24 k24, (fun_mk (st := s__law_spare) l24 c24 k24).binds (ps := ["_law_cell_here", "_law_width"]) fun _ _ _ _ _ _ => ar2 (fun _ _ => rfl)⟩
  have D25 : Dfn K mg "_law_some_stair" s__law_some_stair ["_law_cell_here", "_law_prime"] := ⟨f25, _, PySem.W.mg_of X G a25, fun_mk (st := s__law_some_stair) l25 c25 k25, (fun_mk (st := s__law_some_stair) l25 c25 k25).binds (ps := ["_law_cell_here", "_law_prime"]) fun _ _ _ _ _ _ => ar2 (fun _ _ => rfl)⟩
  refine ⟨PySem.W.fnOf "law" "law" (defArgs s_law) (defBody s_law) (defScope s_law) .none kV26 dc26 pm26 an26 cd26 ct26, fun s v => .of_eq rfl, fun base KB GB => ?_⟩
  have XF : Xf K mg base allC raisedC := xf_mk KB GB hxf
  have C0 : Cal l.prog w K mg base "least_step" 1 ["turn"] (sp_least_step K) := ok_least_step D0 T
  have C1 : Cal l.prog w K mg base "stair_of_marks" 2 ["marks", "base"] (sp_stair_of_marks K) := ok_stair_of_marks D1 T C0
  have C2 : Cal l.prog w K mg base "marks_below" 1 ["stair", "end"] (sp_marks_below K) := ok_marks_below D2 T
  have C3 : Cal l.prog w K mg base "refuse_great_stair" 1 ["stair"] (sp_refuse_great_stair K) := ok_refuse_great_stair D3 T ⟨_, PySem.W.mg_of X G v0⟩ ⟨_, PySem.W.mg_of X G v1⟩
  have C4 : Cal l.prog w K mg base "is_whole" 1 ["thing"] (sp_is_whole K) := ok_is_whole D4 T
  have C5 : Cal l.prog w K mg base "is_rising_row" 2 ["thing", "low", "end"] (sp_is_rising_row K) := ok_is_rising_row D5 T C4
  have C6 : Cal l.prog w K mg base "are_stair_places" 3 ["base", "step", "once", "again"] (sp_are_stair_places K) := ok_are_stair_places D6 T C5 C4
  have C7 : Cal l.prog w K mg base "is_stair" 4 ["thing"] (sp_is_stair K) := ok_is_stair D7 T C6
  have C8 : Cal l.prog w K mg base "refuse_no_stair" 5 ["thing"] (sp_refuse_no_stair K) := ok_refuse_no_stair D8 T C7
  have C9 : Cal l.prog w K mg base "refuse_bad_stair" 6 ["thing"] (sp_refuse_bad_stair K) := ok_refuse_bad_stair D9 T C3 C8
  have C10 : CalX l.prog w K mg base "moved" 7 ["stair", "k"] (sp_moved K) := ok_moved D10 T ⟨_, PySem.W.mg_of X G v2⟩ XF C1 C2 C9
  have C11 : Cal l.prog w K mg base "_law_refused" 8 ["_law_stair", "_law_k"] (sp__law_refused K) := ok__law_refused D11 T XF C10
  have C12 : Cal l.prog w K mg base "_law_mixed" 1 ["_law_cell_here", "_law_k", "_law_prime"] (sp__law_mixed K) := ok__law_mixed D12 T
  have C13 : Cal l.prog w K mg base "_law_draws" 2 ["_law_cell_here", "_law_widths", "_law_prime"] (sp__law_draws K) := ok__law_draws D13 T C12
  have C14 : Cal l.prog w K mg base "_law_cell" 1 ["_law_script", "_law_k"] (sp__law_cell K) := ok__law_cell D14 T
  have C15 : Cal l.prog w K mg base "least" 7 ["stair"] (sp_least K) := ok_least D15 T C1 C2 C9
  have C16 : Cal l.prog w K mg base "_law_whole" 1 ["_law_found"] (sp__law_whole K) := ok__law_whole D16 T
  have C17 : Cal l.prog w K mg base "_law_rises" 2 ["_law_row", "_law_low", "_law_high"] (sp__law_rises K) := ok__law_rises D17 T C16
  have C18 : Cal l.prog w K mg base "_law_is_stair" 3 ["_law_found"] (sp__law_is_stair K) := ok__law_is_stair D18 T C17 C16
  have C19 : Cal l.prog w K mg base "_law_is_due" 4 ["_law_found", "_law_due"] (sp__law_is_due K) := ok__law_is_due D19 T C18
  have C20 : Cal l.prog w K mg base "_law_least" 1 ["_law_bits_here", "_law_base", "_law_step"] (sp__law_least K) := ok__law_least D20 T
  have C21 : Cal l.prog w K mg base "_law_stair_bits" 1 ["_law_stair", "_law_many"] (sp__law_stair_bits K) := ok__law_stair_bits D21 T
  have C22 : Cal l.prog w K mg base "_law_stair_of" 1 ["_law_bits_here", "_law_base", "_law_step"] (sp__law_stair_of K) := ok__law_stair_of D22 T
  have C23 : Cal l.prog w K mg base "_law_bits" 3 ["_law_cell_here", "_law_many", "_law_prime"] (sp__law_bits K) := ok__law_bits D23 T C13
  have C24 : Cal l.prog w K mg base "_law_spare" 1 ["_law_cell_here", "_law_width"] (sp__law_spare K) := ok__law_spare D24 T
  have C25 : Cal l.prog w K mg base "_law_some_stair" 4 ["_law_cell_here", "_law_prime"] (sp__law_some_stair K) := ok__law_some_stair D25 T C22 C23 C24 C13
  exact ok_law (fun_mk (st := s_law) l26 c26 k26) T C11 C13 C14 C15 C19 C20 C21 C25 C10.cal
theorem walk {l : PySem.W.OpenLaw} {q : Program} {loose : List Str} {XP : (Str → Option Value) → Heap → Prop} {YP : World → Heap → Prop} {d : DefRec} {K : Params → PySem.W.Frag} (hn : l.most = some 63) (hdf : d.params.defaults = [])
    (hY : ∀ (w : World) (h : Heap), YP w h → (K w.params).In h)
    (F : ∀ (w : World) (mg : Str → Option Value) (fa : Addr) (h : Heap), (K w.params).In h → h.Ns mainGlobals mg → mg d.name = some (.ref fa) →
      ∃ fd : FuncData, (∀ (s : Shared) (u : Value), BindsTo s fd ⟨[u], []⟩ [("_law_script", u)]) ∧ ∀ base : Heap, (K w.params).In base → base.Ns mainGlobals mg → FnOk l.prog w (K w.params) mg base CX0 9 fa fd ["_law_script"] (sp_law (K w.params))) :
    PySem.W.WalkO q loose XP YP l.row.toRowW d [] (fun f vs => PySem.call f vs) :=
  L2.walk_of (n := 63) (k := 9) (x := "_law_script") (CX := fun _ => CX0) (sp := fun w => sp_law (K w.params)) hn (by decide) hdf ⟨rfl, by decide, by decide⟩ hY F (fun _ _ a ns hl _ hS => ⟨a, ns, rfl, hS, hl, fun _ => rfl⟩) fun _ _ _ _ _ z => z
end My
open PySem PySem.W PyProof.Rows
set_option maxRecDepth 100000 in
set_option maxHeartbeats 0 in
theorem PySem.Challenge.cw_stairrooms_k08_moved_holds : PySem.Challenge.rw_stairrooms_k08_moved.Holds := by
  w_on; o_law; k_head; (case hw => w_witness2)
  k_fill
  refine My.walk (l := PySem.Challenge.rw_stairrooms_k08_moved) rfl rfl (fun w h Y => PySem.W.kIn_of Y) ?F
  case F =>
    intro w mg fa h KX G hmg
    refine' My.all_mk KX G hmg ?a0 ?l0 ?c0 ?k0 ?a1 ?l1 ?c1 ?k1 ?a2 ?l2 ?c2 ?k2 ?a3 ?l3 ?c3 ?k3 ?a4 ?l4 ?c4 ?k4 ?a5 ?l5 ?c5 ?k5 ?a6 ?l6 ?c6 ?k6 ?a7 ?l7 ?c7 ?k7 ?a8 ?l8 ?c8 ?k8 ?a9 ?l9 ?c9 ?k9 ?a10 ?l10 ?c10 ?k10 ?a11 ?l11 ?c11 ?k11 ?a12 ?l12 ?c12 ?k12 ?a13 ?l13 ?c13 ?k13 ?a14 ?l14 ?c14 ?k14 ?a15 ?l15 ?c15 ?k15 ?a16 ?l16 ?c16 ?k16 ?a17 ?l17 ?c17 ?k17 ?a18 ?l18 ?c18 ?k18 ?a19 ?l19 ?c19 ?k19 ?a20 ?l20 ?c20 ?k20 ?a21 ?l21 ?c21 ?k21 ?a22 ?l22 ?c22 ?k22 ?a23 ?l23 ?c23 ?k23 ?a24 ?l24 ?c24 ?k24 ?a25 ?l25 ?c25 ?k25 ?a26 ?l26 ?c26 ?k26 ?z0 ?z1 ?z2 ?z3 ?z4 ?z5 ?z6 ?z7 ?z8 ?z9 ?z10 ?z11 ?z12 ?v0 ?v1 ?v2 ?hxf
    (case a0 => k_is); (case l0 => k_is); (case c0 => k_is); (case k0 => k_is)
    (case a1 => k_is); (case l1 => k_is); (case c1 => k_is); (case k1 => k_is)
    (case a2 => k_is); (case l2 => k_is); (case c2 => k_is); (case k2 => k_is)
    (case a3 => k_is); (case l3 => k_is); (case c3 => k_is); (case k3 => k_is)
    (case a4 => k_is); (case l4 => k_is); (case c4 => k_is); (case k4 => k_is)
    (case a5 => k_is); (case l5 => k_is); (case c5 => k_is); (case k5 => k_is)
    (case a6 => k_is); (case l6 => k_is); (case c6 => k_is); (case k6 => k_is)
    (case a7 => k_is); (case l7 => k_is); (case c7 => k_is); (case k7 => k_is)
    (case a8 => k_is); (case l8 => k_is); (case c8 => k_is); (case k8 => k_is)
    (case a9 => k_is); (case l9 => k_is); (case c9 => k_is); (case k9 => k_is)
    (case a10 => k_is); (case l10 => k_is); (case c10 => k_is); (case k10 => k_is)
    (case a11 => k_is); (case l11 => k_is); (case c11 => k_is); (case k11 => k_is)
    (case a12 => k_is); (case l12 => k_is); (case c12 => k_is); (case k12 => k_is)
    (case a13 => k_is); (case l13 => k_is); (case c13 => k_is); (case k13 => k_is)
    (case a14 => k_is); (case l14 => k_is); (case c14 => k_is); (case k14 => k_is)
    (case a15 => k_is); (case l15 => k_is); (case c15 => k_is); (case k15 => k_is)
    (case a16 => k_is); (case l16 => k_is); (case c16 => k_is); (case k16 => k_is)
    (case a17 => k_is); (case l17 => k_is); (case c17 => k_is); (case k17 => k_is)
    (case a18 => k_is); (case l18 => k_is); (case c18 => k_is); (case k18 => k_is)
    (case a19 => k_is); (case l19 => k_is); (case c19 => k_is); (case k19 => k_is)
    (case a20 => k_is); (case l20 => k_is); (case c20 => k_is); (case k20 => k_is)
    (case a21 => k_is); (case l21 => k_is); (case c21 => k_is); (case k21 => k_is)
    (case a22 => k_is); (case l22 => k_is); (case c22 => k_is); (case k22 => k_is)
    (case a23 => k_is); (case l23 => k_is); (case c23 => k_is); (case k23 => k_is)
    (case a24 => k_is); (case l24 => k_is); (case c24 => k_is); (case k24 => k_is)
    (case a25 => k_is); (case l25 => k_is); (case c25 => k_is); (case k25 => k_is)
    (case a26 => k_is); (case l26 => k_is); (case c26 => k_is); (case k26 => k_is)
    (case z0 => k_is)
    (case z1 => k_is)
    (case z2 => k_is)
    (case z3 => k_is)
    (case z4 => k_is)
    (case z5 => k_is)
    (case z6 => k_is)
    (case z7 => k_is)
    (case z8 => k_is)
    (case z9 => k_is)
    (case z10 => k_is)
    (case z11 => k_is)
    (case z12 => k_is)
    (case v0 => k_is)
    (case v1 => k_is)
    (case v2 => k_is)
    (case hxf => first | kernel_rfl | k_is)
