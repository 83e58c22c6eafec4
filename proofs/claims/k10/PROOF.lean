import PyProof.Rows.All
import Wide.All
import OpenK.AllK
import Wide.FinOn
import Lean
import PyProof.EqAt
import PyProof.EqKinds
import PyProof.TupleCall
import KE.KLam
import PySem.Challenge.RW_stairrooms_k10_stairs_refused
set_option Elab.async false
set_option linter.all false
set_option maxRecDepth 100000
namespace L2
open PySem PySem.Spec PyProof.Rows
noncomputable abbrev Key := Sum Int Str
noncomputable def keyIs : Key → Value → Bool
  | .inl k, v => Value.isInt k v
  | .inr x, v => Value.isStrOf x v
noncomputable def keyH (w : World) : Key → Int
  | .inl k => hashInt k
  | .inr x => hashStr w x
theorem keyIs_shape : ∀ {k : Key} {v : Value}, keyIs k v = true → (∃ i t, k = Sum.inl i ∧ v = Value.int i t) ∨ (∃ x t, k = Sum.inr x ∧ v = Value.str x t)
  | .inl i, v, h => by
    obtain ⟨t, e⟩ := Value.isInt_shape (k := i) (v := v) h
    exact .inl ⟨i, t, rfl, e⟩
  | .inr x, v, h => by
    obtain ⟨t, e⟩ := Value.isStrOf_shape (x := x) (v := v) h
    exact .inr ⟨x, t, rfl, e⟩
theorem key_ll (a b : Int) : decide ((Sum.inl a : Key) = Sum.inl b) = (a == b) := by
  by_cases e : a = b
  · subst e; simp
  · have h : ¬ (Sum.inl a : Key) = Sum.inl b := fun q => e (Sum.inl.inj q)
    rw [decide_eq_false h]
    exact (beq_eq_false_iff_ne.mpr e).symm
theorem key_rr (a b : Str) : decide ((Sum.inr a : Key) = Sum.inr b) = decide (a = b) := by
  by_cases e : a = b
  · subst e; simp
  · have h : ¬ (Sum.inr a : Key) = Sum.inr b := fun q => e (Sum.inr.inj q)
    rw [decide_eq_false h, decide_eq_false e]
theorem key_lr (a : Int) (b : Str) : decide ((Sum.inl a : Key) = Sum.inr b) = false := decide_eq_false (fun q => nomatch q)
theorem key_rl (a : Str) (b : Int) : decide ((Sum.inr a : Key) = Sum.inl b) = false := decide_eq_false (fun q => nomatch q)
noncomputable def mixKind (prog : Program) (w : World) : PySem.KeyKind prog w Key where
  is := keyIs
  hash := keyH w
  inj := fun v a b ha hb => by
    rcases keyIs_shape ha with ⟨i, t, rfl, rfl⟩ | ⟨x, t, rfl, rfl⟩
    · rcases keyIs_shape hb with ⟨j, u, rfl, e⟩ | ⟨y, u, rfl, e⟩
      · injection e with e1 _; rw [e1]
      · exact nomatch e
    · rcases keyIs_shape hb with ⟨j, u, rfl, e⟩ | ⟨y, u, rfl, e⟩
      · exact nomatch e
      · injection e with e1 _; rw [e1]
  byValue := fun k v h => by
    rcases keyIs_shape h with ⟨i, t, rfl, rfl⟩ | ⟨x, t, rfl, rfl⟩ <;> rfl
  pyHash := fun hv h => by
    rcases keyIs_shape hv with ⟨i, t, rfl, rfl⟩ | ⟨x, t, rfl, rfl⟩
    · exact wpAny_pyHash_int h
    · exact wpAny_pyHash_str h
  eqBool := fun hu hv h => by
    rcases keyIs_shape hu with ⟨i, t, rfl, rfl⟩ | ⟨x, t, rfl, rfl⟩
    · rcases keyIs_shape hv with ⟨j, u, rfl, rfl⟩ | ⟨y, u, rfl, rfl⟩
      · rw [key_ll] at h; exact wpAny_eqBool_int h
      · rw [key_lr] at h; exact SeqAt.EqAt.int_str i t y u _ _ _ _ h
    · rcases keyIs_shape hv with ⟨j, u, rfl, rfl⟩ | ⟨y, u, rfl, rfl⟩
      · rw [key_rl] at h; exact SeqAt.EqAt.str_int x t j u _ _ _ _ h
      · rw [key_rr] at h; exact wpAny_eqBool_str h
  «strs» := fun k x t v h => by
    rcases keyIs_shape h with ⟨i, u, rfl, e⟩ | ⟨y, u, rfl, e⟩
    · exact nomatch e
    · injection e with e1 _
      subst e1
      cases v <;> rfl
end L2
namespace L2
open PySem PySem.Spec PyProof.Rows
inductive V where
  | non | bl (b : Bool) | int (i : Int) | str (x : Str) | byt (b : Array UInt8) | flt (b : UInt64) | ref (a : Addr) | ty (n : String)
  deriving DecidableEq
noncomputable def RelV : V → Value → Prop
  | .non, u => u = Value.none
  | .bl b, u => u = Value.bool b
  | .int i, u => ∃ t, u = Value.int i t
  | .str x, u => ∃ t, u = Value.str x t
  | .byt b, u => ∃ t, u = Value.bytes b t
  | .flt b, u => ∃ t, u = Value.float b t
  | .ref a, u => u = Value.ref a
  | .ty n, u => u = Value.type n
noncomputable abbrev Vals : List V → List Value → Prop := Paired RelV
theorem Vals.length {xs : List V} {us : List Value} (r : Vals xs us) : xs.length = us.length := Paired.length r
theorem Vals.get : ∀ {xs : List V} {us : List Value} {i : Nat} {x : V}, Vals xs us → xs[i]? = some x → ∃ u, us[i]? = some u ∧ RelV x u
  | _, _, _, _, .nil, e => by simp at e
  | _, _, 0, _, .cons r _, e => by simp at e; subst e; exact ⟨_, rfl, r⟩
  | _, _, i + 1, x, .cons _ t, e => by
    obtain ⟨u, h1, h2⟩ := Vals.get (i := i) (x := x) t (by simpa using e)
    exact ⟨u, by simpa using h1, h2⟩
theorem Vals.set {x : V} {u : Value} (r : RelV x u) : ∀ {xs : List V} {us : List Value} (i : Nat), Vals xs us → Vals (xs.set i x) (us.set i u)
  | _, _, _, .nil => .nil
  | _, _, 0, .cons _ t => .cons r t
  | _, _, i + 1, .cons q t => .cons q (Vals.set r i t)
theorem Vals.append : ∀ {xs ys : List V} {us ws : List Value}, Vals xs us → Vals ys ws → Vals (xs ++ ys) (us ++ ws)
  | _, _, _, _, .nil, s => s
  | _, _, _, _, .cons r t, s => .cons r (Vals.append t s)
theorem Vals.take : ∀ {xs : List V} {us : List Value} (n : Nat), Vals xs us → Vals (xs.take n) (us.take n)
  | _, _, 0, _ => .nil
  | _, _, _ + 1, .nil => .nil
  | _, _, n + 1, .cons r t => .cons r (Vals.take n t)
theorem Vals.drop : ∀ {xs : List V} {us : List Value} (n : Nat), Vals xs us → Vals (xs.drop n) (us.drop n)
  | _, _, 0, r => r
  | _, _, _ + 1, .nil => .nil
  | _, _, n + 1, .cons _ t => Vals.drop n t
noncomputable def RelO : Option V → Option Value → Prop
  | some v, some u => RelV v u
  | none, none => True
  | _, _ => False
noncomputable def KV {κ : Type} : List (κ × V) → List (κ × Value) → Prop := Paired fun (p : κ × V) (q : κ × Value) => p.1 = q.1 ∧ RelV p.2 q.2
noncomputable def kV : Key → V
  | .inl i => .int i
  | .inr x => .str x
inductive HO where
  /-- a list -/
  | lst (xs : List V)
  /-- a tuple (never changes) -/
  | tup (xs : List V)
  /-- a dict whose keys are ints and texts; one whose keys are tuples of ints and texts (the empty one is both) -/
  | dK (kvs : List (Key × V)) | dT (kvs : List (List Key × V))
  /-- a set of ints: its members, its size -/
  | set (S : Int → Bool) (n : Nat)
  /-- an instance of the class at C, its dict at dx, its attributes -/
  | ins (C dx : Addr) (fs : List (Str × V))
  /-- the dict of the instance at x -/
  | own (x : Addr)
  /-- the dict of an exception -/
  | xd (fs : List (Str × V))
  /-- a bound method, f of x -/
  | met (f x : Addr)
  /-- a range object lo, lo + 1, .. below hi -/
  | rng (lo hi : Int)
  /-- a thing that is known to the object (the script; a dict while a loop walks it): read, never written while it is so -/
  | frz (o : Obj) (u : HO)
  /-- a code object's table -/
  | tbl (ps : Array Value)
  /-- any other thing, by what is true of its one object (a def of one's own: SetO a S n := HO.ext fun h => ..) -/
  | ext (φ : Heap → Prop)
noncomputable abbrev Hp := Addr → Option HO
noncomputable def upd (H : Hp) (a : Addr) (o : HO) : Hp := fun b => if b = a then some o else H b
theorem upd_same {H : Hp} {a : Addr} {o : HO} : upd H a o a = some o := by unfold upd; rw [if_pos rfl]
theorem upd_ne {H : Hp} {a b : Addr} {o : HO} (h : b ≠ a) : upd H a o b = H b := by unfold upd; rw [if_neg h]
theorem ne_of_none {H : Hp} {a b : Addr} {o : HO} (h : H a = some o) (h' : H b = none) : a ≠ b := by
  intro e; subst e; rw [h] at h'; cases h'
section
variable (P : Program) (w : World)
noncomputable def ObjOk (H : Hp) (h : Heap) (a : Addr) : HO → Prop
  | .lst xs => xs.length ≤ sizeLine ∧ ∃ (its : List Value) (n : Nat), Vals xs its ∧ h.get? a = some { cls := .type "list", data := .seq its.toArray n }
  | .tup xs => xs.length ≤ sizeLine ∧ ∃ its : List Value, Vals xs its ∧ IsTup h a its.toArray
  | .dK kvs => kvs.length ≤ sizeLine ∧ (a == sysModules) = false ∧ ∃ vs, KV kvs vs ∧ h.DictOf (mixKind P w) a vs
  | .dT kvs => kvs.length ≤ sizeLine ∧ (a == sysModules) = false ∧ ∃ xs : List (List Key × Addr × Value),
      Paired (fun (p : List Key × V) (q : List Key × Addr × Value) => p.1 = q.1 ∧ H q.2.1 = some (.tup (p.1.map kV)) ∧ RelV p.2 q.2.2) kvs xs ∧
      ∃ o es ep, h.get? a = some o ∧ o.ExactDict ∧ o.data = .dict es ep ∧ es.toList = xs.map (entryOfKey (tupleKind (mixKind P w))) ∧ (xs.map (·.1)).Nodup
  | .set S n => h.SetOf (intKind P w) a S n
  | .ins C dx fs => H dx = some (.own a) ∧ fs.length ≤ 1000 ∧ dx ≠ a ∧ h.get? a = some (PySem.W.instObj C dx) ∧
      ∃ mA, h.Ns1 dx mA ∧ (∀ f, RelO (fs.lookup f) (mA f)) ∧ PySem.Within mA (fs.map (·.1))
  | .own _ => ∃ o, h.get? a = some o
  | .xd fs => ∃ mA, h.Ns1 a mA ∧ ∀ f, RelO (fs.lookup f) (mA f)
  | .rng lo hi => ∃ t u v, h.get? a = some { cls := .type "range", data := .fields #[.int lo t, .int hi u, .int 1 v] }
  | .frz o u => h.get? a = some o ∧ ObjOk H h a u
  | .tbl ps => h.get? a = some { cls := .none, data := .fields ps }
  | .met f x => h.get? a = some (PySem.W.methodObj (.ref f) (.ref x))
  | .ext φ => φ h ∧ (∃ o, h.get? a = some o) ∧ ∀ h1 h2 : Heap, φ h1 → (∀ o, h1.get? a = some o → h2.get? a = some o) → φ h2
noncomputable def HOk (H : Hp) (h : Heap) : Prop := ∀ a o, H a = some o → ObjOk P w H h a o
end
section
variable {P : Program} {w : World} {H H' : Hp} {h h' : Heap} {a : Addr} {o : HO}
theorem ObjOk.lt (x : ObjOk P w H h a o) : a < h.objs.size := by
  cases o with
  | lst xs => obtain ⟨_, _, _, _, e⟩ := x; exact Heap.lt_size e
  | tup xs => obtain ⟨_, _, _, p⟩ := x; exact p.lt
  | dK kvs => obtain ⟨_, _, _, _, o, _, _, e, _⟩ := x; exact Heap.lt_size e
  | dT kvs => obtain ⟨_, _, _, _, o, _, _, e, _⟩ := x; exact Heap.lt_size e
  | set S n => obtain ⟨o, _, _, _, e, _⟩ := x; exact Heap.lt_size e
  | ins C dx fs => obtain ⟨_, _, _, e, _⟩ := x; exact Heap.lt_size e
  | own y => obtain ⟨_, e⟩ := x; exact Heap.lt_size e
  | xd fs => obtain ⟨_, ⟨_, _, _, e, _⟩, _⟩ := x; exact Heap.lt_size e
  | rng lo hi => obtain ⟨_, _, _, e⟩ := x; exact Heap.lt_size e
  | frz ob u => obtain ⟨e, _⟩ := x; exact Heap.lt_size e
  | tbl ps => exact Heap.lt_size (show h.get? a = some _ from x)
  | met f y => exact Heap.lt_size (show h.get? a = some _ from x)
  | ext φ => obtain ⟨_, ⟨_, e⟩, _⟩ := x; exact Heap.lt_size e
theorem Paired.mapP {α β : Type} {F G : α → β → Prop} : ∀ {l₁ : List α} {l₂ : List β}, Paired F l₁ l₂ → (∀ a b, F a b → G a b) → Paired G l₁ l₂
  | _, _, .nil, _ => .nil
  | _, _, .cons r t, f => .cons (f _ _ r) (Paired.mapP t f)
theorem ObjOk.stay (x : ObjOk P w H h a o) (k : ∀ b u, (b = a ∨ H b = some (.own a)) → h.get? b = some u → h'.get? b = some u)
    (ho : ∀ b, H b = some (.own a) → H' b = some (.own a)) (ht : ∀ b xs, H b = some (.tup xs) → H' b = some (.tup xs)) : ObjOk P w H' h' a o := by
  induction o with
  | lst xs => obtain ⟨z, its, n, r, e⟩ := x; exact ⟨z, its, n, r, k _ _ (.inl rfl) e⟩
  | tup xs => obtain ⟨z, its, r, ob, e, c⟩ := x; exact ⟨z, its, r, ob, k _ _ (.inl rfl) e, c⟩
  | dK kvs => obtain ⟨z, y, vs, r, ob, es, ep, e, c⟩ := x; exact ⟨z, y, vs, r, ob, es, ep, k _ _ (.inl rfl) e, c⟩
  | dT kvs =>
    obtain ⟨z, y, xs, r, ob, es, ep, e, c⟩ := x
    exact ⟨z, y, xs, Paired.mapP r fun p q z => ⟨z.1, ht _ _ z.2.1, z.2.2⟩, ob, es, ep, k _ _ (.inl rfl) e, c⟩
  | set S n => obtain ⟨ob, es, ep, t, e, c⟩ := x; exact ⟨ob, es, ep, t, k _ _ (.inl rfl) e, c⟩
  | ins C dx fs =>
    obtain ⟨d, z, ne, e, mA, ⟨od, es, ep, e2, c⟩, r⟩ := x
    exact ⟨ho _ d, z, ne, k _ _ (.inl rfl) e, mA, ⟨od, es, ep, k _ _ (.inr d) e2, c⟩, r⟩
  | own y => obtain ⟨ob, e⟩ := x; exact ⟨ob, k _ _ (.inl rfl) e⟩
  | xd fs => obtain ⟨mA, ⟨od, es, ep, e, c⟩, r⟩ := x; exact ⟨mA, ⟨od, es, ep, k _ _ (.inl rfl) e, c⟩, r⟩
  | rng lo hi => obtain ⟨t, u, v, e⟩ := x; exact ⟨t, u, v, k _ _ (.inl rfl) e⟩
  | frz ob u ih => obtain ⟨e, q⟩ := x; exact ⟨k _ _ (.inl rfl) e, ih q⟩
  | tbl ps =>
    have e : h.get? a = some { cls := .none, data := .fields ps } := x
    show h'.get? a = some { cls := .none, data := .fields ps }
    exact k a _ (.inl rfl) e
  | met f y =>
    have e : h.get? a = some (PySem.W.methodObj (.ref f) (.ref y)) := x
    show h'.get? a = some (PySem.W.methodObj (.ref f) (.ref y))
    exact k a _ (.inl rfl) e
  | ext φ => obtain ⟨p, ⟨o, e⟩, st⟩ := x; exact ⟨st _ _ p fun o q => k _ _ (.inl rfl) q, ⟨o, k _ _ (.inl rfl) e⟩, st⟩
theorem HOk.lt (x : HOk P w H h) (e : H a = some o) : a < h.objs.size := (x a o e).lt
theorem HOk.fresh (x : HOk P w H h) (e : h.objs.size ≤ a) : H a = none := by
  cases q : H a with
  | none => rfl
  | some u => exact absurd (Nat.lt_of_lt_of_le (x.lt q) e) (Nat.lt_irrefl _)
theorem HOk.kept (x : HOk P w H h) (k : ∀ b u, h.get? b = some u → h'.get? b = some u) : HOk P w H h' := fun a o e =>
  (x a o e).stay (fun b u _ q => k b u q) (fun _ q => q) fun _ _ q => q
theorem HOk.laid (x : HOk P w H h) (k : ∀ b u, h.get? b = some u → h'.get? b = some u) (hp : h.objs.size ≤ a) (new : ObjOk P w (upd H a o) h' a o) : HOk P w (upd H a o) h' := fun b u e => by
  have hn := x.fresh hp
  by_cases hb : b = a
  · subst hb; rw [upd_same] at e; cases e; exact new
  · rw [upd_ne hb] at e
    exact (x b u e).stay (fun c v _ q => k c v q) (fun c q => by rw [upd_ne (ne_of_none q hn)]; exact q) fun c xs q => by rw [upd_ne (ne_of_none q hn)]; exact q
end
noncomputable def Rd (H : Hp) (a : Addr) (u : HO) : Prop := H a = some u ∨ ∃ o, H a = some (.frz o u)
theorem Rd.ok {P : Program} {w : World} {H : Hp} {h : Heap} {a : Addr} {u : HO} (r : Rd H a u) (x : HOk P w H h) : ObjOk P w H h a u := by
  rcases r with r | ⟨o, r⟩
  · exact x a u r
  · obtain ⟨_, q⟩ := x a _ r
    exact q
noncomputable def Mut : Option HO → Prop
  | some (.lst _) => True
  | some (.dK _) => True
  | some (.dT _) => True
  | some (.set _ _) => True
  | some (.ins _ _ _) => True
  | some (.ext _) => True
  | _ => False
section
variable {P : Program} {w : World} {H : Hp} {h h' : Heap} {x e : Addr} {o' : HO}
theorem HOk.write (ok : HOk P w H h) (mu : Mut (H x)) (he : e = x ∨ H e = some (.own x)) (k : ∀ b u, b ≠ e → h.get? b = some u → h'.get? b = some u) (heo : ∃ u, h'.get? e = some u)
    (new : ObjOk P w (upd H x o') h' x o') : HOk P w (upd H x o') h' := fun b u q => by
  have nown : ∀ c y, H c = some (.own y) → c ≠ x := fun c y r z => by subst z; rw [r] at mu; exact mu
  have ntup : ∀ c xs, H c = some (.tup xs) → c ≠ x := fun c xs r z => by subst z; rw [r] at mu; exact mu
  by_cases hb : b = x
  · subst hb; rw [upd_same] at q; cases q; exact new
  · rw [upd_ne hb] at q
    by_cases hbe : b = e
    · have q' : H b = some (.own x) := by
        rcases he with z | z
        · exact absurd (hbe.trans z) hb
        · rw [hbe]; exact z
      rw [q] at q'; cases q'
      obtain ⟨v, hv⟩ := heo
      exact ⟨v, by rw [hbe]; exact hv⟩
    · refine (ok b u q).stay (fun c v hc r => k c v ?_ r) (fun c r => by rw [upd_ne (nown c b r)]; exact r) fun c xs r => by rw [upd_ne (ntup c xs r)]; exact r
      rcases hc with rfl | hc
      · exact hbe
      · rintro rfl
        rcases he with z | z
        · exact nown c b hc z
        · rw [hc] at z; cases z; exact hb rfl
end
structure Un (fs ex : List Addr) (H H' : Hp) (h h' : Heap) : Prop where
  keep : ∀ b o, h.get? b = some o → H b = none → b ∉ fs → b ∉ ex → h'.get? b = some o
  slot : ∀ b o, h.get? b = some o → H b = none → b ∈ fs → b ∉ ex → ∃ sl, h'.get? b = some { o with slots := sl }
  free : ∀ b o, h.get? b = some o → H b = none → b ∉ ex → H' b = none
  there : ∀ b o, h.get? b = some o → b ∉ ex → ∃ o', h'.get? b = some o'
  tups : ∀ b xs, H b = some (.tup xs) → H' b = some (.tup xs)
  frzs : ∀ b o u, H b = some (.frz o u) → H' b = some (.frz o u)
  tbls : ∀ b ps, H b = some (.tbl ps) → ∃ more, H' b = some (.tbl (ps ++ more))
section
variable {fs fs' ex ex' : List Addr} {H H1 H2 : Hp} {h h1 h2 h' : Heap} {a x e : Addr} {o : HO}
theorem Un.any (u : Un fs ex H H1 h h1) {b : Addr} {ob : Obj} (q : h.get? b = some ob) (n : H b = none) (hx : b ∉ ex) : ∃ sl, h1.get? b = some { ob with slots := sl } := by
  by_cases hb : b ∈ fs
  · exact u.slot b ob q n hb hx
  · exact ⟨ob.slots, u.keep b ob q n hb hx⟩
theorem Un.kept (k : ∀ b u, h.get? b = some u → h'.get? b = some u) : Un fs ex H H h h' :=
  ⟨fun b ob q _ _ _ => k b ob q, fun b ob q _ _ _ => ⟨ob.slots, k b ob q⟩, fun _ _ _ n _ => n, fun b ob q _ => ⟨ob, k b ob q⟩, fun _ _ q => q, fun _ _ _ q => q, fun _ ps q => ⟨#[], by rw [q]; simp⟩⟩
theorem Un.refl : Un fs ex H H h h := Un.kept fun _ _ q => q
theorem Un.laid (k : ∀ b u, h.get? b = some u → h'.get? b = some u) (hp : h.objs.size ≤ a) (hn : H a = none) : Un fs ex H (upd H a o) h h' where
  keep := fun b u q _ _ _ => k b u q
  slot := fun b u q _ _ _ => ⟨u.slots, k b u q⟩
  free := fun b u q n _ => by rw [upd_ne (Nat.ne_of_lt (Nat.lt_of_lt_of_le (Heap.lt_size q) hp))]; exact n
  there := fun b u q _ => ⟨u, k b u q⟩
  tups := fun b xs q => by rw [upd_ne (ne_of_none q hn)]; exact q
  frzs := fun b u xs q => by rw [upd_ne (ne_of_none q hn)]; exact q
  tbls := fun b ps q => ⟨#[], by rw [upd_ne (ne_of_none q hn), q]; simp⟩
theorem Un.write (mu : Mut (H x)) (he : e = x ∨ H e = some (.own x)) (k : ∀ b u, b ≠ e → h.get? b = some u → h'.get? b = some u) (heo : ∃ u, h'.get? e = some u) : Un fs ex H (upd H x o) h h' := by
  have hx : ∀ b, H b = none → b ≠ x := fun b n z => by subst z; rw [n] at mu; exact mu
  have hb : ∀ b, H b = none → b ≠ e := fun b n z => by
    subst z
    rcases he with r | r
    · exact hx b n r
    · rw [n] at r; cases r
  have hm : ∀ b u, H b = some u → ¬ Mut (some u) → b ≠ x := fun b u q nm z => by subst z; rw [q] at mu; exact nm mu
  refine ⟨fun b u q n _ _ => k b u (hb b n) q, fun b u q n _ _ => ⟨u.slots, k b u (hb b n) q⟩, fun b u q n _ => by rw [upd_ne (hx b n)]; exact n, fun b u q _ => ?_,
    fun b xs q => by rw [upd_ne (hm b _ q fun z => z)]; exact q, fun b u xs q => by rw [upd_ne (hm b _ q fun z => z)]; exact q, fun b ps q => ⟨#[], by rw [upd_ne (hm b _ q fun z => z), q]; simp⟩⟩
  by_cases hbe : b = e
  · subst hbe; exact heo
  · exact ⟨u, k b u hbe q⟩
end
noncomputable def trk (h : Heap) (H : Hp) : List Addr := (List.range h.objs.size).filter fun a => (H a).isSome
noncomputable def hidT (h : Heap) (H : Hp) : Heap := PySem.W.hideAll h (trk h H)
theorem hidT_size (h : Heap) (H : Hp) : (hidT h H).objs.size = h.objs.size := PySem.W.hideAll_size _ _
theorem hidT_get {h : Heap} {H : Hp} {b : Addr} {o : Obj} (e : h.get? b = some o) (n : H b = none) : (hidT h H).get? b = some o :=
  PySem.W.hideAll_get _ e fun hm => by
    have q : (H b).isSome = true := (List.mem_filter.mp hm).2
    rw [n] at q; simp at q
theorem of_hidT {h : Heap} {H : Hp} {b : Addr} {o : Obj} (e : (hidT h H).get? b = some o) : h.get? b = some o ∧ H b = none := by
  have e' : h.get? b = some o := PySem.W.of_hideAll (trk h H) e
  refine ⟨e', ?_⟩
  cases q : H b with
  | none => rfl
  | some x =>
    have hm : b ∈ trk h H := List.mem_filter.mpr ⟨List.mem_range.mpr (Heap.lt_size e'), by simp [q]⟩
    have z : (hidT h H).get? b = none := PySem.W.hideAll_none (trk h H) hm
    rw [z] at e; cases e
end L2
namespace L2
open PySem PySem.Spec PyProof.Rows
structure Mod (K : PySem.W.Frag) (mg : Str → Option Value) (base : Heap) : Prop where
  kin : K.In base
  glob : base.Ns mainGlobals mg
  blt : ∃ mb, base.Ns builtinsNs mb ∧ ∀ x : Str, x ≠ "__name__" → mb x = bootBuiltins x
  nolimit : base.NoLimit
structure Cx where
  prog : Program
  w : World
  K : PySem.W.Frag
  mg : Str → Option Value
  base : Heap
  A : Around
  N : List Str
  s₀ : Shared
  H₀ : Hp
  env : Env
  outer : List Env
  stack : List Env
  ex : List Addr
  fn : Str → Bool
  calm : Bool
  pn : List (Addr × Obj)
  xe : Value → Shared → Prop
noncomputable def frs (l : List Env) : List Addr := l.filterMap (·.frame)
noncomputable abbrev Cx.fs (X : Cx) : List Addr := frs X.outer
noncomputable def Vis (sc : Scope) (x : Str) : Prop := sc.names.lookup x = some .local ∨ sc.names.lookup x = some .cell ∨ sc.names.lookup x = some .free
noncomputable def Loc (sc : Scope) (x : Str) : Prop := sc.names.lookup x = some .local ∨ sc.names.lookup x = some .cell
noncomputable def Look (env : Env) (h : Heap) (m : Str → Option Value) (x : Str) (u : Value) : Prop :=
  (env.kindOf x = some .local ∧ m x = some u) ∨ ((env.kindOf x = some .cell ∨ env.kindOf x = some .free) ∧ ∃ c, env.cells.lookup x = some c ∧ h.IsCell c (some u))
structure Cx.Ok (X : Cx) : Prop where
  mod : Mod X.K X.mg X.base
  kind : X.env.scope.kind = .function
  glob : X.env.globals = mainGlobals
  blt : X.env.builtins = builtinsNs
  above : X.s₀.heap.objs.size ≤ X.env.locals
  inj : ∀ x y c, X.env.cells.lookup x = some c → X.env.cells.lookup y = some c → x = y
  has : ∀ x, (X.env.kindOf x = some .cell ∨ X.env.kindOf x = some .free) → ∃ c, X.env.cells.lookup x = some c
  cab : ∀ x c, X.fn x = true → X.env.cells.lookup x = some c → X.s₀.heap.objs.size ≤ c
  hd : X.calm = true → X.A.handled = none
  frames : X.A.frames = some X.stack
  stk : X.stack = X.outer ∨ (X.stack = X.env :: X.outer ∧ X.env.frame = some X.env.locals)
  exf : ∀ b ∈ X.ex, b ≠ X.env.locals ∧ ∀ x c, X.env.cells.lookup x = some c → c ≠ b
  bs : ∀ b o, X.base.get? b = some o → X.s₀.heap.get? b = some o ∧ X.H₀ b = none
  bsz : X.base.objs.size ≤ X.s₀.heap.objs.size
  noex : ∀ b o, X.base.get? b = some o → b ∉ X.ex
  exfs : ∀ b ∈ X.ex, b ∉ X.fs
  funs : X.s₀.heap.FunFrames X.base X.outer
  frf : ∀ b ∈ X.fs, X.H₀ b = none
structure Inv (X : Cx) (pins : List (Addr × Obj)) (σ : List (Option V)) (H : Hp) (s : Shared) : Prop where
  ok : X.Ok
  os : s.os = X.s₀.os
  bare : AllBare s.gens
  base : Un X.fs X.ex X.H₀ H X.s₀.heap s.heap
  loc : ∃ m, s.heap.Ns X.env.locals m ∧ ∀ (i : Nat) (x : Str) (v : V), X.N[i]? = some x → σ[i]? = some (some v) → Vis X.env.scope x → ∃ u, RelV v u ∧ Look X.env s.heap m x u
  cell : ∀ x c, X.env.cells.lookup x = some c → ∃ v, s.heap.IsCell c v
  free : H X.env.locals = none
  freeC : ∀ x c, X.env.cells.lookup x = some c → H c = none
  pin : ∀ p ∈ X.pn ++ pins, s.heap.get? p.1 = some p.2 ∧ H p.1 = none ∧ p.1 ≠ X.env.locals ∧ p.1 ∉ X.fs ∧ ∀ v, p.2.data ≠ .cell v
  hok : HOk X.prog X.w H s.heap
  len : σ.length = X.N.length
section
variable {X : Cx} {pins : List (Addr × Obj)} {σ : List (Option V)} {H H' : Hp} {s : Shared} {h' : Heap}
theorem Cx.Ok.nofr (ok : X.Ok) {b : Addr} {o : Obj} (e : X.base.get? b = some o) : b ∉ X.fs := fun hb => by
  have := (ok.funs.mem hb).1
  rw [e] at this; cases this
theorem Inv.bs (I : Inv X pins σ H s) : ∀ b o, X.base.get? b = some o → s.heap.get? b = some o ∧ H b = none := fun b o e =>
  ⟨I.base.keep b o (I.ok.bs b o e).1 (I.ok.bs b o e).2 (I.ok.nofr e) (I.ok.noex b o e), I.base.free b o (I.ok.bs b o e).1 (I.ok.bs b o e).2 (I.ok.noex b o e)⟩
theorem Inv.bk (I : Inv X pins σ H s) : ∀ b o, X.base.get? b = some o → s.heap.get? b = some o := fun b o e => (I.bs b o e).1
theorem Inv.mod (I : Inv X pins σ H s) : Mod X.K X.mg X.base := I.ok.mod
theorem Inv.kIn (I : Inv X pins σ H s) : X.K.In s.heap := I.ok.mod.kin.keeps I.bk
theorem Inv.lt (I : Inv X pins σ H s) : X.env.locals < s.heap.objs.size := let ⟨_, hn, _⟩ := I.loc; hn.lt
theorem Inv.sz (I : Inv X pins σ H s) : X.s₀.heap.objs.size ≤ s.heap.objs.size := Nat.le_trans I.ok.above (Nat.le_of_lt I.lt)
theorem Inv.nofs (I : Inv X pins σ H s) {a : Addr} (h : s.heap.objs.size ≤ a) : a ∉ X.fs := fun hb => by
  obtain ⟨_, o, ho, _⟩ := I.ok.funs.mem hb
  exact absurd (Nat.lt_of_lt_of_le (Heap.lt_size ho) (Nat.le_trans I.sz h)) (Nat.lt_irrefl _)
theorem Inv.cne (I : Inv X pins σ H s) : ∀ x c, X.env.cells.lookup x = some c → c ≠ X.env.locals := fun x c e z => by
  obtain ⟨v, o, ho, hd⟩ := I.cell x c e
  obtain ⟨m, ⟨o', es, ep, ho', hd', _⟩, _⟩ := I.loc
  rw [z, ho'] at ho; cases ho; rw [hd'] at hd; cases hd
theorem Inv.funs (I : Inv X pins σ H s) : s.heap.FunFrames X.base X.outer := by
  have all : ∀ (l : List Env), (∀ b ∈ frs l, b ∈ X.fs) → X.s₀.heap.FunFrames X.base l → s.heap.FunFrames X.base l := by
    intro l
    induction l with
    | nil => intro _ _; trivial
    | cons env r ih =>
      intro hs hl
      obtain ⟨hk, ⟨L, o, hf, hn, ho, hd⟩, hr⟩ := hl
      have hL : L ∈ X.fs := hs L (by unfold frs; rw [List.filterMap_cons, hf]; exact List.mem_cons_self)
      obtain ⟨sl, e⟩ := I.base.slot L o ho (I.ok.frf L hL) hL fun z => I.ok.exfs L z hL
      exact ⟨hk, ⟨L, _, hf, hn, e, hd⟩, ih (fun b hb => hs b (by unfold frs; rw [List.filterMap_cons, hf]; exact List.mem_cons_of_mem _ hb)) hr⟩
  exact all X.outer (fun _ hb => hb) I.ok.funs
theorem Inv.stack (I : Inv X pins σ H s) : s.heap.FunFrames X.base X.stack := by
  rcases I.ok.stk with e | ⟨e, hf⟩
  · rw [e]; exact I.funs
  · rw [e]
    obtain ⟨m, hn, _⟩ := I.loc
    refine .cons (by rw [I.ok.kind]; decide) hf hn ?_ I.funs
    exact Heap.get?_none_of_le (Nat.le_trans I.ok.bsz I.ok.above)
theorem Inv.stkSub (I : Inv X pins σ H s) : ∀ b ∈ frs X.stack, b ∈ X.env.locals :: X.fs := fun b hb => by
  rcases I.ok.stk with e | ⟨e, hf⟩
  · rw [e] at hb; exact List.mem_cons_of_mem _ hb
  · rw [e] at hb
    unfold frs at hb
    rw [List.filterMap_cons, hf] at hb
    exact hb
theorem Inv.stkFree (I : Inv X pins σ H s) : ∀ b ∈ frs X.stack, H b = none := fun b hb => by
  rcases List.mem_cons.mp (I.stkSub b hb) with e | hb
  · rw [e]; exact I.free
  · obtain ⟨_, o, ho, _⟩ := I.ok.funs.mem hb
    exact I.base.free b o ho (I.ok.frf b hb) fun z => I.ok.exfs b z hb
theorem Inv.step {g' : Array GenState} {t' : Nat} {d' : Drawn} {ch : List Addr} (I : Inv X pins σ H s)
    (hch : ∀ b ∈ ch, (b ∈ X.ex ∨ X.s₀.heap.objs.size ≤ b) ∧ b ≠ X.env.locals ∧ (∀ x c, X.env.cells.lookup x = some c → c ≠ b) ∧ ∀ p ∈ X.pn ++ pins, p.1 ≠ b)
    (keep : ∀ b o, b ≠ X.env.locals → b ∉ X.fs → b ∉ ch → s.heap.get? b = some o → H b = none → h'.get? b = some o)
    (slot : ∀ b o, b ≠ X.env.locals → b ∈ X.fs → b ∉ ch → s.heap.get? b = some o → H b = none → ∃ sl, h'.get? b = some { o with slots := sl }) (free : ∀ b o, b ∉ ch → s.heap.get? b = some o → H b = none → H' b = none)
    (there : ∀ b o, b ∉ ch → s.heap.get? b = some o → ∃ o', h'.get? b = some o')
    (tups : ∀ b xs, H b = some (.tup xs) → H' b = some (.tup xs)) (frzs : ∀ b o u, H b = some (.frz o u) → H' b = some (.frz o u)) (tbls : ∀ b ps, H b = some (.tbl ps) → ∃ more, H' b = some (.tbl (ps ++ more)))
    (ns : ∀ m, s.heap.Ns X.env.locals m → h'.Ns X.env.locals m) (hok : HOk X.prog X.w H' h') (hg : AllBare g') :
    Inv X pins σ H' { s with heap := h', gens := g', drawn := d', toks := t' } := by
  have neL : ∀ b o, X.s₀.heap.get? b = some o → b ≠ X.env.locals := fun b o e => Nat.ne_of_lt (Nat.lt_of_lt_of_le (Heap.lt_size e) I.ok.above)
  have neC : ∀ b o, X.s₀.heap.get? b = some o → b ∉ X.ex → b ∉ ch := fun b o e hx hb => by
    rcases (hch b hb).1 with z | z
    · exact hx z
    · exact absurd (Nat.lt_of_lt_of_le (Heap.lt_size e) z) (Nat.lt_irrefl _)
  have cellK : ∀ x c, X.env.cells.lookup x = some c → ∀ v, s.heap.IsCell c v → h'.IsCell c v := fun x c e v ⟨o, ho, hd⟩ => by
    have nch : c ∉ ch := fun z => (hch c z).2.2.1 x c e rfl
    by_cases hc : c ∈ X.fs
    · obtain ⟨sl, q⟩ := slot c o (I.cne x c e) hc nch ho (I.freeC x c e)
      exact ⟨_, q, hd⟩
    · exact ⟨o, keep c o (I.cne x c e) hc nch ho (I.freeC x c e), hd⟩
  refine ⟨I.ok, I.os, hg, ⟨fun b o e n hb hx => ?_, fun b o e n hb hx => ?_, fun b o e n hx => ?_, fun b o e hx => ?_, fun b xs e => tups b xs (I.base.tups b xs e), fun b o xs e => frzs b o xs (I.base.frzs b o xs e), fun b ps e => ?_⟩, ?_, fun x c e => ?_, ?_, fun x c e => ?_, fun p hp => ?_, hok, I.len⟩
  · exact keep b o (neL b o e) hb (neC b o e hx) (I.base.keep b o e n hb hx) (I.base.free b o e n hx)
  · obtain ⟨sl, e1⟩ := I.base.slot b o e n hb hx
    obtain ⟨sl', e2⟩ := slot b _ (neL b o e) hb (neC b o e hx) e1 (I.base.free b o e n hx)
    exact ⟨sl', e2⟩
  · obtain ⟨o', e1⟩ := I.base.there b o e hx
    exact free b o' (neC b o e hx) e1 (I.base.free b o e n hx)
  · obtain ⟨o', e1⟩ := I.base.there b o e hx
    exact there b o' (neC b o e hx) e1
  · obtain ⟨m1, e1⟩ := I.base.tbls b ps e
    obtain ⟨m2, e2⟩ := tbls b _ e1
    exact ⟨m1 ++ m2, by rw [e2, Array.append_assoc]⟩
  · obtain ⟨m, hn, hl⟩ := I.loc
    refine ⟨m, ns m hn, fun i x v e1 e2 e3 => ?_⟩
    obtain ⟨u, r, l⟩ := hl i x v e1 e2 e3
    refine ⟨u, r, ?_⟩
    rcases l with l | ⟨k, c, e, z⟩
    · exact .inl l
    · exact .inr ⟨k, c, e, cellK x c e _ z⟩
  · obtain ⟨v, z⟩ := I.cell x c e
    exact ⟨v, cellK x c e v z⟩
  · obtain ⟨m, ⟨o, _, _, ho, _⟩, _⟩ := I.loc
    exact free _ o (fun z => (hch _ z).2.1 rfl) ho I.free
  · obtain ⟨v, o, ho, hd⟩ := I.cell x c e
    exact free c o (fun z => (hch c z).2.2.1 x c e rfl) ho (I.freeC x c e)
  · obtain ⟨e, n, ne, nf, d⟩ := I.pin p hp
    have nch : p.1 ∉ ch := fun z => (hch p.1 z).2.2.2 p hp rfl
    exact ⟨keep p.1 p.2 ne nf nch e n, free p.1 p.2 nch e n, ne, nf, d⟩
theorem Inv.un {t' : Nat} (I : Inv X pins σ H s) (u : Un X.fs [] H H' s.heap h') (hok : HOk X.prog X.w H' h') : Inv X pins σ H' { s with heap := h', toks := t' } := by
  obtain ⟨m, ⟨o, es, ep, ho, r⟩, _⟩ := id I.loc
  obtain ⟨sl, hL⟩ := u.any ho I.free (by simp)
  exact I.step (g' := s.gens) (d' := s.drawn) (ch := []) (fun _ z => nomatch z) (fun b o _ hb _ e n => u.keep b o e n hb (by simp)) (fun b o _ hb _ e n => u.slot b o e n hb (by simp)) (fun b o _ e n => u.free b o e n (by simp)) (fun b o _ e => u.there b o e (by simp)) u.tups u.frzs u.tbls (fun m' hm => by
    obtain ⟨o', es', ep', ho', r'⟩ := hm
    rw [ho] at ho'; cases ho'
    exact ⟨_, es', ep', hL, r'⟩) hok I.bare
theorem Inv.call {g' : Array GenState} {t' : Nat} {d' : Drawn} {ch : List Addr} (I : Inv X pins σ H s) (u : Un (frs X.stack) ch H H' s.heap h') (hok : HOk X.prog X.w H' h') (hg : AllBare g')
    (hch : ∀ b ∈ ch, (b ∈ X.ex ∨ X.s₀.heap.objs.size ≤ b) ∧ b ≠ X.env.locals ∧ (∀ x c, X.env.cells.lookup x = some c → c ≠ b) ∧ ∀ p ∈ X.pn ++ pins, p.1 ≠ b) :
    Inv X pins σ H' { s with heap := h', gens := g', drawn := d', toks := t' } := by
  obtain ⟨m, ⟨o, es, ep, ho, r⟩, _⟩ := id I.loc
  obtain ⟨sl, hL⟩ := u.any ho I.free fun z => (hch _ z).2.1 rfl
  exact I.step (ch := ch) hch (fun b o hL hb hc e n => u.keep b o e n (fun z => (List.mem_cons.mp (I.stkSub b z)).elim hL hb) hc) (fun b o _ _ hc e n => u.any e n hc) (fun b o hc e n => u.free b o e n hc) (fun b o hc e => u.there b o e hc) u.tups u.frzs u.tbls (fun m' hm => by
    obtain ⟨o', es', ep', ho', r'⟩ := hm
    rw [ho] at ho'; cases ho'
    exact ⟨_, es', ep', hL, r'⟩) hok hg
theorem Inv.turned {t' : Nat} {it : Addr} (I : Inv X pins σ H s) (k : ∀ b o, b ≠ it → s.heap.get? b = some o → h'.get? b = some o) (hn : H it = none) (hL : it ≠ X.env.locals)
    (h1 : it ∈ X.ex ∨ X.s₀.heap.objs.size ≤ it) (h2 : ∀ x c, X.env.cells.lookup x = some c → c ≠ it) (h3 : ∀ p ∈ X.pn ++ pins, p.1 ≠ it) : Inv X pins σ H { s with heap := h', toks := t' } := by
  have nit : ∀ b u, H b = some u → b ≠ it := fun b u e z => by rw [z, hn] at e; cases e
  refine I.step (g' := s.gens) (d' := s.drawn) (ch := [it]) (fun b hb => ?_) (fun b o _ _ hc e _ => k b o (fun z => hc (by simp [z])) e) (fun b o _ _ hc e _ => ⟨o.slots, k b o (fun z => hc (by simp [z])) e⟩) (fun _ _ _ _ n => n)
    (fun b o hc e => ⟨o, k b o (fun z => hc (by simp [z])) e⟩) (fun _ _ e => e) (fun _ _ _ e => e) (fun b ps e => ⟨#[], by rw [e]; simp⟩) (fun m hm => ?_) (fun b u e => ?_) I.bare
  · have e : b = it := by simpa using hb
    subst e
    exact ⟨h1, hL, h2, h3⟩
  · obtain ⟨o, es, ep, ho, r⟩ := hm
    exact ⟨o, es, ep, k _ o (Ne.symm hL) ho, r⟩
  · refine (I.hok b u e).stay (fun c v hc q => k c v ?_ q) (fun _ q => q) fun _ _ q => q
    rcases hc with z | z
    · rw [z]; exact nit b u e
    · exact nit c _ z
theorem Inv.tok (I : Inv X pins σ H s) (t : Nat) : Inv X pins σ H { s with toks := t } := I.un (h' := s.heap) (t' := t) Un.refl I.hok
theorem Inv.kept {t' : Nat} (I : Inv X pins σ H s) (k : ∀ b u, s.heap.get? b = some u → h'.get? b = some u) : Inv X pins σ H { s with heap := h', toks := t' } := I.un (Un.kept k) (I.hok.kept k)
theorem Inv.laid {a : Addr} {o : HO} {t' : Nat} (I : Inv X pins σ H s) (k : ∀ b u, s.heap.get? b = some u → h'.get? b = some u) (hp : s.heap.objs.size ≤ a) (new : ObjOk X.prog X.w (upd H a o) h' a o) :
    Inv X pins σ (upd H a o) { s with heap := h', toks := t' } := I.un (Un.laid k hp (I.hok.fresh hp)) (I.hok.laid k hp new)
theorem Inv.write {x e : Addr} {o : HO} {t' : Nat} (I : Inv X pins σ H s) (mu : Mut (H x)) (he : e = x ∨ H e = some (.own x)) (k : ∀ b u, b ≠ e → s.heap.get? b = some u → h'.get? b = some u) (heo : ∃ u, h'.get? e = some u)
    (new : ObjOk X.prog X.w (upd H x o) h' x o) : Inv X pins σ (upd H x o) { s with heap := h', toks := t' } := I.un (Un.write mu he k heo) (I.hok.write mu he k heo new)
theorem Inv.pins_of {pins' : List (Addr × Obj)} (I : Inv X pins σ H s) (h : ∀ p ∈ pins', s.heap.get? p.1 = some p.2 ∧ H p.1 = none ∧ p.1 ≠ X.env.locals ∧ p.1 ∉ X.fs ∧ ∀ v, p.2.data ≠ .cell v) : Inv X pins' σ H s :=
  ⟨I.ok, I.os, I.bare, I.base, I.loc, I.cell, I.free, I.freeC, fun p hp => (List.mem_append.mp hp).elim (fun z => I.pin p (List.mem_append_left _ z)) (h p), I.hok, I.len⟩
theorem nodup_ix {N : List Str} (hN : N.Nodup) {i j : Nat} {x : Str} (a : N[i]? = some x) (b : N[j]? = some x) : i = j := by
  obtain ⟨h1, e1⟩ := List.getElem?_eq_some_iff.mp a
  obtain ⟨h2, e2⟩ := List.getElem?_eq_some_iff.mp b
  exact (List.getElem_inj hN).mp (e1.trans e2.symm)
theorem store_ok2 {M : Model} {A : Around} {E : Value → Shared → Prop} {i : Nat} {x : Str} {v : V} {u : Value} {Q : Unit → Shared → Prop} (I : Inv X pins σ H s) (hN : X.N.Nodup) (hi : X.N[i]? = some x) (hx : Loc X.env.scope x) (r : RelV v u)
    (h : ∀ s', Inv X pins (σ.set i (some v)) H s' → (∃ a, Heap.SameBut a s.heap s'.heap ∧ (a = X.env.locals ∨ X.env.cells.lookup x = some a)) → Q () s') (hf : X.fn x = true ∨ X.env.scope.names.lookup x = some .local := by first | exact .inl rfl | exact .inr rfl | assumption) : wpAny M A (storeName X.env x u) Q E s := by
  obtain ⟨m, hn, hl⟩ := id I.loc
  have hcls : (X.env.scope.kind == .class || (X.env.scope.kind == .module && X.env.locals != X.env.globals)) = false := by rw [I.ok.kind]; rfl
  have hiσ : i < σ.length := by rw [I.len]; exact (List.getElem?_eq_some_iff.mp hi).1
  have cne := I.cne
  have tracked : ∀ {a : Addr} {h' : Heap}, (∃ o, s.heap.get? a = some o ∧ H a = none) → Heap.SameBut a s.heap h' → HOk X.prog X.w H h' := fun {a h'} ha hs b ob e => by
    obtain ⟨_, _, hfree⟩ := ha
    refine (I.hok b ob e).stay (fun c w' hc q => (hs.2 c ?_).trans q) (fun _ q => q) fun _ _ q => q
    rintro rfl
    rcases hc with rfl | hc
    · rw [hfree] at e; cases e
    · rw [hfree] at hc; cases hc
  rcases hx with hk | hk
  · refine wpAny_storeName_local hk hn (fun h' hn' hs => ?_) hcls
    obtain ⟨oL, _, _, hoL, _⟩ := id hn
    refine h _ ⟨I.ok, I.os, I.bare, ⟨fun b o e n hb hx => ?_, fun b o e n hb hx => ?_, I.base.free, fun b o e hx => ?_, I.base.tups, I.base.frzs, I.base.tbls⟩, ⟨_, hn', fun j y v' e1 e2 e3 => ?_⟩, fun y c e => ?_, I.free, I.freeC, fun p hp => ?_, tracked ⟨oL, hoL, I.free⟩ hs, by simpa using I.len⟩ ⟨_, hs, .inl rfl⟩
    · exact (hs.2 b (Nat.ne_of_lt (Nat.lt_of_lt_of_le (Heap.lt_size e) I.ok.above))).trans (I.base.keep b o e n hb hx)
    · obtain ⟨sl, e1⟩ := I.base.slot b o e n hb hx
      exact ⟨sl, (hs.2 b (Nat.ne_of_lt (Nat.lt_of_lt_of_le (Heap.lt_size e) I.ok.above))).trans e1⟩
    · obtain ⟨o', e1⟩ := I.base.there b o e hx
      exact ⟨o', (hs.2 b (Nat.ne_of_lt (Nat.lt_of_lt_of_le (Heap.lt_size e) I.ok.above))).trans e1⟩
    · by_cases hj : j = i
      · subst hj
        rw [hi] at e1; cases e1
        rw [List.getElem?_set_self hiσ] at e2
        cases e2
        exact ⟨u, r, .inl ⟨hk, by simp⟩⟩
      · rw [List.getElem?_set_ne (Ne.symm hj)] at e2
        obtain ⟨u', r', q⟩ := hl j y v' e1 e2 e3
        refine ⟨u', r', ?_⟩
        rcases q with ⟨k, e⟩ | ⟨k, c, e, z⟩
        · refine .inl ⟨k, ?_⟩
          have : y ≠ x := fun e => hj (nodup_ix hN e1 (e ▸ hi))
          simp [this, e]
        · exact .inr ⟨k, c, e, z.sameBut hs (cne y c e)⟩
    · obtain ⟨w', z⟩ := I.cell y c e
      exact ⟨w', z.sameBut hs (cne y c e)⟩
    · obtain ⟨e, n, ne, nf, d⟩ := I.pin p hp
      exact ⟨(hs.2 p.1 ne).trans e, n, ne, nf, d⟩
  · have hfn : X.fn x = true := by
      rcases hf with z | z
      · exact z
      · rw [z] at hk; cases hk
    obtain ⟨c, hc⟩ := I.ok.has x (.inl hk)
    obtain ⟨w', z⟩ := I.cell x c hc
    refine wpAny_storeName_cell I.ok.kind hk hc z (fun h' hc' hs => ?_)
    obtain ⟨oc, hoc, hocd⟩ := id z
    refine h { s with heap := h' } ⟨I.ok, I.os, I.bare, ⟨fun b o e n hb hx => ?_, fun b o e n hb hx => ?_, I.base.free, fun b o e hx => ?_, I.base.tups, I.base.frzs, I.base.tbls⟩, ⟨m, hn.sameBut hs (Ne.symm (cne x c hc)), fun j y v' e1 e2 e3 => ?_⟩, fun y c' e => ?_, I.free, I.freeC, fun p hp => ?_, tracked ⟨oc, hoc, I.freeC x c hc⟩ hs, by simpa using I.len⟩ ⟨c, hs, .inr hc⟩
    · exact (hs.2 b (Nat.ne_of_lt (Nat.lt_of_lt_of_le (Heap.lt_size e) (I.ok.cab x c hfn hc)))).trans (I.base.keep b o e n hb hx)
    · obtain ⟨sl, e1⟩ := I.base.slot b o e n hb hx
      exact ⟨sl, (hs.2 b (Nat.ne_of_lt (Nat.lt_of_lt_of_le (Heap.lt_size e) (I.ok.cab x c hfn hc)))).trans e1⟩
    · obtain ⟨o', e1⟩ := I.base.there b o e hx
      exact ⟨o', (hs.2 b (Nat.ne_of_lt (Nat.lt_of_lt_of_le (Heap.lt_size e) (I.ok.cab x c hfn hc)))).trans e1⟩
    · by_cases hj : j = i
      · subst hj
        rw [hi] at e1; cases e1
        rw [List.getElem?_set_self hiσ] at e2
        cases e2
        exact ⟨u, r, .inr ⟨.inl hk, c, hc, hc'⟩⟩
      · rw [List.getElem?_set_ne (Ne.symm hj)] at e2
        obtain ⟨u', r', q⟩ := hl j y v' e1 e2 e3
        refine ⟨u', r', ?_⟩
        rcases q with q | ⟨k, c', e, z'⟩
        · exact .inl q
        · refine .inr ⟨k, c', e, z'.sameBut hs ?_⟩
          rintro rfl
          exact hj (nodup_ix hN e1 (I.ok.inj _ _ _ e hc ▸ hi))
    · by_cases hcc : c' = c
      · subst hcc; exact ⟨_, hc'⟩
      · obtain ⟨w2, z2⟩ := I.cell y c' e
        exact ⟨w2, z2.sameBut hs hcc⟩
    · obtain ⟨e, n, ne, nf, d⟩ := I.pin p hp
      refine ⟨(hs.2 p.1 ?_).trans e, n, ne, nf, d⟩
      intro q
      rw [q, hoc] at e
      have q' : oc = p.2 := Option.some.inj e
      exact d w' (by rw [← q']; exact hocd)
theorem store_ok {M : Model} {A : Around} {E : Value → Shared → Prop} {i : Nat} {x : Str} {v : V} {u : Value} {Q : Unit → Shared → Prop} (I : Inv X pins σ H s) (hN : X.N.Nodup) (hi : X.N[i]? = some x) (hx : Loc X.env.scope x) (r : RelV v u)
    (h : ∀ s', Inv X pins (σ.set i (some v)) H s' → Q () s') (hf : X.fn x = true ∨ X.env.scope.names.lookup x = some .local := by first | exact .inl rfl | exact .inr rfl | assumption) : wpAny M A (storeName X.env x u) Q E s :=
  store_ok2 I hN hi hx r (fun s' I' _ => h s' I') hf
theorem Inv.call' {s' : Shared} {ch : List Addr} (I : Inv X pins σ H s) (ho : s'.os = s.os) (u : Un (frs X.stack) ch H H' s.heap s'.heap) (hok : HOk X.prog X.w H' s'.heap) (hg : AllBare s'.gens)
    (hch : ∀ b ∈ ch, (b ∈ X.ex ∨ X.s₀.heap.objs.size ≤ b) ∧ b ≠ X.env.locals ∧ (∀ x c, X.env.cells.lookup x = some c → c ≠ b) ∧ ∀ p ∈ X.pn ++ pins, p.1 ≠ b) : Inv X pins σ H' s' := by
  obtain ⟨h', g', d', t', o'⟩ := s'
  have e : o' = s.os := ho
  subst e
  exact I.call (g' := g') (t' := t') (d' := d') u hok hg hch
end
noncomputable abbrev XK := Value → Option Addr → Hp → Prop
noncomputable abbrev St := List (Option V)
noncomputable abbrev VK := V → Hp → Prop
noncomputable abbrev TE := St → Hp → VK → Prop
noncomputable abbrev TT := St → Hp → (Bool → Hp → Prop) → Prop
noncomputable abbrev TA := St → Hp → (List V → Hp → Prop) → Prop
structure Ends where
  nx : St → Hp → Prop
  rt : VK
  bk : St → Hp → Prop := fun _ _ => False
  ct : St → Hp → Prop := fun _ _ => False
noncomputable abbrev TS := Ends → St → Hp → Prop
noncomputable def EP (X : Cx) (pins : List (Addr × Obj)) (σ : St) (Q : VK) (u : Value) (s' : Shared) : Prop := ∃ v H', Inv X pins σ H' s' ∧ RelV v u ∧ Q v H'
noncomputable def TP (X : Cx) (pins : List (Addr × Obj)) (σ : St) (Q : Bool → Hp → Prop) (b : Bool) (s' : Shared) : Prop := ∃ H', Inv X pins σ H' s' ∧ Q b H'
noncomputable def AP (X : Cx) (pins : List (Addr × Obj)) (σ : St) (Q : List V → Hp → Prop) (us : List Value) (s' : Shared) : Prop := ∃ vs H', Inv X pins σ H' s' ∧ Vals vs us ∧ Q vs H'
noncomputable def SP (X : Cx) (pins : List (Addr × Obj)) (D : Ends) (f : Flow) (s' : Shared) : Prop :=
  match f with
  | .next => ∃ σ' H', Inv X pins σ' H' s' ∧ D.nx σ' H'
  | .brk => ∃ σ' H', Inv X pins σ' H' s' ∧ D.bk σ' H'
  | .cont => ∃ σ' H', Inv X pins σ' H' s' ∧ D.ct σ' H'
  | .ret u => ∃ v σ' H', Inv X pins σ' H' s' ∧ RelV v u ∧ D.rt v H'
noncomputable def PE (X : Cx) (e : Expr) (t : TE) : Prop :=
  ∀ (pins : List (Addr × Obj)) (s : Shared) (σ : St) (H : Hp) (Q : VK), Inv X pins σ H s → t σ H Q → wpAny (model X.prog X.w) X.A (eval e X.env) (EP X pins σ Q) X.xe s
noncomputable def PT (X : Cx) (e : Expr) (t : TT) : Prop :=
  ∀ (pins : List (Addr × Obj)) (s : Shared) (σ : St) (H : Hp) (Q : Bool → Hp → Prop), Inv X pins σ H s → t σ H Q → wpAny (model X.prog X.w) X.A (isTrue e X.env (eval e X.env)) (TP X pins σ Q) X.xe s
noncomputable def PW (X : Cx) (e : Expr) (t : TT) : Prop :=
  ∀ (whole : Sem Value) (pins : List (Addr × Obj)) (s : Shared) (σ : St) (H : Hp) (Q : Bool → Hp → Prop), Inv X pins σ H s → t σ H Q → wpAny (model X.prog X.w) X.A (isTrue e X.env whole) (TP X pins σ Q) X.xe s
theorem PW.pt {X : Cx} {e : Expr} {t : TT} (h : PW X e t) : PT X e t := h _
noncomputable def PA (X : Cx) (es : List Expr) (t : TA) : Prop :=
  ∀ (pos : Pos) (pins : List (Addr × Obj)) (s : Shared) (σ : St) (H : Hp) (Q : List V → Hp → Prop), Inv X pins σ H s → t σ H Q → wpAny (model X.prog X.w) X.A (spliced (backTo pos (starEach es X.env))) (AP X pins σ Q) X.xe s
noncomputable def PS (X : Cx) (st : Stmt) (t : TS) : Prop :=
  ∀ (pins : List (Addr × Obj)) (s : Shared) (σ : St) (H : Hp) (D : Ends), Inv X pins σ H s → t D σ H → wpAny (model X.prog X.w) X.A (exec st X.env) (SP X pins D) X.xe s
noncomputable def PSs (X : Cx) (st : List Stmt) (t : TS) : Prop :=
  ∀ (pins : List (Addr × Obj)) (s : Shared) (σ : St) (H : Hp) (D : Ends), Inv X pins σ H s → t D σ H → wpAny (model X.prog X.w) X.A (execs st X.env) (SP X pins D) X.xe s
theorem thn {α : Type} {t : Sem α} {Q Q' : α → Shared → Prop} {M : Model} {A : Around} {E : Value → Shared → Prop} {s : Shared} (h : wpAny M A t Q E s) (hQ : ∀ a s, Q a s → Q' a s) : wpAny M A t Q' E s := wpAny_mono h hQ fun _ _ x => x
end L2
namespace L2
open PySem PySem.Spec PyProof.Rows
section
variable {X : Cx}
theorem bin {a b : Expr} {ta tb : TE} (ha : PE X a ta) (hb : PE X b tb) {pins : List (Addr × Obj)} {s : Shared} {σ : St} {H : Hp} {R : V → V → Hp → Prop} (I : Inv X pins σ H s) (h : ta σ H fun x H1 => tb σ H1 fun y H2 => R x y H2)
    {α : Type} {Q : α → Shared → Prop} {f : Value → Value → Sem α}
    (hf : ∀ v u s2 x y H2, Inv X pins σ H2 s2 → RelV x v → RelV y u → R x y H2 → wpAny (model X.prog X.w) X.A (f v u) Q X.xe s2) :
    wpAny (model X.prog X.w) X.A (eval a X.env) (fun v s₁ => wpAny (model X.prog X.w) X.A (eval b X.env) (fun u s₂ => wpAny (model X.prog X.w) X.A (f v u) Q X.xe s₂) X.xe s₁) X.xe s := by
  refine thn (ha pins s σ H _ I h) fun v s1 ⟨x, H1, I1, r1, q1⟩ => ?_
  refine thn (hb pins s1 σ H1 _ I1 q1) fun u s2 ⟨y, H2, I2, r2, q2⟩ => ?_
  exact hf v u s2 x y H2 I2 r1 r2 q2
noncomputable def tVar (i : Nat) : TE := fun σ H Q => ∃ v, σ[i]? = some (some v) ∧ Q v H
noncomputable def tC (v : V) : TE := fun _ H Q => Q v H
theorem pe_var {i : Nat} {x : Str} {pos : Pos} (hN : X.N[i]? = some x) (hv : Vis X.env.scope x) (hd : (x == ("__debug__" : Str)) = false := by decide) (hcd : (x == ("__classdict__" : Str)) = false := by decide) : PE X (.Name x pos) (tVar i) := by
  intro pins s σ H Q I h
  obtain ⟨v, e, h⟩ := h
  obtain ⟨m, hn, hl⟩ := I.loc
  obtain ⟨u, r, l⟩ := hl i x v hN e hv
  have fin : EP X pins σ Q u s := ⟨v, H, I, r, h⟩
  rcases l with ⟨hk, hm⟩ | ⟨hk, c, hc, hcell⟩
  · exact wpAny_Name (wpAny_loadName_local I.ok.kind hk hn hm fin) hd
  · rcases hk with hk | hk
    · exact wpAny_Name (wpAny_loadName_cell I.ok.kind hk hc hcell fin) hd
    · exact wpAny_Name (wpAny_loadName_free I.ok.kind hk hc hcell fin hcd) hd
theorem pe_int {i j pos} : PE X (.Constant (.int i) j pos) (tC (.int i)) := fun _ _ _ H _ I h => wpAny_Constant_int ⟨.int i, H, I.tok _, ⟨_, rfl⟩, h⟩
theorem pe_bl {b j pos} : PE X (.Constant (.bool b) j pos) (tC (.bl b)) := fun _ _ _ H _ I h => Constant_bool ⟨.bl b, H, I, rfl, h⟩
theorem pe_non {j pos} : PE X (.Constant .none j pos) (tC .non) := fun _ _ _ H _ I h => Constant_none ⟨.non, H, I, rfl, h⟩
theorem pe_str {x j pos} : PE X (.Constant (.str x) j pos) (tC (.str x)) := fun _ _ _ H _ I h => Calls.Constant_str ⟨.str x, H, I.tok _, ⟨_, rfl⟩, h⟩
noncomputable def Gl (X : Cx) (x : Str) : Prop := X.env.kindOf x = some .globalImplicit
theorem ld_glob {E : Value → Shared → Prop} {pins : List (Addr × Obj)} {s : Shared} {σ : St} {H : Hp} {x : Str} {u : Value} {pos : Pos} {Q : Value → Shared → Prop} (I : Inv X pins σ H s) (hg : Gl X x) (hm : X.mg x = some u) (h : Q u s)
    (hd : (x == ("__debug__" : Str)) = false := by decide) : wpAny (model X.prog X.w) X.A (eval (.Name x pos) X.env) Q E s :=
  Calls.Name_function_global I.ok.kind hg (Calls.loadGlobal_global (by rw [I.ok.glob]; exact I.mod.glob.keeps I.bk) hm h) hd
theorem ld_blt {E : Value → Shared → Prop} {pins : List (Addr × Obj)} {s : Shared} {σ : St} {H : Hp} {x : Str} {u : Value} {pos : Pos} {Q : Value → Shared → Prop} (I : Inv X pins σ H s) (hg : Gl X x) (hm : X.mg x = none) (hv : bootBuiltins x = some u) (h : Q u s)
    (hn : x ≠ "__name__" := by decide) (hd : (x == ("__debug__" : Str)) = false := by decide) : wpAny (model X.prog X.w) X.A (eval (.Name x pos) X.env) Q E s := by
  obtain ⟨mb, h1, h2⟩ := I.mod.blt
  exact Calls.Name_function_global I.ok.kind hg (Calls.loadGlobal_builtin (by rw [I.ok.glob]; exact I.mod.glob.keeps I.bk) hm (by rw [I.ok.blt]; exact h1.keeps I.bk) ((h2 x hn).trans hv) h) hd
theorem pe_glob {x : Str} {v : V} {u : Value} {pos : Pos} (hg : Gl X x) (hm : X.mg x = some u) (r : RelV v u) (hd : (x == ("__debug__" : Str)) = false := by decide) : PE X (.Name x pos) (tC v) :=
  fun _ _ _ H _ I h => ld_glob I hg hm ⟨v, H, I, r, h⟩ hd
theorem pe_bltn {x : Str} {v : V} {u : Value} {pos : Pos} (hg : Gl X x) (hm : X.mg x = none) (hv : bootBuiltins x = some u) (r : RelV v u) (hn : x ≠ "__name__" := by decide) (hd : (x == ("__debug__" : Str)) = false := by decide) : PE X (.Name x pos) (tC v) :=
  fun _ _ _ H _ I h => ld_blt I hg hm hv ⟨v, H, I, r, h⟩ hn hd
variable {a b : Expr} {ta tb : TE} {pos : Pos}
noncomputable def PC (X : Cx) (op : CmpOp) (a b : Expr) (t : TE) : Prop :=
  ∀ (pins : List (Addr × Obj)) (s : Shared) (σ : St) (H : Hp) (Q : VK), Inv X pins σ H s → t σ H Q →
    wpAny (model X.prog X.w) X.A (eval a X.env) (fun v s₁ => wpAny (model X.prog X.w) X.A (eval b X.env) (fun u s₂ => wpAny (model X.prog X.w) X.A (compareOp op v u) (EP X pins σ Q) X.xe s₂) X.xe s₁) X.xe s
noncomputable def tB (t : TE) : TT := fun σ H Q => t σ H fun x H1 => ∃ c, x = .bl c ∧ Q c H1
theorem pt_cmp {op : CmpOp} {t : TE} (h : PC X op a b t) (h1 : behindInMarks op b = false := by first | exact nobehind _ (by decide) (by decide) | rfl) : PT X (.Compare a [op] [b] pos) (tB t) := by
  intro pins s σ H Q I hw
  refine wpAny_isTrue_Compare1 (thn (h pins s σ H _ I hw) fun v s1 h1 => thn h1 fun u s2 h2 => thn h2 fun c s3 ⟨x, H1, I1, r1, q1⟩ => ?_) h1
  obtain ⟨d, rfl, q⟩ := q1
  cases r1
  exact wpAny_truthy_bool ⟨H1, I1, q⟩
theorem pt_val {e : Expr} {t : TE} (h : PE X e t) (he : ∀ whole, isTrue e X.env whole = (do let v ← whole; standAt e.pos; holding [v] (truthy v)) := by intro _; rfl) : PT X e (tB t) := by
  intro pins s σ H Q I hw
  refine isTrue_plain (thn (h pins s σ H _ I hw) fun v s1 ⟨x, H1, I1, r1, q1⟩ => ?_) (he _)
  obtain ⟨d, rfl, q⟩ := q1
  cases r1
  exact wpAny_truthy_bool ⟨H1, I1, q⟩
variable {tA tB' : TT} {rest : List Expr}
noncomputable def tAnd (t u : TT) : TT := fun σ H Q => t σ H fun c H1 => if c = true then u σ H1 Q else Q false H1
noncomputable def tOr (t u : TT) : TT := fun σ H Q => t σ H fun c H1 => if c = true then Q true H1 else u σ H1 Q
noncomputable def tNot (t : TT) : TT := fun σ H Q => t σ H fun c H1 => Q (!c) H1
theorem pw_and1 (ha : PT X a tA) : PW X (.BoolOp .And [a] pos) tA := by
  intro wh pins s σ H Q I h
  refine isTrue_and (thn (ha pins s σ H Q I h) fun c s1 e => ?_)
  cases c with
  | true => exact isTrue_and_nil e
  | false => exact e
theorem pw_or1 (ha : PT X a tA) : PW X (.BoolOp .Or [a] pos) tA := by
  intro wh pins s σ H Q I h
  refine isTrue_or (thn (ha pins s σ H Q I h) fun c s1 e => ?_)
  cases c with
  | false => exact isTrue_or_nil e
  | true => exact e
theorem pw_and (ha : PT X a tA) (hb : PW X (.BoolOp .And (b :: rest) pos) tB') : PW X (.BoolOp .And (a :: b :: rest) pos) (tAnd tA tB') := by
  intro wh pins s σ H Q I h
  refine isTrue_and (thn (ha pins s σ H _ I h) fun c s1 ⟨H1, I1, q1⟩ => ?_)
  cases c with
  | true => exact hb wh pins s1 σ H1 Q I1 q1
  | false => exact ⟨H1, I1, q1⟩
theorem pw_or (ha : PT X a tA) (hb : PW X (.BoolOp .Or (b :: rest) pos) tB') : PW X (.BoolOp .Or (a :: b :: rest) pos) (tOr tA tB') := by
  intro wh pins s σ H Q I h
  refine isTrue_or (thn (ha pins s σ H _ I h) fun c s1 ⟨H1, I1, q1⟩ => ?_)
  cases c with
  | true => exact ⟨H1, I1, q1⟩
  | false => exact hb wh pins s1 σ H1 Q I1 q1
theorem pt_not (ha : PT X a tA) : PT X (.UnaryOp .Not a pos) (tNot tA) := by
  intro pins s σ H Q I h
  exact isTrue_not (ha pins s σ H (fun c H1 => Q (!c) H1) I h)
noncomputable def tAndV (ta tb : TE) : TE := fun σ H Q => ta σ H fun x H1 => ∃ c, x = .bl c ∧ if c = true then tb σ H1 Q else Q (.bl false) H1
noncomputable def tOrV (ta tb : TE) : TE := fun σ H Q => ta σ H fun x H1 => ∃ c, x = .bl c ∧ if c = true then Q (.bl true) H1 else tb σ H1 Q
noncomputable def tNotV (ta : TE) : TE := fun σ H Q => ta σ H fun x H1 => ∃ c, x = .bl c ∧ Q (.bl (!c)) H1
theorem pe_one {op} {t : TE} (h : PE X a t) : PE X (.BoolOp op [a] pos) t := fun pins s σ H Q I hw => BoolOp_one (h pins s σ H Q I hw)
theorem pe_and (ha : PE X a ta) (hb : PE X (.BoolOp .And (b :: rest) pos) tb) : PE X (.BoolOp .And (a :: b :: rest) pos) (tAndV ta tb) := by
  intro pins s σ H Q I h
  refine BoolOp_and (thn (ha pins s σ H _ I h) fun v s1 ⟨x, H1, I1, r1, q1⟩ => ?_)
  obtain ⟨c, rfl, q1⟩ := q1
  cases r1
  refine wpAny_truthy_bool ?_
  cases c with
  | true => exact hb pins s1 σ H1 Q I1 q1
  | false => exact ⟨.bl false, H1, I1, rfl, q1⟩
theorem pe_or (ha : PE X a ta) (hb : PE X (.BoolOp .Or (b :: rest) pos) tb) : PE X (.BoolOp .Or (a :: b :: rest) pos) (tOrV ta tb) := by
  intro pins s σ H Q I h
  refine BoolOp_or (thn (ha pins s σ H _ I h) fun v s1 ⟨x, H1, I1, r1, q1⟩ => ?_)
  obtain ⟨c, rfl, q1⟩ := q1
  cases r1
  refine wpAny_truthy_bool ?_
  cases c with
  | false => exact hb pins s1 σ H1 Q I1 q1
  | true => exact ⟨.bl true, H1, I1, rfl, q1⟩
theorem pe_not (ha : PE X a ta) : PE X (.UnaryOp .Not a pos) (tNotV ta) := by
  intro pins s σ H Q I h
  refine UnaryOp_ (thn (ha pins s σ H _ I h) fun v s1 ⟨x, H1, I1, r1, q1⟩ => ?_)
  obtain ⟨c, rfl, q1⟩ := q1
  cases r1
  exact not_of (wpAny_truthy_bool ⟨.bl (!c), H1, I1, rfl, q1⟩)
noncomputable def tIf (t : TT) (ta tb : TE) : TE := fun σ H Q => t σ H fun c H1 => if c = true then ta σ H1 Q else tb σ H1 Q
theorem pe_ifExp {c : Expr} (hc : PT X c tA) (ha : PE X a ta) (hb : PE X b tb) : PE X (.IfExp c a b pos) (tIf tA ta tb) := by
  intro pins s σ H Q I h
  refine wpAny_IfExp (thn (hc pins s σ H _ I h) fun d s1 ⟨H1, I1, q1⟩ => ?_)
  cases d with
  | true => exact ha pins s1 σ H1 Q I1 q1
  | false => exact hb pins s1 σ H1 Q I1 q1
end
end L2
namespace L2
open PySem PySem.Spec PyProof.Rows
noncomputable def SqL (K : PySem.W.Frag) (H : Hp) (a : Addr) (xs : List V) : Prop :=
  Rd H a (.lst xs) ∨
    ∃ (o : Obj) (its : Array Value) (n : Nat), K.lookup a = some o ∧ o.cls = .type "list" ∧ o.dict = none ∧ o.data = .seq its n ∧ its.size ≤ sizeLine ∧ Vals xs its.toList
noncomputable def SqT (K : PySem.W.Frag) (H : Hp) (a : Addr) (xs : List V) : Prop :=
  Rd H a (.tup xs) ∨
    ∃ (o : Obj) (its : Array Value) (n : Nat), K.lookup a = some o ∧ o.cls = .type "tuple" ∧ o.data = .seq its n ∧ its.size ≤ sizeLine ∧ Vals xs its.toList
noncomputable def absV : Value → Option V
  | .none => some .non
  | .bool b => some (.bl b)
  | .int i _ => some (.int i)
  | .str x _ => some (.str x)
  | .bytes b _ => some (.byt b)
  | .float b _ => some (.flt b)
  | .ref a => some (.ref a)
  | .type n => some (.ty n)
  | _ => none
theorem RelV.abs {x : V} {u : Value} (r : RelV x u) : absV u = some x := by
  cases x with
  | non => cases r; rfl
  | bl _ => cases r; rfl
  | int _ => obtain ⟨t, rfl⟩ := r; rfl
  | str _ => obtain ⟨t, rfl⟩ := r; rfl
  | byt _ => obtain ⟨t, rfl⟩ := r; rfl
  | flt _ => obtain ⟨t, rfl⟩ := r; rfl
  | ref _ => cases r; rfl
  | ty _ => cases r; rfl
theorem RelV.inj {x y : V} {u : Value} (r : RelV x u) (q : RelV y u) : x = y := Option.some.inj (r.abs.symm.trans q.abs)
theorem Vals.inj : ∀ {xs ys : List V} {us : List Value}, Vals xs us → Vals ys us → xs = ys
  | _, _, _, .nil, .nil => rfl
  | _, _, _, .cons r t, .cons r' t' => by rw [r.inj r', Vals.inj t t']
section
variable {X : Cx} {pins : List (Addr × Obj)} {σ : St} {H : Hp} {s : Shared} {a : Addr} {xs ys : List V}
theorem SqL.of {K : PySem.W.Frag} (h : H a = some (.lst xs)) : SqL K H a xs := .inl (.inl h)
theorem SqT.of {K : PySem.W.Frag} (h : H a = some (.tup xs)) : SqT K H a xs := .inl (.inl h)
theorem Inv.list (I : Inv X pins σ H s) (h : SqL X.K H a xs) : ∃ its : List Value, Vals xs its ∧ PlainL s.heap a its.toArray ∧ xs.length ≤ sizeLine := by
  rcases h with h | ⟨o, its, n, hk, hc, hd, hs, hz, r⟩
  · obtain ⟨z, its, n, r, e⟩ := h.ok I.hok
    exact ⟨its, r, ⟨_, n, e, rfl, rfl, rfl⟩, z⟩
  · refine ⟨its.toList, r, ⟨o, n, I.kIn a o hk, hc, hd, by simpa using hs⟩, ?_⟩
    have e := r.length
    simp only [Array.length_toList] at e
    omega
theorem Inv.tuple (I : Inv X pins σ H s) (h : SqT X.K H a xs) : ∃ its : List Value, Vals xs its ∧ IsTup s.heap a its.toArray ∧ xs.length ≤ sizeLine := by
  rcases h with h | ⟨o, its, n, hk, hc, hs, hz, r⟩
  · obtain ⟨z, its, r, p⟩ := h.ok I.hok
    exact ⟨its, r, p, z⟩
  · refine ⟨its.toList, r, ⟨o, I.kIn a o hk, hc, n, by simpa using hs⟩, ?_⟩
    have e := r.length
    simp only [Array.length_toList] at e
    omega
theorem Inv.list_inj (I : Inv X pins σ H s) (h : SqL X.K H a xs) (h' : SqL X.K H a ys) : xs = ys := by
  obtain ⟨its, r, ⟨o, n, e, _, _, d⟩, _⟩ := I.list h
  obtain ⟨its', r', ⟨o', n', e', _, _, d'⟩, _⟩ := I.list h'
  rw [e] at e'; cases e'
  rw [d] at d'
  injection d' with d1 _
  have : its = its' := by simpa using congrArg Array.toList d1
  subst this
  exact r.inj r'
theorem Inv.tuple_inj (I : Inv X pins σ H s) (h : SqT X.K H a xs) (h' : SqT X.K H a ys) : xs = ys := by
  obtain ⟨its, r, ⟨o, e, _, n, d⟩, _⟩ := I.tuple h
  obtain ⟨its', r', ⟨o', e', _, n', d'⟩, _⟩ := I.tuple h'
  rw [e] at e'; cases e'
  rw [d] at d'
  injection d' with d1 _
  have : its = its' := by simpa using congrArg Array.toList d1
  subst this
  exact r.inj r'
end
noncomputable abbrev Cx.wish (X : Cx) (E : Value → Shared → Prop) : Cx := { X with xe := E }
noncomputable abbrev Cx.nox (X : Cx) : Cx := X.wish fun _ _ => False
theorem Cx.Ok.wish {X : Cx} (ok : X.Ok) (E : Value → Shared → Prop) : (X.wish E).Ok :=
  ⟨ok.mod, ok.kind, ok.glob, ok.blt, ok.above, ok.inj, ok.has, ok.cab, ok.hd, ok.frames, ok.stk, ok.exf, ok.bs, ok.bsz, ok.noex, ok.exfs, ok.funs, ok.frf⟩
theorem Cx.Ok.unwish {X : Cx} {E : Value → Shared → Prop} (ok : (X.wish E).Ok) : X.Ok :=
  ⟨ok.mod, ok.kind, ok.glob, ok.blt, ok.above, ok.inj, ok.has, ok.cab, ok.hd, ok.frames, ok.stk, ok.exf, ok.bs, ok.bsz, ok.noex, ok.exfs, ok.funs, ok.frf⟩
section
variable {X : Cx} {pins : List (Addr × Obj)} {σ : St} {H : Hp} {s : Shared} {E : Value → Shared → Prop}
theorem Inv.wish (I : Inv X pins σ H s) (E : Value → Shared → Prop) : Inv (X.wish E) pins σ H s := ⟨I.ok.wish E, I.os, I.bare, I.base, I.loc, I.cell, I.free, I.freeC, I.pin, I.hok, I.len⟩
theorem Inv.unwish (I : Inv (X.wish E) pins σ H s) : Inv X pins σ H s := ⟨I.ok.unwish, I.os, I.bare, I.base, I.loc, I.cell, I.free, I.freeC, I.pin, I.hok, I.len⟩
theorem SP.unwish {D : Ends} {f : Flow} {s' : Shared} (h : SP (X.wish E) pins D f s') : SP X pins D f s' := by
  cases f with
  | next => obtain ⟨σ', H', I, q⟩ := h; exact ⟨σ', H', I.unwish, q⟩
  | brk => obtain ⟨σ', H', I, q⟩ := h; exact ⟨σ', H', I.unwish, q⟩
  | cont => obtain ⟨σ', H', I, q⟩ := h; exact ⟨σ', H', I.unwish, q⟩
  | ret u => obtain ⟨v, σ', H', I, r, q⟩ := h; exact ⟨v, σ', H', I.unwish, r, q⟩
theorem PSs.nox {st : List Stmt} {t : TS} (h : PSs X.nox st t) : PSs X st t := fun pins s σ H D I hw =>
  wpAny_mono (h pins s σ H D (I.wish _) hw) (fun _ _ q => q.unwish) fun _ _ z => False.elim z
end
section
variable {X : Cx} {st : Stmt} {rest : List Stmt} {t u : TS} {e : Expr} {te : TE} {pos : Pos}
noncomputable def tNext : TS := fun D σ H => D.nx σ H
noncomputable def tSeq (t u : TS) : TS := fun D σ H => t { D with nx := u D } σ H
theorem pss_nil : PSs X [] tNext := fun _ _ σ H _ I h => wpAny_execs_nil ⟨σ, H, I, h⟩
theorem pss_cons (h1 : PS X st t) (h2 : PSs X rest u) : PSs X (st :: rest) (tSeq t u) := by
  intro pins s σ H D I h
  refine wpAny_execs_cons (thn (h1 pins s σ H { D with nx := u D } I h) fun f s1 q => ?_)
  cases f with
  | next =>
    obtain ⟨σ', H', I', q⟩ := q
    exact h2 pins s1 σ' H' D I' q
  | ret v => exact q
  | brk => exact q
  | cont => exact q
theorem pss_one (h1 : PS X st t) : PSs X [st] t := by
  intro pins s σ H D I h
  refine wpAny_execs_cons (thn (h1 pins s σ H D I h) fun f s1 q => ?_)
  cases f with
  | next => exact wpAny_execs_nil q
  | ret v => exact q
  | brk => exact q
  | cont => exact q
theorem Inv.quiet {pins : List (Addr × Obj)} {σ : St} {H : Hp} {s : Shared} (I : Inv X pins σ H s) : interactive X.env = false := by simp [interactive, I.ok.kind]
noncomputable def tDrop (te : TE) : TS := fun D σ H => te σ H fun _ H1 => D.nx σ H1
theorem ps_expr (he : PE X e te) (hs : swapsWith e none pos.line X.env = pure false := by rfl) : PS X (.Expr e pos) (tDrop te) := by
  intro pins s σ H D I h
  exact wpAny_Expr_any (thn (he pins s σ H _ I h) fun v s1 ⟨x, H1, I1, r1, q1⟩ => ⟨σ, H1, I1, q1⟩) I.quiet hs
noncomputable def tRet (te : TE) : TS := fun D σ H => te σ H D.rt
theorem ps_ret (he : PE X e te) : PS X (.Return (some e) pos) (tRet te) := by
  intro pins s σ H D I h
  exact wpAny_Return_some (thn (he pins s σ H _ I h) fun v s1 ⟨x, H1, I1, r1, q1⟩ => ⟨x, σ, H1, I1, r1, q1⟩)
noncomputable def tIfS (c : TT) (t u : TS) : TS := fun D σ H => c σ H fun b H1 => if b = true then t D σ H1 else u D σ H1
theorem ps_if {c : Expr} {a b : List Stmt} {tc : TT} (hc : PT X c tc) (ha : PSs X a t) (hb : PSs X b u) : PS X (.If c a b pos) (tIfS tc t u) := by
  intro pins s σ H D I h
  refine wpAny_If (thn (hc pins s σ H _ I h) fun d s1 ⟨H1, I1, q1⟩ => ?_)
  cases d with
  | true => exact ha pins s1 σ H1 D I1 q1
  | false => exact hb pins s1 σ H1 D I1 q1
end
noncomputable abbrev TG := V → St → Hp → (St → Hp → Prop) → Prop
noncomputable abbrev TGs := List V → St → Hp → (St → Hp → Prop) → Prop
noncomputable def PG (X : Cx) (target : Expr) (t : TG) : Prop :=
  ∀ (pins : List (Addr × Obj)) (s : Shared) (σ : St) (H : Hp) (v : V) (u : Value) (Q : St → Hp → Prop), Inv X pins σ H s → RelV v u → t v σ H Q →
    wpAny (model X.prog X.w) X.A (assign target X.env u) (fun _ s' => ∃ σ' H', Inv X pins σ' H' s' ∧ Q σ' H') X.xe s
noncomputable def PGs (X : Cx) (ts : List Expr) (t : TGs) : Prop :=
  ∀ (pins : List (Addr × Obj)) (s : Shared) (σ : St) (H : Hp) (vs : List V) (us : List Value) (Q : St → Hp → Prop), Inv X pins σ H s → Vals vs us → t vs σ H Q →
    wpAny (model X.prog X.w) X.A (assignInOrder ((assignEach ts X.env).map (·.2)) us) (fun _ s' => ∃ σ' H', Inv X pins σ' H' s' ∧ Q σ' H') X.xe s
noncomputable abbrev TSet := V → V → V → Hp → (Hp → Prop) → Prop
noncomputable def PSet (X : Cx) (t : TSet) : Prop :=
  ∀ (pins : List (Addr × Obj)) (s : Shared) (σ : St) (H : Hp) (o i v : V) (ov iv u : Value) (Q : Hp → Prop), Inv X pins σ H s → RelV o ov → RelV i iv → RelV v u → t o i v H Q →
    wpAny (model X.prog X.w) X.A (setItem ov iv u) (fun _ s' => ∃ H', Inv X pins σ H' s' ∧ Q H') X.xe s
noncomputable abbrev TIp := V → V → Hp → VK → Prop
noncomputable def PIp (X : Cx) (op : Operator) (t : TIp) : Prop :=
  ∀ (pins : List (Addr × Obj)) (s : Shared) (σ : St) (H : Hp) (x y : V) (v u : Value) (Q : VK), Inv X pins σ H s → RelV x v → RelV y u → t x y H Q →
    wpAny (model X.prog X.w) X.A (inplaceOp op v u) (EP X pins σ Q) X.xe s
section
variable {X : Cx} {pos : Pos}
noncomputable def gName (i : Nat) : TG := fun v σ H Q => Q (σ.set i (some v)) H
theorem pg_name {i : Nat} {x : Str} (hN : X.N.Nodup) (hi : X.N[i]? = some x) (hx : Loc X.env.scope x) (hf : X.fn x = true ∨ X.env.scope.names.lookup x = some .local := by first | exact .inl rfl | exact .inr rfl | assumption) : PG X (.Name x pos) (gName i) := by
  intro pins s σ H v u Q I r h
  exact wpAny_assign_Name (store_ok I hN hi hx r (fun s' I' => ⟨_, H, I', h⟩) hf)
noncomputable def gNil : TGs := fun vs σ H Q => vs = [] ∧ Q σ H
noncomputable def gCons (t : TG) (u : TGs) : TGs := fun vs σ H Q => ∃ v r, vs = v :: r ∧ t v σ H fun σ' H' => u r σ' H' Q
theorem pgs_nil : PGs X [] gNil := by
  intro pins s σ H vs us Q I r h
  obtain ⟨e, h⟩ := h
  subst e
  cases r
  exact assignInOrder_nil ⟨σ, H, I, h⟩
theorem pgs_cons {e : Expr} {es : List Expr} {t : TG} {u : TGs} (h1 : PG X e t) (h2 : PGs X es u)
    (hs : (assignEach (e :: es) X.env).map (·.2) = assign e X.env :: (assignEach es X.env).map (·.2) := by rfl) : PGs X (e :: es) (gCons t u) := by
  intro pins s σ H vs us Q I r h
  obtain ⟨v, vr, e1, h⟩ := h
  subst e1
  cases r with
  | cons r rr =>
    rw [hs]
    refine assignInOrder_cons (thn (h1 pins s σ H _ _ _ I r h) fun _ s1 ⟨σ1, H1, I1, q1⟩ => ?_)
    exact h2 pins s1 σ1 H1 _ _ Q I1 rr q1
noncomputable def gTup (K : PySem.W.Frag) (n : Nat) (t : TGs) : TG := fun v σ H Q => ∃ a xs, v = .ref a ∧ SqT K H a xs ∧ xs.length = n ∧ t xs σ H Q
theorem pg_tup {es : List Expr} {k : Nat} {t : TGs} {n : Nat} (hc : X.calm = true) (h : PGs X es t)
    (hn : (assignEach es X.env).length = n := by rfl) (hst : (assignEach es X.env).findIdx? (·.1) = none := by rfl) : PG X (.Tuple es k pos) (gTup X.K n t) := by
  intro pins s σ H v u Q I r hw
  obtain ⟨a, xs, e1, hq, hl, hw⟩ := hw
  subst e1
  cases r
  obtain ⟨its, rv, ht, hz⟩ := I.tuple hq
  refine assign_Tuple_tuple (I.ok.hd hc) ht (by simp [hn, ← hl, rv.length]) hst fun h' hx => ?_
  have I1 : Inv X pins σ H { s with heap := h' } := I.kept (t' := s.toks) fun b o e => hx b o (Nat.ne_of_lt (Heap.lt_size e)) e
  exact h pins _ σ H xs _ Q I1 (by simpa using rv) hw
noncomputable def gSub (to ti : TE) (t : TSet) : TG := fun v σ H Q => to σ H fun o H1 => ti σ H1 fun i H2 => t o i v H2 fun H3 => Q σ H3
theorem pg_sub {o i : Expr} {to ti : TE} {t : TSet} (ho : PE X o to) (hi : PE X i ti) (hs : PSet X t)
    (ha : ∀ v, assign (.Subscript o i pos) X.env v = (do
      let ov ← holding [v] (eval o X.env)
      let iv ← holding [v, ov] (eval i X.env)
      standAt pos
      holding [v, ov, iv] (setItem ov iv v)
      release [v, ov, iv] []) := by intro _; rfl) : PG X (.Subscript o i pos) (gSub to ti t) := by
  intro pins s σ H v u Q I r h
  rw [ha]
  refine wpAny_bind (wpAny_holding (thn (ho pins s σ H _ I h) fun ov s1 ⟨x, H1, I1, r1, q1⟩ => ?_))
  refine wpAny_bind (wpAny_holding (thn (hi pins s1 σ H1 _ I1 q1) fun iv s2 ⟨y, H2, I2, r2, q2⟩ => ?_))
  refine wpAny_bind (wpAny_standAt (wpAny_bind (wpAny_holding (thn (hs pins s2 σ H2 x y v ov iv u _ I2 r1 r2 r q2) fun _ s3 ⟨H3, I3, q3⟩ => ?_))))
  exact wpAny_release ⟨σ, H3, I3, q3⟩
noncomputable def tAsg (te : TE) (g : TG) : TS := fun D σ H => te σ H fun x H1 => g x σ H1 D.nx
theorem ps_asg {tg e : Expr} {te : TE} {g : TG} (he : PE X e te) (hg : PG X tg g) (hs : swapsWithSole [tg] e pos.line X.env = pure false := by rfl) (hw : swappedStores [tg] e X.env = pure none := by rfl)
    (h1 : (assignEach [tg] X.env).map (·.2) = [assign tg X.env] := by rfl) : PS X (.Assign [tg] e pos) (tAsg te g) := by
  intro pins s σ H D I h
  refine wpAny_Assign_stores (thn (he pins s σ H _ I h) fun v s1 ⟨x, H1, I1, r1, q1⟩ => ?_) hs hw
  rw [h1]
  exact thn (hg pins s1 σ H1 x v _ I1 r1 q1) fun _ s2 q => q
theorem ps_set {i : Nat} {x : Str} {e : Expr} {te : TE} {pos' : Pos} (hN : X.N.Nodup) (hi : X.N[i]? = some x) (hx : Loc X.env.scope x) (he : PE X e te) (hs : swapsWith e (some (.Name x pos')) pos.line X.env = pure false := by rfl) (hf : X.fn x = true ∨ X.env.scope.names.lookup x = some .local := by first | exact .inl rfl | exact .inr rfl | assumption) :
    PS X (.Assign [.Name x pos'] e pos) (tAsg te (gName i)) := by
  intro pins s σ H D I h
  refine wpAny_Assign_Name (thn (he pins s σ H _ I h) fun v s1 ⟨y, H1, I1, r1, q1⟩ => ?_) hs
  exact store_ok I1 hN hi hx r1 (fun s2 I2 => ⟨_, H1, I2, q1⟩) hf
noncomputable def tPar (i j : Nat) (ta : TA) : TS := fun D σ H => ta σ H fun vs H1 => ∃ v w, vs = [v, w] ∧ D.nx ((σ.set i (some v)).set j (some w)) H1
theorem ps_par {i j : Nat} {x y : Str} {a b : Expr} {ta : TA} {px py pt : Pos} {kt k2 pt2} (hc : X.calm = true) (hN : X.N.Nodup) (hi : X.N[i]? = some x) (hj : X.N[j]? = some y) (hij : i ≠ j)
    (hx : X.env.scope.names.lookup x = some .local) (hy : X.env.scope.names.lookup y = some .local) (ha : PA X [a, b] ta)
    (hw : swappedStores [.Tuple [.Name x px, .Name y py] kt pt] (.Tuple [a, b] k2 pt2) X.env = pure (some [x, y]))
    (hs : swapsWithSole [.Tuple [.Name x px, .Name y py] kt pt] (.Tuple [a, b] k2 pt2) pos.line X.env = pure false := by rfl) :
    PS X (.Assign [.Tuple [.Name x px, .Name y py] kt pt] (.Tuple [a, b] k2 pt2) pos) (tPar i j ta) := by
  intro pins s σ H D I h
  rw [exec_Assign_arm]
  refine wpAny_bind (wpAny_standAt ?_)
  rw [hs]
  refine wpAny_bind (wpAny_pure ?_)
  rw [if_neg (by decide)]
  refine wpAny_bind (Tuple_ (thn (ha _ pins s σ H _ I h) fun us s1 ⟨vs, H1, I1, r1, q1⟩ => ?_))
  obtain ⟨v, w, e1, q1⟩ := q1
  subst e1
  obtain ⟨u1, u2, rfl, rv, rw'⟩ : ∃ u1 u2, us = [u1, u2] ∧ RelV v u1 ∧ RelV w u2 := by
    cases r1 with
    | cons p q =>
      cases q with
      | cons p' q' =>
        cases q'
        exact ⟨_, _, rfl, p, p'⟩
  refine wpAny_newObj_type ?_ (by show 2 ≤ sizeLine; decide)
  have I2 : Inv X pins σ H1 { s1 with heap := s1.heap.push { cls := .type "tuple", data := .seq [u1, u2].toArray } } := I1.kept (t' := s1.toks) fun b o e => Heap.get?_push_of_some _ e
  rw [hw]
  refine wpAny_bind (wpAny_pure ?_)
  show wpAny (model X.prog X.w) X.A (do rule "assign.swapped-stores"; let items ← unpackItems (.ref s1.heap.objs.size) 2 none; assignInOrder [fun v => bindName X.env y v, fun v => bindName X.env x v] items.reverse; pure Flow.next) _ _ _
  refine wpAny_bind (wpAny_rule (wpAny_bind (unpackItems_tuple (items := #[u1, u2]) (I.ok.hd hc) (IsTup.new s1.heap _) fun h' hx' => ?_)))
  have I3 := I2.kept (h' := h') (t' := s1.toks) fun b o e => hx' b o (Nat.ne_of_lt (Heap.lt_size e)) e
  show wpAny _ _ (assignInOrder [fun v => bindName X.env y v, fun v => bindName X.env x v] [u2, u1] >>= fun _ => pure Flow.next) _ _ _
  refine wpAny_bind (assignInOrder_cons (wpAny_bindName (store_ok I3 hN hj (.inl hy) rw' (fun s2 I4 => ?_) (.inr hy))))
  refine assignInOrder_cons (wpAny_bindName (store_ok I4 hN hi (.inl hx) rv (fun s3 I5 => assignInOrder_nil (wpAny_pure ?_)) (.inr hx)))
  rw [List.set_comm _ _ (Ne.symm hij)] at I5
  exact ⟨_, H1, I5, q1⟩
noncomputable def tAug (i : Nat) (te : TE) (ti : TIp) : TS := fun D σ H => ∃ x, σ[i]? = some (some x) ∧ te σ H fun y H1 => ti x y H1 fun z H2 => D.nx (σ.set i (some z)) H2
theorem ps_aug {i : Nat} {x : Str} {e : Expr} {te : TE} {op : Operator} {ti : TIp} {pos' : Pos} (hN : X.N.Nodup) (hi : X.N[i]? = some x) (hx : Loc X.env.scope x) (he : PE X e te) (ho : PIp X op ti) (hf : X.fn x = true ∨ X.env.scope.names.lookup x = some .local := by first | exact .inl rfl | exact .inr rfl | assumption) :
    PS X (.AugAssign (.Name x pos') op e pos) (tAug i te ti) := by
  intro pins s σ H D I h
  obtain ⟨v, e1, h⟩ := h
  obtain ⟨m, hn, hl⟩ := I.loc
  have vis : Vis X.env.scope x := by rcases hx with k | k; exact .inl k; exact .inr (.inl k)
  obtain ⟨u, r, l⟩ := hl i x v hi e1 vis
  refine wpAny_AugAssign_Name ?_
  have go : wpAny (model X.prog X.w) X.A (eval e X.env) (fun w s₂ => wpAny (model X.prog X.w) X.A (inplaceOp op u w) (fun r s₃ => wpAny (model X.prog X.w) X.A (storeName X.env x r) (fun _ => SP X pins D .next) X.xe s₃) X.xe s₂) X.xe s := by
    refine thn (he pins s σ H _ I h) fun w s1 ⟨y, H1, I1, r1, q1⟩ => ?_
    refine thn (ho pins s1 σ H1 v y u w _ I1 r r1 q1) fun z s2 ⟨zv, H2, I2, r2, q2⟩ => ?_
    exact store_ok I2 hN hi hx r2 (fun s3 I3 => ⟨_, H2, I3, q2⟩) hf
  rcases l with ⟨hk, hm⟩ | ⟨hk, c, hc, hcell⟩
  · exact wpAny_loadName_local I.ok.kind hk hn hm go
  · rcases hk with hk | hk
    · exact wpAny_loadName_cell I.ok.kind hk hc hcell go
    · rcases hx with k | k
      · have : X.env.scope.names.lookup x = some .free := hk
        rw [k] at this; cases this
      · have : X.env.scope.names.lookup x = some .free := hk
        rw [k] at this; cases this
noncomputable def ipI (f : Int → Int → Int) : TIp := fun x y H Q => ∃ i j, x = .int i ∧ y = .int j ∧ Q (.int (f i j)) H
theorem ip_add : PIp X .Add (ipI fun i j => i + j) := by
  intro pins s σ H x y v u Q I r1 r2 h
  obtain ⟨i, j, e1, e2, q⟩ := h
  subst e1; subst e2
  obtain ⟨t, rfl⟩ := r1
  obtain ⟨t', rfl⟩ := r2
  exact iadd_int ⟨.int _, H, I.tok _, ⟨_, rfl⟩, q⟩
theorem ip_sub : PIp X .Sub (ipI fun i j => i - j) := by
  intro pins s σ H x y v u Q I r1 r2 h
  obtain ⟨i, j, e1, e2, q⟩ := h
  subst e1; subst e2
  obtain ⟨t, rfl⟩ := r1
  obtain ⟨t', rfl⟩ := r2
  exact isub_int ⟨.int _, H, I.tok _, ⟨_, rfl⟩, q⟩
end
section
variable {X : Cx} {pos : Pos}
noncomputable def tWhile (c : TT) (tb : TS) : TS := fun D σ H => ∃ W : Nat → St → Hp → Prop, (∃ m, W m σ H) ∧ ∀ m σ H, W m σ H →
  c σ H fun b H1 => if b = true then ∃ N : St → Hp → Prop, (∀ σ' H', N σ' H' → ∃ m', m' < m ∧ W m' σ' H') ∧ tb { D with nx := N, ct := N, bk := D.nx } σ H1 else D.nx σ H1
theorem ps_while {c : Expr} {body : List Stmt} {tc : TT} {tb : TS} (hp : PassesOwn (model X.prog X.w) X.A X.env X.xe) (hc : PT X c tc) (hb : PSs X body tb) : PS X (.While c body [] pos) (tWhile tc tb) := by
  intro pins s σ H D I h
  obtain ⟨W, ⟨m0, w0⟩, turn⟩ := h
  refine wpAny_While (codeAny_whileLoop (fun n s' => ∃ σ' H', Inv X pins σ' H' s' ∧ W n σ' H') ?_ m0 ⟨σ, H, I, w0⟩)
  rintro n s1 ⟨σ1, H1, I1, w1⟩
  refine wpAny_passesOwn hp (thn (hc pins s1 σ1 H1 _ I1 (turn n σ1 H1 w1)) fun b s2 ⟨H2, I2, q2⟩ => ?_)
  cases b with
  | true =>
    obtain ⟨N, hN, q2⟩ := q2
    rw [if_pos rfl]
    refine wpAny_passesOwn hp (thn (hb pins s2 σ1 H2 _ I2 q2) fun f s3 q3 => ?_)
    cases f with
    | next =>
      obtain ⟨σ3, H3, I3, n3⟩ := q3
      obtain ⟨m', hm, w3⟩ := hN σ3 H3 n3
      exact ⟨m', hm, σ3, H3, I3, w3⟩
    | cont =>
      obtain ⟨σ3, H3, I3, n3⟩ := q3
      obtain ⟨m', hm, w3⟩ := hN σ3 H3 n3
      exact ⟨m', hm, σ3, H3, I3, w3⟩
    | brk => exact q3
    | ret v => exact q3
  | false =>
    rw [if_neg Bool.false_ne_true]
    exact wpAny_execs_nil ⟨σ1, H2, I2, q2⟩
end
structure It where
  go : Nat → Hp → Prop
  yld : Nat → Hp → V → Hp → Prop
  stop : Nat → Hp → Prop
noncomputable def FpOk (X : Cx) (pins : List (Addr × Obj)) (H : Hp) (b : Addr) : Prop :=
  H b = none ∧ b ≠ X.env.locals ∧ b ∉ X.fs ∧ (b ∈ X.ex ∨ X.s₀.heap.objs.size ≤ b) ∧ (∀ x c, X.env.cells.lookup x = some c → c ≠ b) ∧ ∀ p ∈ X.pn ++ pins, p.1 ≠ b
theorem Inv.fpOk {X : Cx} {pins : List (Addr × Obj)} {σ : St} {H H' : Hp} {s : Shared} {b : Addr} (I : Inv X pins σ H s) (hb : s.heap.objs.size ≤ b) (hn : H' b = none) : FpOk X pins H' b := by
  refine ⟨hn, Nat.ne_of_gt (Nat.lt_of_lt_of_le I.lt hb), I.nofs hb, .inr (Nat.le_trans I.sz hb), fun x c e z => ?_, fun p hp z => ?_⟩
  · obtain ⟨v, q⟩ := I.cell x c e
    exact absurd (Nat.lt_of_lt_of_le q.lt (by rw [z]; exact hb)) (Nat.lt_irrefl _)
  · exact absurd (Nat.lt_of_lt_of_le (Heap.lt_size (I.pin p hp).1) (by rw [z]; exact hb)) (Nat.lt_irrefl _)
structure Turn (P : Program) (w : World) (K : PySem.W.Frag) (tg : Expr) (J : It) (fp : List Addr) (it : Addr) (tn : Nat → Heap → Prop) : Prop where
  mem : it ∈ fp
  obj : ∀ i h, tn i h → ∀ b ∈ fp, ∃ o, h.get? b = some o ∧ ∀ v, o.data ≠ .cell v
  keep : ∀ i h h', tn i h → (∀ b ∈ fp, ∀ o, h.get? b = some o → h'.get? b = some o) → tn i h'
  item : ∀ (X : Cx), X.prog = P → X.w = w → X.K = K → X.calm = true → ∀ (i : Nat) (pins : List (Addr × Obj)) (s : Shared) (σ : St) (H : Hp) (E : Value → Shared → Prop), Inv X pins σ H s → (∀ b ∈ fp, FpOk X pins H b) → tn i s.heap → J.go i H →
    wpAny (model P w) X.A (pyNext (.ref it)) (fun r s1 => ∃ u, r = some u ∧
      wpAny (model P w) X.A (letOwnedTupleGo tg (.ref it) u) (fun _ s2 => ∃ x H', Inv X pins σ H' s2 ∧ RelV x u ∧ J.yld i H x H' ∧ tn (i + 1) s2.heap ∧ ∀ b ∈ fp, H' b = none) E s1) E s
  done : ∀ (X : Cx), X.prog = P → X.w = w → X.K = K → X.calm = true → ∀ (i : Nat) (pins : List (Addr × Obj)) (s : Shared) (σ : St) (H : Hp) (E : Value → Shared → Prop), Inv X pins σ H s → (∀ b ∈ fp, FpOk X pins H b) → tn i s.heap → J.stop i H →
    wpAny (model P w) X.A (pyNext (.ref it)) (fun r s1 => r = none ∧ Inv X pins σ H s1) E s
  self : ∀ (A : Around) (i : Nat) (s : Shared) (Q : Value → Shared → Prop) (E : Value → Shared → Prop), tn i s.heap → Q (.ref it) s → wpAny (model P w) A (pyIter (.ref it)) Q E s
noncomputable abbrev TI := St → Hp → (It → Hp → Prop) → Prop
noncomputable def PIE (X : Cx) (pins : List (Addr × Obj)) (σ : St) (tg : Expr) (R : It → Hp → Prop) (itv : Value) (s2 : Shared) : Prop :=
  ∃ (it : Addr) (fp : List Addr) (tn : Nat → Heap → Prop) (J : It) (H' : Hp), itv = .ref it ∧ Inv X pins σ H' s2 ∧ Turn X.prog X.w X.K tg J fp it tn ∧ tn 0 s2.heap ∧ (∀ b ∈ fp, FpOk X pins H' b) ∧ R J H'
noncomputable def PI (X : Cx) (tg iter : Expr) (wi : TI) : Prop :=
  ∀ (pins : List (Addr × Obj)) (s : Shared) (σ : St) (H : Hp) (R : It → Hp → Prop), Inv X pins σ H s → wi σ H R →
    wpAny (model X.prog X.w) X.A (eval iter X.env) (fun v s1 => wpAny (model X.prog X.w) X.A (pyIter v) (PIE X pins σ tg R) X.xe s1) X.xe s
theorem go_of {M : Model} {A : Around} {E : Value → Shared → Prop} {s : Shared} {tg : Expr} {it : Addr} {u : Value} {o : Obj} {n : String} {vs : Array Value} {Q : Unit → Shared → Prop} (ho : s.heap.get? it = some o) (hc : o.cls = .type n) (hd : o.data = .fields vs)
    (hn : ["enumerate", "zip", "dict_itemiterator", "dict_reverseitemiterator", "odict_iterator", "itertools.zip_longest", "itertools.pairwise"].contains n = false) (hQ : Q () s) : wpAny M A (letOwnedTupleGo tg (.ref it) u) Q E s := by
  unfold letOwnedTupleGo
  cases tg <;> first
    | exact wpAny_pure hQ
    | (cases u <;> first
        | exact wpAny_pure hQ
        | (refine wpAny_bind (wpAny_load ho ?_)
           rw [hc, hd]
           show wpAny M A (if (["enumerate", "zip", "dict_itemiterator", "dict_reverseitemiterator", "odict_iterator", "itertools.zip_longest", "itertools.pairwise"].contains n && vs[0]? == some (rawInt _)) = true then _ else _) Q E s
           rw [if_neg (by intro h; rw [hn, Bool.false_and] at h; cases h)]
           exact wpAny_pure hQ))
noncomputable def Itl (K : PySem.W.Frag) (a : Addr) : It :=
  ⟨fun i H => ∃ xs x, SqL K H a xs ∧ xs[i]? = some x, fun i H x H' => H' = H ∧ ∀ xs, SqL K H a xs → xs[i]? = some x, fun i H => ∃ xs, SqL K H a xs ∧ xs.length ≤ i⟩
noncomputable def Itt (K : PySem.W.Frag) (a : Addr) : It :=
  ⟨fun i H => ∃ xs x, SqT K H a xs ∧ xs[i]? = some x, fun i H x H' => H' = H ∧ ∀ xs, SqT K H a xs → xs[i]? = some x, fun i H => ∃ xs, SqT K H a xs ∧ xs.length ≤ i⟩
noncomputable def Itr (lo : Int) (n : Nat) : It := ⟨fun i _ => i < n, fun i H x H' => H' = H ∧ x = .int (lo + i), fun i _ => n ≤ i⟩
theorem turn_list {P : Program} {w : World} {K : PySem.W.Frag} {tg : Expr} (a it : Addr) : Turn P w K tg (Itl K a) [it] it (fun i h => h.IsListIter it a i) where
  mem := by simp
  obj := fun i h st b hb => by
    have e : b = it := by simpa using hb
    subst e
    obtain ⟨o, e, c, d⟩ := st
    exact ⟨o, e, fun v z => by rw [d] at z; cases z⟩
  keep := fun i h h' st k => st.at fun o e => k it (by simp) o e
  item := by
    intro X hP hw hK hc i pins s σ H E I hf st hg
    subst hP hw hK
    obtain ⟨xs, x, hq, hx⟩ := hg
    obtain ⟨its, rv, p, hz⟩ := I.list hq
    obtain ⟨u, hu, ru⟩ := rv.get hx
    obtain ⟨f0, f1, f2, f3, f4, f5⟩ := hf it (by simp)
    refine wpAny_pyNext_list_item st p.isList (x := u) (by simpa using hu) fun h' st' sb => ?_
    have I1 : Inv X pins σ H { s with heap := h' } := I.turned (t' := s.toks) (fun b o hb e => (sb.2 b hb).trans e) f0 f1 f3 f4 f5
    obtain ⟨o, e, c, d⟩ := id st'
    exact ⟨u, rfl, go_of (s := { s with heap := h' }) e c d (by decide) ⟨x, H, I1, ru, ⟨rfl, fun ys hy => by rw [I.list_inj hy hq]; exact hx⟩, st', fun b hb => (hf b hb).1⟩⟩
  done := by
    intro X hP hw hK hc i pins s σ H E I hf st hg
    subst hP hw hK
    obtain ⟨xs, hq, hx⟩ := hg
    obtain ⟨its, rv, p, hz⟩ := I.list hq
    obtain ⟨f0, f1, f2, f3, f4, f5⟩ := hf it (by simp)
    have hl := rv.length
    exact wpAny_pyNext_list_end (I.ok.hd hc) st p.isList (by simp; omega) fun h' eb => ⟨rfl, I.turned (t' := s.toks) (fun b o hb e => eb b o hb e) f0 f1 f3 f4 f5⟩
  self := fun _ _ _ _ _ st h => wpAny_pyIter_listiter st h
theorem turn_tuple {P : Program} {w : World} {K : PySem.W.Frag} {tg : Expr} (a it : Addr) : Turn P w K tg (Itt K a) [it] it (fun i h => h.IsTupleIter it a i) where
  mem := by simp
  obj := fun i h st b hb => by
    have e : b = it := by simpa using hb
    subst e
    obtain ⟨o, e, c, d⟩ := st
    exact ⟨o, e, fun v z => by rw [d] at z; cases z⟩
  keep := fun i h h' st k => st.at fun o e => k it (by simp) o e
  item := by
    intro X hP hw hK hc i pins s σ H E I hf st hg
    subst hP hw hK
    obtain ⟨xs, x, hq, hx⟩ := hg
    obtain ⟨its, rv, p, hz⟩ := I.tuple hq
    obtain ⟨u, hu, ru⟩ := rv.get hx
    obtain ⟨f0, f1, f2, f3, f4, f5⟩ := hf it (by simp)
    refine wpAny_pyNext_tuple_item st (show s.heap.IsTuple a its.toArray from p) (x := u) (by simpa using hu) fun h' st' sb => ?_
    have I1 : Inv X pins σ H { s with heap := h' } := I.turned (t' := s.toks) (fun b o hb e => (sb.2 b hb).trans e) f0 f1 f3 f4 f5
    obtain ⟨o, e, c, d⟩ := id st'
    exact ⟨u, rfl, go_of (s := { s with heap := h' }) e c d (by decide) ⟨x, H, I1, ru, ⟨rfl, fun ys hy => by rw [I.tuple_inj hy hq]; exact hx⟩, st', fun b hb => (hf b hb).1⟩⟩
  done := by
    intro X hP hw hK hc i pins s σ H E I hf st hg
    subst hP hw hK
    obtain ⟨xs, hq, hx⟩ := hg
    obtain ⟨its, rv, p, hz⟩ := I.tuple hq
    obtain ⟨f0, f1, f2, f3, f4, f5⟩ := hf it (by simp)
    have hl := rv.length
    exact wpAny_pyNext_tuple_end (I.ok.hd hc) st (show s.heap.IsTuple a its.toArray from p) (by simp; omega) fun h' eb => ⟨rfl, I.turned (t' := s.toks) (fun b o hb e => eb b o hb e) f0 f1 f3 f4 f5⟩
  self := fun _ _ _ _ _ st h => wpAny_pyIter_tupleiter st h
theorem turn_range {P : Program} {w : World} {K : PySem.W.Frag} {tg : Expr} (it : Addr) (lo : Int) (n : Nat) : Turn P w K tg (Itr lo n) [it] it (fun i h => IsRangeIter h it (lo + (i : Nat) * 1) ((n : Int) - (i : Nat)) 1) where
  mem := by simp
  obj := fun i h st b hb => by
    have e : b = it := by simpa using hb
    subst e
    exact ⟨_, st, fun v z => by
      have z' : Data.fields _ = Data.cell v := z
      cases z'⟩
  keep := fun i h h' st k => k it (by simp) _ st
  item := by
    intro X hP hw hK hc i pins s σ H E I hf st hg
    subst hP hw hK
    obtain ⟨f0, f1, f2, f3, f4, f5⟩ := hf it (by simp)
    have W := Walks.range (prog := X.prog) (w := X.w) (I.ok.hd hc) it lo 1 n
    refine W.item i s _ _ hg st fun v h' tk hv st' kk => ?_
    obtain ⟨t, rfl⟩ := hv
    have I1 : Inv X pins σ H { s with heap := h', toks := tk } := I.turned (fun b o hb e => kk b o (by simpa using hb) e) f0 f1 f3 f4 f5
    refine ⟨_, rfl, go_of (s := { s with heap := h', toks := tk }) (n := "range_iterator") st' rfl rfl (by decide) ⟨.int (lo + i), H, I1, ⟨t, ?_⟩, ⟨rfl, rfl⟩, st', fun b hb => (hf b hb).1⟩⟩
    rw [Int.mul_one]
  done := by
    intro X hP hw hK hc i pins s σ H E I hf st hg
    subst hP hw hK
    obtain ⟨f0, f1, f2, f3, f4, f5⟩ := hf it (by simp)
    exact wpAny_pyNext_range_end (I.ok.hd hc) st (by have : n ≤ i := hg; omega) fun h' eb => ⟨rfl, I.turned (t' := s.toks) (fun b o hb e => eb b o hb e) f0 f1 f3 f4 f5⟩
  self := fun _ _ _ _ _ st h => wpAny_pyIter_rangeiter st h
end L2
namespace L2
open PySem PySem.Spec PyProof.Rows
section
variable {X : Cx} {tg : Expr}
noncomputable def iList (K : PySem.W.Frag) (tl : TE) : TI := fun σ H R => tl σ H fun x H1 => ∃ a, x = .ref a ∧ (∃ xs, SqL K H1 a xs) ∧ R (Itl K a) H1
noncomputable def iTup (K : PySem.W.Frag) (tl : TE) : TI := fun σ H R => tl σ H fun x H1 => ∃ a, x = .ref a ∧ (∃ xs, SqT K H1 a xs) ∧ R (Itt K a) H1
theorem pi_list {l : Expr} {tl : TE} (hl : PE X l tl) : PI X tg l (iList X.K tl) := by
  intro pins s σ H R I h
  refine thn (hl pins s σ H _ I h) fun v s1 ⟨x, H1, I1, r1, q1⟩ => ?_
  obtain ⟨a, e, ⟨xs, hq⟩, q⟩ := q1
  subst e
  cases r1
  obtain ⟨its, rv, p, hz⟩ := I1.list hq
  refine wpAny_pyIter_list p.isList ?_
  refine ⟨s1.heap.objs.size, [s1.heap.objs.size], _, _, H1, rfl, I1.kept (t' := s1.toks) fun b o e => Heap.get?_push_of_some _ e, turn_list a _, ⟨_, Heap.get?_push_size _ rfl, rfl, rfl⟩, fun b hb => ?_, q⟩
  have e : b = s1.heap.objs.size := by simpa using hb
  subst e
  exact I1.fpOk (Nat.le_refl _) (I1.hok.fresh (Nat.le_refl _))
theorem pi_tup {l : Expr} {tl : TE} (hl : PE X l tl) : PI X tg l (iTup X.K tl) := by
  intro pins s σ H R I h
  refine thn (hl pins s σ H _ I h) fun v s1 ⟨x, H1, I1, r1, q1⟩ => ?_
  obtain ⟨a, e, ⟨xs, hq⟩, q⟩ := q1
  subst e
  cases r1
  obtain ⟨its, rv, p, hz⟩ := I1.tuple hq
  refine wpAny_pyIter_tuple (show s1.heap.IsTuple a its.toArray from p) ?_
  refine ⟨s1.heap.objs.size, [s1.heap.objs.size], _, _, H1, rfl, I1.kept (t' := s1.toks) fun b o e => Heap.get?_push_of_some _ e, turn_tuple a _, ⟨_, Heap.get?_push_size _ rfl, rfl, rfl⟩, fun b hb => ?_, q⟩
  have e : b = s1.heap.objs.size := by simpa using hb
  subst e
  exact I1.fpOk (Nat.le_refl _) (I1.hok.fresh (Nat.le_refl _))
theorem range_it {pins : List (Addr × Obj)} {σ : St} {H : Hp} {s : Shared} {R : It → Hp → Prop} {E : Value → Shared → Prop} {lo hi : Int} {t u v : Tok} {tk : Nat} (I : Inv X pins σ H s) (h1 : -(2 ^ 62) ≤ lo) (h2 : lo < 2 ^ 62) (h3 : -(2 ^ 62) ≤ hi) (h4 : hi < 2 ^ 62)
    (q : R (Itr lo (hi - lo).toNat) H) : wpAny (model X.prog X.w) X.A (pyIter (.ref s.heap.objs.size)) (PIE X pins σ tg R) E { s with heap := s.heap.push { cls := .type "range", data := .fields #[.int lo t, .int hi u, .int 1 v] }, toks := tk } := by
  refine wpAny_pyIter_range (IsRange.new ..) (small_one h1 h2 h3 h4) ?_
  have I1 : Inv X pins σ H { s with heap := s.heap.push { cls := .type "range", data := .fields #[.int lo t, .int hi u, .int 1 v] }, toks := tk } := I.kept fun b o e => Heap.get?_push_of_some _ e
  refine ⟨(s.heap.push { cls := .type "range", data := .fields #[.int lo t, .int hi u, .int 1 v] }).objs.size, [(s.heap.push { cls := .type "range", data := .fields #[.int lo t, .int hi u, .int 1 v] }).objs.size], _, _, H, rfl,
    I1.kept (t' := tk) fun b o e => Heap.get?_push_of_some _ e, turn_range _ lo (hi - lo).toNat, ?_, fun b hb => ?_, q⟩
  · have e1 : lo + ((0 : Nat) : Int) * 1 = lo := by simp
    have e2 : (((hi - lo).toNat : Nat) : Int) - ((0 : Nat) : Int) = Builtin.Range.rangeSize lo hi 1 := by rw [rangeSize_one]; split <;> omega
    show IsRangeIter _ _ (lo + ((0 : Nat) : Int) * 1) ((((hi - lo).toNat : Nat) : Int) - ((0 : Nat) : Int)) 1
    rw [e1, e2]
    exact Heap.get?_push_size _ rfl
  · have e : b = (s.heap.push { cls := .type "range", data := .fields #[.int lo t, .int hi u, .int 1 v] }).objs.size := by simpa using hb
    subst e
    exact I1.fpOk (Nat.le_refl _) (I1.hok.fresh (Nat.le_refl _))
noncomputable def iRng1 (ta : TA) : TI := fun σ H R => ta σ H fun vs H1 => ∃ j : Int, vs = [.int j] ∧ -(2 ^ 62) ≤ j ∧ j < 2 ^ 62 ∧ R (Itr 0 j.toNat) H1
noncomputable def iRng2 (ta : TA) : TI := fun σ H R => ta σ H fun vs H1 => ∃ i j : Int, vs = [.int i, .int j] ∧ (-(2 ^ 62) ≤ i ∧ i < 2 ^ 62 ∧ -(2 ^ 62) ≤ j ∧ j < 2 ^ 62) ∧ R (Itr i (j - i).toNat) H1
theorem pi_range1 {a : Expr} {ta : TA} {p pos : Pos} (hg : Gl X "range") (hm : X.mg "range" = none) (ha : PA X [a] ta) (hs : starEach [a] X.env = [(false, eval a X.env)] := by rfl) : PI X tg (.Call (.Name "range" p) [a] [] pos) (iRng1 ta) := by
  intro pins s σ H R I h
  refine Call_ (ld_blt I hg hm boot_range (PyProof.Rows.callWith_type1 (thn (ha pos pins s σ H _ I h) fun us s1 ⟨vs, H1, I1, r1, q1⟩ => ?_) hs rfl))
  obtain ⟨j, e, q1, q2, q⟩ := q1
  subst e
  cases r1 with
  | cons r rr =>
    cases rr
    obtain ⟨t, rfl⟩ := r
    exact call_range_1 (range_it I1 (by omega) (by omega) q1 q2 (by simpa using q))
theorem pi_range2 {a b : Expr} {ta : TA} {p pos : Pos} (hg : Gl X "range") (hm : X.mg "range" = none) (ha : PA X [a, b] ta) (hs : starEach [a, b] X.env = [(false, eval a X.env), (false, eval b X.env)] := by rfl) (hs2 : starEach [b] X.env = [(false, eval b X.env)] := by rfl) :
    PI X tg (.Call (.Name "range" p) [a, b] [] pos) (iRng2 ta) := by
  intro pins s σ H R I h
  refine Call_ (ld_blt I hg hm boot_range (PyProof.Rows.callWith_type1 (thn (ha pos pins s σ H _ I h) fun us s1 ⟨vs, H1, I1, r1, q1⟩ => ?_) (by rw [hs, hs2]) (by rw [hs2]; rfl)))
  obtain ⟨i, j, e, ⟨q1, q2, q3, q4⟩, q⟩ := q1
  subst e
  cases r1 with
  | cons r rr =>
    cases rr with
    | cons r' rr =>
      cases rr
      obtain ⟨t, rfl⟩ := r
      obtain ⟨t', rfl⟩ := r'
      exact call_range_2 (range_it I1 q1 q2 q3 q4 q)
noncomputable def tFor (wi : TI) (g : TG) (tb : TS) : TS := fun D σ H => wi σ H fun J H1 => ∃ W : Nat → Nat → St → Hp → Prop, (∃ m, W 0 m σ H1) ∧ ∀ i m σ H, W i m σ H →
  (J.stop i H ∧ D.nx σ H) ∨ (J.go i H ∧ ∃ N : St → Hp → Prop, (∀ σ' H', N σ' H' → ∃ m', m' < m ∧ W (i + 1) m' σ' H') ∧ ∀ x H', J.yld i H x H' → g x σ H' fun σ2 H2 => tb { D with nx := N, ct := N, bk := D.nx } σ2 H2)
noncomputable def pinsAt (fp : List Addr) (h : Heap) : List (Addr × Obj) := fp.filterMap fun b => (h.get? b).map fun o => (b, o)
theorem mem_pinsAt {fp : List Addr} {h : Heap} {b : Addr} {o : Obj} (hb : b ∈ fp) (e : h.get? b = some o) : (b, o) ∈ pinsAt fp h := List.mem_filterMap.mpr ⟨b, hb, by rw [e]; rfl⟩
theorem of_pinsAt {fp : List Addr} {h : Heap} {p : Addr × Obj} (hp : p ∈ pinsAt fp h) : p.1 ∈ fp ∧ h.get? p.1 = some p.2 := by
  obtain ⟨b, hb, e⟩ := List.mem_filterMap.mp hp
  cases q : h.get? b with
  | none => rw [q] at e; cases e
  | some o =>
    rw [q] at e
    have e' : (b, o) = p := Option.some.inj e
    subst e'
    exact ⟨hb, q⟩
theorem Inv.pinned {pins : List (Addr × Obj)} {σ : St} {H : Hp} {s : Shared} {fp : List Addr} (I : Inv X pins σ H s) (hf : ∀ b ∈ fp, FpOk X pins H b) (ho : ∀ b ∈ fp, ∃ o, s.heap.get? b = some o ∧ ∀ v, o.data ≠ .cell v) : Inv X (pins ++ pinsAt fp s.heap) σ H s :=
  I.pins_of fun p hp => (List.mem_append.mp hp).elim (fun z => I.pin p (List.mem_append_right _ z)) fun z => by
    obtain ⟨hb, e⟩ := of_pinsAt z
    obtain ⟨f0, f1, f2, _⟩ := hf p.1 hb
    obtain ⟨o, e', d⟩ := ho p.1 hb
    rw [e] at e'; cases e'
    exact ⟨e, f0, f1, f2, d⟩
theorem Inv.unpinned {pins pl : List (Addr × Obj)} {σ : St} {H : Hp} {s : Shared} (I : Inv X (pins ++ pl) σ H s) : Inv X pins σ H s := I.pins_of fun p hp => I.pin p (List.mem_append_right _ (List.mem_append_left _ hp))
theorem ps_for {iter : Expr} {body : List Stmt} {wi : TI} {g : TG} {tb : TS} {pos : Pos} (hp : PassesOwn (model X.prog X.w) X.A X.env X.xe) (hc : X.calm = true) (hi : PI X tg iter wi) (hg : PG X tg g) (hb : PSs X body tb)
    (hs : ∀ x, foldedSetIterable iter X.env x = pure x := by intro _; rfl) : PS X (.For tg iter body [] pos) (tFor wi g tb) := by
  intro pins s σ H D I h
  refine wpAny_For (thn (hi pins s σ H _ I h) fun v s1 h1 => thn h1 fun itv s2 h2 => ?_) hs
  obtain ⟨it, fp, tn, J, H2, e, I2, T, st2, f2, W, ⟨m0, w0⟩, turn⟩ := h2
  subst e
  -- what stays true of the iterator's objects through the loop
  have stat : ∀ {H' : Hp}, (∀ b ∈ fp, H' b = none) → ∀ b ∈ fp, FpOk X pins H' b := fun hn b hb => ⟨hn b hb, (f2 b hb).2⟩
  refine codeAny_forLoop_any (fun n s' => ∃ i σ' H', Inv X pins σ' H' s' ∧ tn i s'.heap ∧ (∀ b ∈ fp, H' b = none) ∧ W i n σ' H') ?_ m0 ⟨0, σ, H2, I2, st2, fun b hb => (f2 b hb).1, w0⟩
  rintro n s3 ⟨i, σ3, H3, I3, st3, fr3, w3⟩
  rcases turn i n σ3 H3 w3 with ⟨stop, qn⟩ | ⟨go, N, hN, step⟩
  · refine wpAny_passesOwn hp (thn (T.done X rfl rfl rfl hc i pins s3 σ3 H3 X.xe I3 (stat fr3) st3 stop) fun r s4 ⟨hr, I4⟩ => ?_)
    subst hr
    exact wpAny_execs_nil ⟨σ3, H3, I4, qn⟩
  · refine wpAny_passesOwn hp (thn (T.item X rfl rfl rfl hc i pins s3 σ3 H3 X.xe I3 (stat fr3) st3 go) fun r s4 ⟨u, hr, h4⟩ => ?_)
    subst hr
    refine wpAny_passesOwn hp (thn h4 fun _ s5 ⟨x, H5, I5, r5, y5, st5, fr5⟩ => ?_)
    have I5' := I5.pinned (stat fr5) (T.obj _ _ st5)
    refine wpAny_passesOwn hp (thn (hg _ s5 σ3 H5 x u _ I5' r5 (step x H5 y5)) fun _ s6 ⟨σ6, H6, I6, q6⟩ => ?_)
    refine wpAny_passesOwn hp (thn (hb _ s6 σ6 H6 _ I6 q6) fun f s7 q7 => ?_)
    have again : ∀ {σ7 : St} {H7 : Hp}, Inv X (pins ++ pinsAt fp s5.heap) σ7 H7 s7 → N σ7 H7 → ∃ m, m < n ∧ ∃ i σ' H', Inv X pins σ' H' s7 ∧ tn i s7.heap ∧ (∀ b ∈ fp, H' b = none) ∧ W i m σ' H' := fun {σ7 H7} I7 n7 => by
      obtain ⟨m', hm, w7⟩ := hN σ7 H7 n7
      refine ⟨m', hm, i + 1, σ7, H7, I7.unpinned, T.keep _ _ _ st5 fun b hb o e => (I7.pin (b, o) (List.mem_append_right _ (List.mem_append_right _ (mem_pinsAt hb e)))).1, fun b hb => ?_, w7⟩
      obtain ⟨o, e, d⟩ := T.obj _ _ st5 b hb
      exact (I7.pin (b, o) (List.mem_append_right _ (List.mem_append_right _ (mem_pinsAt hb e)))).2.1
    cases f with
    | next => obtain ⟨σ7, H7, I7, n7⟩ := q7; exact again I7 n7
    | cont => obtain ⟨σ7, H7, I7, n7⟩ := q7; exact again I7 n7
    | brk => obtain ⟨σ7, H7, I7, q7⟩ := q7; exact ⟨σ7, H7, I7.unpinned, q7⟩
    | ret v => obtain ⟨x7, σ7, H7, I7, r7, q7⟩ := q7; exact ⟨x7, σ7, H7, I7.unpinned, r7, q7⟩
end
theorem for_list {K : PySem.W.Frag} {a : Addr} {xs : List V} {g : TG} {tb : TS} {D : Ends} {σ : St} {H : Hp} (Pv : Nat → St → Hp → Prop) (h0 : Pv 0 σ H) (hl : ∀ i σ H, i ≤ xs.length → Pv i σ H → SqL K H a xs)
    (hs : ∀ i x σ H, xs[i]? = some x → Pv i σ H → g x σ H fun σ2 H2 => tb { D with nx := Pv (i + 1), ct := Pv (i + 1), bk := D.nx } σ2 H2) (hd : ∀ σ H, Pv xs.length σ H → D.nx σ H) :
    ∃ W : Nat → Nat → St → Hp → Prop, (∃ m, W 0 m σ H) ∧ ∀ i m σ H, W i m σ H →
      ((Itl K a).stop i H ∧ D.nx σ H) ∨ ((Itl K a).go i H ∧ ∃ N : St → Hp → Prop, (∀ σ' H', N σ' H' → ∃ m', m' < m ∧ W (i + 1) m' σ' H') ∧ ∀ x H', (Itl K a).yld i H x H' → g x σ H' fun σ2 H2 => tb { D with nx := N, ct := N, bk := D.nx } σ2 H2) := by
  refine ⟨fun i m σ H => m = xs.length - i ∧ i ≤ xs.length ∧ Pv i σ H, ⟨xs.length, by simp, Nat.zero_le _, h0⟩, ?_⟩
  rintro i m σ H ⟨rfl, hi, p⟩
  have q := hl i σ H hi p
  by_cases hlt : i < xs.length
  · refine .inr ⟨⟨xs, xs[i], q, by simp [hlt]⟩, Pv (i + 1), fun σ' H' p' => ⟨xs.length - (i + 1), by omega, rfl, hlt, p'⟩, fun x H' y => ?_⟩
    obtain ⟨e, y⟩ := y
    subst e
    exact hs i x σ _ (y xs q) p
  · have e : i = xs.length := by omega
    subst e
    exact .inl ⟨⟨xs, q, Nat.le_refl _⟩, hd σ H p⟩
theorem for_tup {K : PySem.W.Frag} {a : Addr} {xs : List V} {g : TG} {tb : TS} {D : Ends} {σ : St} {H : Hp} (Pv : Nat → St → Hp → Prop) (h0 : Pv 0 σ H) (hl : ∀ i σ H, i ≤ xs.length → Pv i σ H → SqT K H a xs)
    (hs : ∀ i x σ H, xs[i]? = some x → Pv i σ H → g x σ H fun σ2 H2 => tb { D with nx := Pv (i + 1), ct := Pv (i + 1), bk := D.nx } σ2 H2) (hd : ∀ σ H, Pv xs.length σ H → D.nx σ H) :
    ∃ W : Nat → Nat → St → Hp → Prop, (∃ m, W 0 m σ H) ∧ ∀ i m σ H, W i m σ H →
      ((Itt K a).stop i H ∧ D.nx σ H) ∨ ((Itt K a).go i H ∧ ∃ N : St → Hp → Prop, (∀ σ' H', N σ' H' → ∃ m', m' < m ∧ W (i + 1) m' σ' H') ∧ ∀ x H', (Itt K a).yld i H x H' → g x σ H' fun σ2 H2 => tb { D with nx := N, ct := N, bk := D.nx } σ2 H2) := by
  refine ⟨fun i m σ H => m = xs.length - i ∧ i ≤ xs.length ∧ Pv i σ H, ⟨xs.length, by simp, Nat.zero_le _, h0⟩, ?_⟩
  rintro i m σ H ⟨rfl, hi, p⟩
  have q := hl i σ H hi p
  by_cases hlt : i < xs.length
  · refine .inr ⟨⟨xs, xs[i], q, by simp [hlt]⟩, Pv (i + 1), fun σ' H' p' => ⟨xs.length - (i + 1), by omega, rfl, hlt, p'⟩, fun x H' y => ?_⟩
    obtain ⟨e, y⟩ := y
    subst e
    exact hs i x σ _ (y xs q) p
  · have e : i = xs.length := by omega
    subst e
    exact .inl ⟨⟨xs, q, Nat.le_refl _⟩, hd σ H p⟩
theorem for_range {lo : Int} {n : Nat} {g : TG} {tb : TS} {D : Ends} {σ : St} {H : Hp} (Pv : Nat → St → Hp → Prop) (h0 : Pv 0 σ H)
    (hs : ∀ i σ H, i < n → Pv i σ H → g (.int (lo + i)) σ H fun σ2 H2 => tb { D with nx := Pv (i + 1), ct := Pv (i + 1), bk := D.nx } σ2 H2) (hd : ∀ σ H, Pv n σ H → D.nx σ H) :
    ∃ W : Nat → Nat → St → Hp → Prop, (∃ m, W 0 m σ H) ∧ ∀ i m σ H, W i m σ H →
      ((Itr lo n).stop i H ∧ D.nx σ H) ∨ ((Itr lo n).go i H ∧ ∃ N : St → Hp → Prop, (∀ σ' H', N σ' H' → ∃ m', m' < m ∧ W (i + 1) m' σ' H') ∧ ∀ x H', (Itr lo n).yld i H x H' → g x σ H' fun σ2 H2 => tb { D with nx := N, ct := N, bk := D.nx } σ2 H2) := by
  refine ⟨fun i m σ H => m = n - i ∧ i ≤ n ∧ Pv i σ H, ⟨n, by simp, Nat.zero_le _, h0⟩, ?_⟩
  rintro i m σ H ⟨rfl, hi, p⟩
  by_cases hlt : i < n
  · refine .inr ⟨hlt, Pv (i + 1), fun σ' H' p' => ⟨n - (i + 1), by omega, rfl, hlt, p'⟩, fun x H' y => ?_⟩
    obtain ⟨e, y⟩ := y
    subst e y
    exact hs i σ _ hlt p
  · have e : i = n := by omega
    subst e
    exact .inl ⟨Nat.le_refl _, hd σ H p⟩
end L2
namespace L2
open PySem PySem.Spec PyProof.Rows
noncomputable abbrev R2 := V → V → Hp → VK → Prop
noncomputable def OpR (X : Cx) (f : Value → Value → Sem Value) (r : R2) : Prop :=
  ∀ (pins : List (Addr × Obj)) (s : Shared) (σ : St) (H : Hp) (x y : V) (v u : Value) (Q : VK), Inv X pins σ H s → RelV x v → RelV y u → r x y H Q →
    wpAny (model X.prog X.w) X.A (f v u) (EP X pins σ Q) X.xe s
noncomputable def UnR (X : Cx) (f : Value → Sem Value) (r : V → Hp → VK → Prop) : Prop :=
  ∀ (pins : List (Addr × Obj)) (s : Shared) (σ : St) (H : Hp) (x : V) (v : Value) (Q : VK), Inv X pins σ H s → RelV x v → r x H Q →
    wpAny (model X.prog X.w) X.A (f v) (EP X pins σ Q) X.xe s
noncomputable def CallR (X : Cx) (f : Value) (r : List V → Hp → VK → Prop) : Prop :=
  ∀ (pins : List (Addr × Obj)) (s : Shared) (σ : St) (H : Hp) (xs : List V) (us : List Value) (Q : VK), Inv X pins σ H s → Vals xs us → r xs H Q →
    wpAny (model X.prog X.w) X.A (call f us) (EP X pins σ Q) X.xe s
noncomputable def TruR (X : Cx) (r : V → Hp → (Bool → Hp → Prop) → Prop) : Prop :=
  ∀ (pins : List (Addr × Obj)) (s : Shared) (σ : St) (H : Hp) (x : V) (v : Value) (Q : Bool → Hp → Prop), Inv X pins σ H s → RelV x v → r x H Q →
    wpAny (model X.prog X.w) X.A (truthy v) (TP X pins σ Q) X.xe s
noncomputable def tOp (r : R2) (ta tb : TE) : TE := fun σ H Q => ta σ H fun x H1 => tb σ H1 fun y H2 => r x y H2 Q
noncomputable def tUn (r : V → Hp → VK → Prop) (ta : TE) : TE := fun σ H Q => ta σ H fun x H1 => r x H1 Q
noncomputable def rI (C : Int → Int → Prop) (g : Int → Int → V) : R2 := fun x y H Q => ∃ i j, x = .int i ∧ y = .int j ∧ C i j ∧ Q (g i j) H
noncomputable def rI0 (g : Int → Int → V) : R2 := fun x y H Q => ∃ i j, x = .int i ∧ y = .int j ∧ Q (g i j) H
noncomputable def rU (g : Int → V) : V → Hp → VK → Prop := fun x H Q => ∃ i, x = .int i ∧ Q (g i) H
section
variable {X : Cx} {a b c : Expr} {ta tb tc : TE} {pos : Pos}
theorem binT (ha : PE X a ta) (hb : PE X b tb) {pins : List (Addr × Obj)} {s : Shared} {σ : St} {H : Hp} {R : V → V → Hp → Prop} (I : Inv X pins σ H s)
    (h : ta σ H fun x H1 => tb σ H1 fun y H2 => R x y H2) {Q : Value → Shared → Prop} {f : Value → Value → Sem Value}
    (hf : ∀ v u s2 x y H2, Inv X pins σ H2 s2 → RelV x v → RelV y u → R x y H2 → wpAny (model X.prog X.w) X.A (f v u) Q X.xe s2) :
    wpAny (model X.prog X.w) X.A (eval a X.env) (fun v s₁ => wpAny (model X.prog X.w) X.A (eval b X.env) (fun u s₂ => wpAny (model X.prog X.w) X.A (f v u) Q X.xe s₂) X.xe s₁) X.xe s := by
  refine thn (ha pins s σ H _ I h) fun v s1 ⟨x, H1, I1, r1, q1⟩ => ?_
  refine thn (hb pins s1 σ H1 _ I1 q1) fun u s2 ⟨y, H2, I2, r2, q2⟩ => ?_
  exact hf v u s2 x y H2 I2 r1 r2 q2
theorem pe_op {op : Operator} {r : R2} (ho : OpR X (binaryOp op) r) (ha : PE X a ta) (hb : PE X b tb) : PE X (.BinOp a op b pos) (tOp r ta tb) := by
  intro pins s σ H Q I h
  exact wpAny_BinOp (binT ha hb I h fun v u s2 x y H2 I2 rx ry q => ho pins s2 σ H2 x y v u Q I2 rx ry q)
theorem pe_un {op : UnaryOp} {r : V → Hp → VK → Prop} (ho : UnR X (unaryOp op) r) (ha : PE X a ta) : PE X (.UnaryOp op a pos) (tUn r ta) := by
  intro pins s σ H Q I h
  exact UnaryOp_ (thn (ha pins s σ H _ I h) fun v s1 ⟨x, H1, I1, r1, q1⟩ => ho pins s1 σ H1 x v Q I1 r1 q1)
theorem opI {f : Value → Value → Sem Value} {C : Int → Int → Prop} {g : Int → Int → Int}
    (rule : ∀ (i j : Int) (t u : Tok) (s : Shared) (Q : Value → Shared → Prop) (E : Value → Shared → Prop), C i j → Q (.int (g i j) s.toks) { s with toks := s.toks + 1 } → wpAny (model X.prog X.w) X.A (f (.int i t) (.int j u)) Q E s) :
    OpR X f (rI C fun i j => .int (g i j)) := by
  intro pins s σ H x y v u Q I rx ry h
  obtain ⟨i, j, rfl, rfl, hc, q⟩ := h
  obtain ⟨t, rfl⟩ := rx
  obtain ⟨t', rfl⟩ := ry
  exact rule i j t t' s _ _ hc ⟨.int (g i j), H, I.tok _, ⟨_, rfl⟩, q⟩
theorem opI0 {f : Value → Value → Sem Value} {g : Int → Int → Int}
    (rule : ∀ (i j : Int) (t u : Tok) (s : Shared) (Q : Value → Shared → Prop) (E : Value → Shared → Prop), Q (.int (g i j) s.toks) { s with toks := s.toks + 1 } → wpAny (model X.prog X.w) X.A (f (.int i t) (.int j u)) Q E s) :
    OpR X f (rI0 fun i j => .int (g i j)) := by
  intro pins s σ H x y v u Q I rx ry h
  obtain ⟨i, j, rfl, rfl, q⟩ := h
  obtain ⟨t, rfl⟩ := rx
  obtain ⟨t', rfl⟩ := ry
  exact rule i j t t' s _ _ ⟨.int (g i j), H, I.tok _, ⟨_, rfl⟩, q⟩
theorem opB0 {f : Value → Value → Sem Value} {g : Int → Int → Bool}
    (rule : ∀ (i j : Int) (t u : Tok) (s : Shared) (Q : Value → Shared → Prop) (E : Value → Shared → Prop), Q (.bool (g i j)) s → wpAny (model X.prog X.w) X.A (f (.int i t) (.int j u)) Q E s) :
    OpR X f (rI0 fun i j => .bl (g i j)) := by
  intro pins s σ H x y v u Q I rx ry h
  obtain ⟨i, j, rfl, rfl, q⟩ := h
  obtain ⟨t, rfl⟩ := rx
  obtain ⟨t', rfl⟩ := ry
  exact rule i j t t' s _ _ ⟨.bl (g i j), H, I, rfl, q⟩
noncomputable def CPow (i j : Int) : Prop := 0 ≤ j ∧ j ≤ 1000000 ∧ i.natAbs < 2 ^ 64
noncomputable def CMul (i j : Int) : Prop := (-(2 ^ 64) < i ∧ i < 2 ^ 64) ∨ (-(2 ^ 64) < j ∧ j < 2 ^ 64)
theorem CMul.ok {i j : Int} (h : CMul i j) : IntMulOk i j := by
  rcases h with ⟨h1, h2⟩ | ⟨h1, h2⟩
  · exact .of_left (intBits_le_64 h1 h2)
  · exact .of_right (intBits_le_64 h1 h2)
theorem op_add : OpR X (binaryOp .Add) (rI0 fun i j => .int (i + j)) := opI0 fun _ _ _ _ _ _ _ q => add_int q
theorem op_sub : OpR X (binaryOp .Sub) (rI0 fun i j => .int (i - j)) := opI0 fun _ _ _ _ _ _ _ q => sub_int q
theorem op_mul : OpR X (binaryOp .Mult) (rI CMul fun i j => .int (i * j)) := opI fun _ _ _ _ _ _ _ hc q => mul_int q hc.ok
theorem op_mod : OpR X (binaryOp .Mod) (rI (fun _ j => 0 < j) fun i j => .int (i % j)) := opI fun i j _ _ _ _ _ hc q => by
  have h1 : (0 : Int) < j := hc
  exact mod_int' (by omega) (by rw [Int.fmod_eq_emod_of_nonneg i (by omega)]; exact q)
theorem op_pow : OpR X (binaryOp .Pow) (rI CPow fun i j => .int (i ^ j.toNat)) := opI fun _ _ _ _ _ _ _ hc q => pow_int_small hc.1 hc.2.1 hc.2.2 q
theorem unI {f : Value → Sem Value} {g : Int → Int}
    (rule : ∀ (i : Int) (t : Tok) (s : Shared) (Q : Value → Shared → Prop) (E : Value → Shared → Prop), Q (.int (g i) s.toks) { s with toks := s.toks + 1 } → wpAny (model X.prog X.w) X.A (f (.int i t)) Q E s) :
    UnR X f (rU fun i => .int (g i)) := by
  intro pins s σ H x v Q I rx h
  obtain ⟨i, rfl, q⟩ := h
  obtain ⟨t, rfl⟩ := rx
  exact rule i t s _ _ ⟨.int (g i), H, I.tok _, ⟨_, rfl⟩, q⟩
theorem un_neg : UnR X (unaryOp .USub) (rU fun i => .int (-i)) := unI fun _ _ _ _ _ q => neg_int q
end
noncomputable def scal : V → V → Bool
  | .non, .non => true | .non, .int _ => true | .int _, .non => true | .non, .bl _ => true | .bl _, .non => true | .non, .str _ => true | .str _, .non => true
  | .int _, .int _ => true | .bl _, .bl _ => true | .str _, .str _ => true | .byt _, .byt _ => true
  | .int _, .str _ => true | .str _, .int _ => true | .bl _, .str _ => true | .str _, .bl _ => true
  | _, _ => false
noncomputable def rEq : R2 := fun x y H Q => scal x y = true ∧ Q (.bl (decide (x = y))) H
noncomputable def rNe : R2 := fun x y H Q => scal x y = true ∧ Q (.bl (!decide (x = y))) H
theorem dec_int {i j : Int} : decide (V.int i = V.int j) = (i == j) := by
  rw [Bool.eq_iff_iff]
  simp
theorem dec_bl {i j : Bool} : decide (V.bl i = V.bl j) = (i == j) := by
  rw [Bool.eq_iff_iff]
  simp
theorem dec_str {i j : Str} : decide (V.str i = V.str j) = (i == j) := by
  rw [Bool.eq_iff_iff]
  simp
theorem dec_byt {i j : Array UInt8} : decide (V.byt i = V.byt j) = (i.toList == j.toList) := by
  rw [Bool.eq_iff_iff]
  cases i
  cases j
  simp
section
variable {X : Cx} {a b c : Expr} {ta tb tc : TE} {pos : Pos}
theorem fin_bl {pins : List (Addr × Obj)} {σ : St} {H : Hp} {s : Shared} {Q : VK} {k k' : Bool} (I : Inv X pins σ H s) (q : Q (.bl k) H) (e : k = k') : EP X pins σ Q (.bool k') s := by
  subst e
  exact ⟨.bl k, H, I, rfl, q⟩
theorem op_eq : OpR X (compareOp .Eq) rEq := by
  intro pins s σ H x y v u Q I rx ry h
  obtain ⟨hs, q⟩ := h
  cases x with
  | non =>
    cases rx
    cases y with
    | non => cases ry; exact PySem.EqNone.eq_none_none (fin_bl I q (by simp))
    | bl j => cases ry; exact PySem.EqNone.eq_none_bool (fin_bl I q (by simp))
    | int j => obtain ⟨t', rfl⟩ := ry; exact PySem.EqNone.eq_none_int (fin_bl I q (by simp))
    | str j => obtain ⟨t', rfl⟩ := ry; exact PySem.EqNone.eq_none_str (fin_bl I q (by simp))
    | _ => exact absurd (show false = true from hs) Bool.false_ne_true
  | bl i =>
    cases rx
    cases y with
    | non => cases ry; exact PySem.EqNone.eq_bool_none (fin_bl I q (by simp))
    | bl j => cases ry; exact eq_bool (fin_bl I q dec_bl)
    | str j => obtain ⟨t', rfl⟩ := ry; exact PySem.EqMixed.eq_bool_str (fin_bl I q (by simp))
    | _ => exact absurd (show false = true from hs) Bool.false_ne_true
  | int i =>
    obtain ⟨t, rfl⟩ := rx
    cases y with
    | non => cases ry; exact PySem.EqNone.eq_int_none (fin_bl I q (by simp))
    | int j => obtain ⟨t', rfl⟩ := ry; exact eq_int (fin_bl I q dec_int)
    | str j => obtain ⟨t', rfl⟩ := ry; exact PySem.EqMixed.eq_int_str (fin_bl I q (by simp))
    | _ => exact absurd (show false = true from hs) Bool.false_ne_true
  | str i =>
    obtain ⟨t, rfl⟩ := rx
    cases y with
    | non => cases ry; exact PySem.EqNone.eq_str_none (fin_bl I q (by simp))
    | bl j => cases ry; exact PySem.EqMixed.eq_str_bool (fin_bl I q (by simp))
    | int j => obtain ⟨t', rfl⟩ := ry; exact PySem.EqMixed.eq_str_int (fin_bl I q (by simp))
    | str j => obtain ⟨t', rfl⟩ := ry; exact eq_str (fin_bl I q dec_str)
    | _ => exact absurd (show false = true from hs) Bool.false_ne_true
  | byt i =>
    obtain ⟨t, rfl⟩ := rx
    cases y with
    | byt j => obtain ⟨t', rfl⟩ := ry; exact PySem.W.eq_bytes (fin_bl I q dec_byt)
    | _ => exact absurd (show false = true from hs) Bool.false_ne_true
  | _ => cases y <;> exact absurd (show false = true from hs) Bool.false_ne_true
theorem op_ne : OpR X (compareOp .NotEq) rNe := by
  intro pins s σ H x y v u Q I rx ry h
  obtain ⟨hs, q⟩ := h
  cases x with
  | non =>
    cases rx
    cases y with
    | non => cases ry; exact PySem.EqNone.ne_none_none (fin_bl I q (by simp))
    | bl j => cases ry; exact PySem.EqNone.ne_none_bool (fin_bl I q (by simp))
    | int j => obtain ⟨t', rfl⟩ := ry; exact PySem.EqNone.ne_none_int (fin_bl I q (by simp))
    | str j => obtain ⟨t', rfl⟩ := ry; exact PySem.EqNone.ne_none_str (fin_bl I q (by simp))
    | _ => exact absurd (show false = true from hs) Bool.false_ne_true
  | bl i =>
    cases rx
    cases y with
    | non => cases ry; exact PySem.EqNone.ne_bool_none (fin_bl I q (by simp))
    | bl j => cases ry; exact ne_bool (fin_bl I q (congrArg not dec_bl))
    | str j => obtain ⟨t', rfl⟩ := ry; exact PySem.EqMixed.ne_bool_str (fin_bl I q (by simp))
    | _ => exact absurd (show false = true from hs) Bool.false_ne_true
  | int i =>
    obtain ⟨t, rfl⟩ := rx
    cases y with
    | non => cases ry; exact PySem.EqNone.ne_int_none (fin_bl I q (by simp))
    | int j => obtain ⟨t', rfl⟩ := ry; exact ne_int (fin_bl I q (congrArg not dec_int))
    | str j => obtain ⟨t', rfl⟩ := ry; exact PySem.EqMixed.ne_int_str (fin_bl I q (by simp))
    | _ => exact absurd (show false = true from hs) Bool.false_ne_true
  | str i =>
    obtain ⟨t, rfl⟩ := rx
    cases y with
    | non => cases ry; exact PySem.EqNone.ne_str_none (fin_bl I q (by simp))
    | bl j => cases ry; exact PySem.EqMixed.ne_str_bool (fin_bl I q (by simp))
    | int j => obtain ⟨t', rfl⟩ := ry; exact PySem.EqMixed.ne_str_int (fin_bl I q (by simp))
    | str j => obtain ⟨t', rfl⟩ := ry; exact ne_str (fin_bl I q (congrArg not dec_str))
    | _ => exact absurd (show false = true from hs) Bool.false_ne_true
  | byt i =>
    obtain ⟨t, rfl⟩ := rx
    cases y with
    | byt j => obtain ⟨t', rfl⟩ := ry; exact PySem.W.ne_bytes (fin_bl I q (congrArg not dec_byt))
    | _ => exact absurd (show false = true from hs) Bool.false_ne_true
  | _ => cases y <;> exact absurd (show false = true from hs) Bool.false_ne_true
theorem op_lt : OpR X (compareOp .Lt) (rI0 fun i j => .bl (decide (i < j))) := opB0 fun _ _ _ _ _ _ _ q => lt_int q
theorem op_le : OpR X (compareOp .LtE) (rI0 fun i j => .bl (decide (i ≤ j))) := opB0 fun _ _ _ _ _ _ _ q => le_int q
theorem op_gt : OpR X (compareOp .Gt) (rI0 fun i j => .bl (decide (j < i))) := opB0 fun _ _ _ _ _ _ _ q => gt_int q
theorem op_ge : OpR X (compareOp .GtE) (rI0 fun i j => .bl (decide (j ≤ i))) := opB0 fun _ _ _ _ _ _ _ q => ge_int q
theorem op_isN : OpR X (compareOp .Is) (fun x y H Q => y = .non ∧ Q (.bl (decide (x = .non))) H) := by
  intro pins s σ H x y v u Q I rx ry h
  obtain ⟨rfl, q⟩ := h
  cases ry
  refine is_none_gen (fin_bl I q ?_)
  cases x <;> first
    | (cases rx; rfl)
    | (obtain ⟨t, rfl⟩ := rx; rfl)
theorem nomark (b : Expr) {op : CmpOp} (h : op ≠ .In := by decide) (h2 : op ≠ .NotIn := by decide) : behindInMarks op b = false := by
  have e1 : (op == CmpOp.In) = false := by cases op <;> first | rfl | exact absurd rfl h
  have e2 : (op == CmpOp.NotIn) = false := by cases op <;> first | rfl | exact absurd rfl h2
  cases b <;> simp [behindInMarks, e1, e2]
theorem pe_cmpR {op : CmpOp} {r : R2} (ho : OpR X (compareOp op) r) (ha : PE X a ta) (hb : PE X b tb) (hm : behindInMarks op b = false) : PE X (.Compare a [op] [b] pos) (tOp r ta tb) := by
  intro pins s σ H Q I h
  exact wpAny_Compare1 (binT ha hb I h fun v u s2 x y H2 I2 rx ry q => ho pins s2 σ H2 x y v u Q I2 rx ry q) hm
noncomputable def tTest (t : TE) : TT := fun σ H Q => t σ H fun x H' => ∃ k, x = .bl k ∧ Q k H'
theorem pt_cmpR {op : CmpOp} {r : R2} (ho : OpR X (compareOp op) r) (ha : PE X a ta) (hb : PE X b tb) (hm : behindInMarks op b = false) : PT X (.Compare a [op] [b] pos) (tTest (tOp r ta tb)) := by
  intro pins s σ H Q I h
  refine wpAny_isTrue_Compare1 (thn (ha pins s σ H _ I h) fun v s1 ⟨x, H1, I1, r1, q1⟩ => thn (hb pins s1 σ H1 _ I1 q1) fun u s2 ⟨y, H2, I2, r2, q2⟩ =>
    thn (ho pins s2 σ H2 x y v u _ I2 r1 r2 q2) fun c s3 ⟨z, H3, I3, r3, k, e, q3⟩ => ?_) hm
  subst e
  cases r3
  exact wpAny_truthy_bool ⟨H3, I3, q3⟩
noncomputable def TruV (K : PySem.W.Frag) (x : V) (H : Hp) (k : Bool) : Prop :=
  match x with
  | .non => k = false
  | .bl b => k = b
  | .int i => k = (i != 0)
  | .str y => y.length ≤ sizeLine ∧ k = ((y.length : Int) != 0)
  | .byt y => y.size ≤ sizeLine ∧ k = ((y.size : Int) != 0)
  | .ref p => (∃ xs, SqL K H p xs ∧ k = !xs.isEmpty) ∨ (∃ xs, SqT K H p xs ∧ k = !xs.isEmpty) ∨ ∃ kvs, H p = some (.dK kvs) ∧ k = !kvs.isEmpty
  | _ => False
theorem isEmpty_kv {κ : Type} {kvs : List (κ × V)} {vs : List (κ × Value)} (r : KV kvs vs) : (!vs.isEmpty) = !kvs.isEmpty := by
  cases r <;> rfl
theorem isEmpty_of {xs : List V} {its : List Value} (r : Vals xs its) : (!its.toArray.isEmpty) = !xs.isEmpty := by
  cases r <;> simp
theorem line63 : (sizeLine : Nat) < 2 ^ 63 := by rw [sizeLine_eq]; decide
theorem tru_ok : TruR X (fun x H Q => ∃ k, TruV X.K x H k ∧ Q k H) := by
  intro pins s σ H x v Q I rx h
  obtain ⟨k, e, q⟩ := h
  have hl := line63
  have hs : sizeLine = 16777216 := sizeLine_eq
  cases x with
  | non =>
    cases rx
    have e' : k = false := e
    subst e'
    exact truthy_none ⟨H, I, q⟩
  | bl b =>
    cases rx
    have e' : k = b := e
    subst e'
    exact wpAny_truthy_bool ⟨H, I, q⟩
  | int i =>
    obtain ⟨t, rfl⟩ := rx
    have e' : k = (i != 0) := e
    subst e'
    exact PySem.P.truthy_int ⟨H, I, q⟩
  | str y =>
    obtain ⟨t, rfl⟩ := rx
    obtain ⟨hy, e'⟩ : y.length ≤ sizeLine ∧ k = ((y.length : Int) != 0) := e
    subst e'
    exact PySem.P.truthy_str (by omega) ⟨H, I.tok _, q⟩
  | byt y =>
    obtain ⟨t, rfl⟩ := rx
    obtain ⟨hy, e'⟩ : y.size ≤ sizeLine ∧ k = ((y.size : Int) != 0) := e
    subst e'
    exact PySem.W.truthy_bytes (by omega) ⟨H, I.tok _, q⟩
  | ref p =>
    cases rx
    have e' : (∃ xs, SqL X.K H p xs ∧ k = !xs.isEmpty) ∨ (∃ xs, SqT X.K H p xs ∧ k = !xs.isEmpty) ∨ ∃ kvs, H p = some (.dK kvs) ∧ k = !kvs.isEmpty := e
    rcases e' with ⟨xs, hx, e'⟩ | ⟨xs, hx, e'⟩ | ⟨kvs, hx, e'⟩
    · subst e'
      obtain ⟨its, r, pl, hz⟩ := I.list hx
      have hlen := r.length
      exact wpAny_truthy_list pl.isList (by simp only [List.size_toArray]; omega) ⟨H, I.tok _, by rw [isEmpty_of r]; exact q⟩
    · subst e'
      obtain ⟨its, r, pl, hz⟩ := I.tuple hx
      have hlen := r.length
      exact truthy_tuple pl (by simp only [List.size_toArray]; omega) ⟨H, I.tok _, by rw [isEmpty_of r]; exact q⟩
    · subst e'
      obtain ⟨hz, hS, vs, r, m⟩ : kvs.length ≤ sizeLine ∧ (p == sysModules) = false ∧ ∃ vs, KV kvs vs ∧ s.heap.DictOf (mixKind X.prog X.w) p vs := I.hok p _ hx
      have hlen : kvs.length = vs.length := Paired.length r
      exact wpAny_truthy_dict hS m (by omega) ⟨H, I.tok _, by rw [isEmpty_kv r]; exact q⟩
  | _ => exact (show False from e).elim
theorem pt_truth (ha : PE X a ta) (he : ∀ whole, isTrue a X.env whole = (do let v ← whole; standAt a.pos; holding [v] (truthy v))) :
    PT X a (fun σ H Q => ta σ H fun x H' => ∃ k, TruV X.K x H' k ∧ Q k H') := by
  intro pins s σ H Q I h
  exact isTrue_plain (thn (ha pins s σ H _ I h) fun v s1 ⟨x, H1, I1, r1, q1⟩ => tru_ok pins s1 σ H1 x v Q I1 r1 q1) (he _)
theorem vals1 {x : V} {us : List Value} (r : Vals [x] us) : ∃ u, us = [u] ∧ RelV x u := by
  cases r with
  | cons r1 r2 => cases r2; exact ⟨_, rfl, r1⟩
theorem vals2 {x y : V} {us : List Value} (r : Vals [x, y] us) : ∃ u w', us = [u, w'] ∧ RelV x u ∧ RelV y w' := by
  cases r with
  | cons r1 r2 =>
    cases r2 with
    | cons r3 r4 => cases r4; exact ⟨_, _, rfl, r1, r3⟩
theorem call_abs : CallR X (.builtin "abs") (fun xs H Q => ∃ i, xs = [.int i] ∧ Q (.int (if i < 0 then -i else i)) H) := by
  intro pins s σ H xs us Q I r h
  obtain ⟨i, rfl, q⟩ := h
  obtain ⟨u, rfl, t, rfl⟩ := vals1 r
  exact call_abs_int fun u tk => ⟨.int (if i < 0 then -i else i), H, I.tok _, ⟨_, rfl⟩, q⟩
theorem call_max2 (hc : X.calm = true) : CallR X (.builtin "max") (fun xs H Q => ∃ i j, xs = [.int i, .int j] ∧ Q (.int (if j > i then j else i)) H) := by
  intro pins s σ H xs us Q I r h
  obtain ⟨i, j, rfl, q⟩ := h
  obtain ⟨u, w', rfl, ⟨t, rfl⟩, ⟨t', rfl⟩⟩ := vals2 r
  refine max_two_ints (I.ok.hd hc) fun h' tk k => ⟨_, H, I.kept k, ?_, q⟩
  by_cases hj : j > i
  · rw [if_pos hj, if_pos hj]; exact ⟨_, rfl⟩
  · rw [if_neg hj, if_neg hj]; exact ⟨_, rfl⟩
theorem call_int1 : CallR X (.type "int") (fun xs H Q => (∃ i, xs = [.int i] ∧ Q (.int i) H) ∨ ∃ k, xs = [.bl k] ∧ Q (.int (if k then 1 else 0)) H) := by
  intro pins s σ H xs us Q I r h
  rcases h with ⟨i, rfl, q⟩ | ⟨k, rfl, q⟩
  · obtain ⟨u, rfl, t, rfl⟩ := vals1 r
    exact call_int_int ⟨.int i, H, I, ⟨_, rfl⟩, q⟩
  · obtain ⟨u, rfl, r1⟩ := vals1 r
    cases r1
    exact call_int_bool ⟨.int (if k then 1 else 0), H, I.tok _, ⟨_, rfl⟩, q⟩
end
end L2
namespace L2
open PySem PySem.Spec PyProof.Rows
structure ObjM (h : Heap) (x dx C : Addr) (mA : Str → Option Value) : Prop where
  obj : h.get? x = some (PySem.W.instObj C dx)
  ns : h.Ns1 dx mA
  ne : dx ≠ x
theorem lookIn_ns {h : Heap} {dx : Addr} {mA : Str → Option Value} (n : h.Ns1 dx mA) : ∃ od, h.get? dx = some od ∧ ∀ name, PySem.W.lookIn name od = some (mA name) := by
  obtain ⟨o, es, ep, ho, hd, hk, _, hm⟩ := n
  refine ⟨o, ho, fun name => ?_⟩
  have e := hm name
  unfold nsFind findBy at e
  rw [← Array.find?_toList] at e
  unfold PySem.W.lookIn
  rw [hd]
  dsimp only
  split
  · rename_i y q
    rw [q] at e
    exact congrArg some e
  · rename_i q
    rw [q] at e
    have a : es.toList.any (·.refKey) = false := by
      rw [List.any_eq_false]
      intro y hy
      obtain ⟨z, t, hkey⟩ := hk y (Array.mem_toList_iff.mp hy)
      simp [DictEntry.refKey, hkey]
    have a' : ¬ es.toList.any (·.refKey) = true := by rw [a]; exact Bool.false_ne_true
    rw [if_neg a']
    exact congrArg some e
theorem ObjM.look {h : Heap} {x dx C : Addr} {mA : Str → Option Value} (I : ObjM h x dx C mA) : ∃ od, PySem.W.InstAt h x (PySem.W.instObj C dx) C (some od) ∧ ∀ name, PySem.W.lookIn name od = some (mA name) :=
  let ⟨od, ho, hl⟩ := lookIn_ns I.ns
  ⟨od, ⟨I.obj, rfl, rfl, ho⟩, hl⟩
section
variable {prog : Program} {w : World} {A : Around} {E : Value → Shared → Prop} {s : Shared} {K : PySem.W.Frag} {x dx C f : Addr} {mA : Str → Option Value} {name : Str} {v : Value}
end
section
variable {P : Program} {w : World} {H H' : Hp} {h h' : Heap} {a C dx : Addr} {fs fs' : List (Str × V)}
theorem ins_get (hok : HOk P w H h) (e : H a = some (.ins C dx fs)) : ∃ mA, ObjM h a dx C mA ∧ (∀ f, RelO (fs.lookup f) (mA f)) ∧ PySem.Within mA (fs.map (·.1)) ∧ fs.length ≤ 1000 ∧ H dx = some (.own a) := by
  obtain ⟨d, z, ne, ob, mA, n, r, q⟩ := (show ObjOk P w H h a (.ins C dx fs) from hok a _ e)
  exact ⟨mA, ⟨ob, n, ne⟩, r, q, z, d⟩
end
structure Cls (K : PySem.W.Frag) (C : Addr) : Prop where
  pg : PySem.W.plainGet K C Str.empty = true
  hd : PySem.W.hasDictIn K C = true
  po : PySem.W.plainOver K C = true
  sa : PySem.W.findIn K (.ref C) "__setattr__" = some (some (.builtin "object.__setattr__"))
theorem Cls.get {K : PySem.W.Frag} {C : Addr} (c : Cls K C) (f : Str) : PySem.W.plainGet K C f = true := c.pg
section
variable {X : Cx} {pins : List (Addr × Obj)} {σ : St} {H : Hp} {s : Shared} {a C dx : Addr} {fs : List (Str × V)} {f : Str} {v : V} {A : Around} {E : Value → Shared → Prop}
end
section
variable {X : Cx} {o e value : Expr} {f : Str} {pos pos' tpos : Pos} {ta tv : TE}
end
section
variable {X : Cx} {pins : List (Addr × Obj)} {σ : St} {H : Hp} {s : Shared} {A : Around} {E : Value → Shared → Prop} {Q : Value → Shared → Prop} {c : Value} {b : Bool}
inductive TyOf (K : PySem.W.Frag) (H : Hp) : V → Value → Prop where
  | non : TyOf K H .non (.type "NoneType")
  | bl (x : Bool) : TyOf K H (.bl x) (.type "bool")
  | int (i : Int) : TyOf K H (.int i) (.type "int")
  | str (x : Str) : TyOf K H (.str x) (.type "str")
  | flt (x : UInt64) : TyOf K H (.flt x) (.type "float")
  | lst {a : Addr} {xs : List V} (e : H a = some (.lst xs)) : TyOf K H (.ref a) (.type "list")
  | frz {a : Addr} {o : Obj} {xs : List V} (e : H a = some (.frz o (.lst xs))) : TyOf K H (.ref a) (.type "list")
  | tup {a : Addr} {xs : List V} (e : H a = some (.tup xs)) : TyOf K H (.ref a) (.type "tuple")
  | dK {a : Addr} {kvs : List (Key × V)} (e : H a = some (.dK kvs)) : TyOf K H (.ref a) (.type "dict")
  | dT {a : Addr} {kvs : List (List Key × V)} (e : H a = some (.dT kvs)) : TyOf K H (.ref a) (.type "dict")
  | ins {a C dx : Addr} {fs : List (Str × V)} (e : H a = some (.ins C dx fs)) (cl : Cls K C) (ha : PySem.W.findIn K (.ref C) "__class__" = some (some (.builtin "object.__class__")))
      (hn : PySem.W.specialIn K (.builtin "object.__class__") "__get__" = some (some (.builtin "getset_descriptor.__get__"))) (htk : PySem.W.takesIn K (.builtin "object.__class__") = some true)
      (hm : PySem.W.mroIn K C (.type "object") = some true) : TyOf K H (.ref a) (.ref C)
theorem isinst_ok {x : V} {u t : Value} (I : Inv X pins σ H s) (rx : RelV x u) (ty : TyOf X.K H x t) (e : PySem.W.kitOne X.K t c = some b) (h : ∀ tk, Q (.bool b) { s with toks := tk }) :
    wpAny (model X.prog X.w) A (call (.builtin "isinstance") [u, c]) Q E s := by
  cases ty with
  | non => cases (show u = Value.none from rx); exact PySem.W.kia_one PySem.W.kitx_none I.kIn True.intro e (fun z => nomatch z) h
  | bl y => cases (show u = Value.bool y from rx); exact PySem.W.kia_one PySem.W.kitx_bool I.kIn True.intro e (fun z => nomatch z) h
  | int i => obtain ⟨t, q⟩ := (show ∃ t, u = Value.int i t from rx); cases q; exact PySem.W.kia_one PySem.W.kitx_int I.kIn True.intro e (fun z => nomatch z) h
  | str y => obtain ⟨t, q⟩ := (show ∃ t, u = Value.str y t from rx); cases q; exact PySem.W.kia_one PySem.W.kitx_str I.kIn True.intro e (fun z => nomatch z) h
  | flt y => obtain ⟨t, q⟩ := (show ∃ t, u = Value.float y t from rx); cases q; exact PySem.W.kia_one PySem.W.kitx_float I.kIn True.intro e (fun z => nomatch z) h
  | @lst a xs ea =>
    cases (show u = Value.ref a from rx)
    obtain ⟨_, _, n, _, h1⟩ := (show ObjOk X.prog X.w H s.heap a (.lst xs) from I.hok a _ ea)
    exact PySem.W.kia_one PySem.W.kitx_list I.kIn ⟨_, h1, rfl⟩ e (fun z => nomatch z) h
  | @frz a ob xs ea =>
    cases (show u = Value.ref a from rx)
    obtain ⟨_, _, _, n, _, h1⟩ := (show ObjOk X.prog X.w H s.heap a (.frz ob (.lst xs)) from I.hok a _ ea)
    exact PySem.W.kia_one PySem.W.kitx_list I.kIn ⟨_, h1, rfl⟩ e (fun z => nomatch z) h
  | @tup a xs ea =>
    cases (show u = Value.ref a from rx)
    obtain ⟨_, _, _, p⟩ := (show ObjOk X.prog X.w H s.heap a (.tup xs) from I.hok a _ ea)
    obtain ⟨o, h1, h2, _⟩ := p
    exact PySem.W.kia_one PySem.W.kitx_tuple I.kIn ⟨o, h1, h2⟩ e (fun z => nomatch z) h
  | @dK a kvs ea =>
    cases (show u = Value.ref a from rx)
    obtain ⟨_, _, vs, _, p⟩ := (show ObjOk X.prog X.w H s.heap a (.dK kvs) from I.hok a _ ea)
    obtain ⟨o, es, ep, h1, h2, _⟩ := p
    exact PySem.W.kia_one PySem.W.kitx_dict I.kIn ⟨o, h1, h2.1⟩ e (fun z => nomatch z) h
  | @dT a kvs ea =>
    cases (show u = Value.ref a from rx)
    obtain ⟨_, _, xs, _, o, es, ep, h1, h2, _⟩ := (show ObjOk X.prog X.w H s.heap a (.dT kvs) from I.hok a _ ea)
    exact PySem.W.kia_one PySem.W.kitx_dict I.kIn ⟨o, h1, h2.1⟩ e (fun z => nomatch z) h
  | @ins a C dx fs ea cl ha hn htk hm =>
    cases (show u = Value.ref a from rx)
    obtain ⟨mA, O, _⟩ := ins_get I.hok ea
    obtain ⟨od, J, _⟩ := O.look
    exact PySem.W.kia_one (PySem.W.kitx_own (cl.get _) cl.hd ha hn htk hm) I.kIn J e (fun z => nomatch z) h
end
end L2
namespace L2
open PySem PySem.Spec PyProof.Rows
structure Room (k : Nat) (A : Around) : Prop where
  hd : A.handled = none
  dp : A.depth + 3 * k + 5 < recursionLimit
  un : A.units + 16 * k + 200 < cLine
theorem Room.mono {j k : Nat} {A : Around} (r : Room k A) (h : j ≤ k) : Room j A := ⟨r.hd, by have := r.dp; omega, by have := r.un; omega⟩
theorem Room.deeper {k : Nat} {A : Around} (r : Room (k + 1) A) (env : Env) : Room k (A.deeper env) :=
  ⟨r.hd, by have := r.dp; show A.depth + 1 + 3 * k + 5 < _; omega, by have := r.un; show A.units + 3 + 16 * k + 200 < _; omega⟩
theorem Room.depth {k : Nat} {A : Around} (r : Room k A) : A.depth < recursionLimit := by have := r.dp; omega
theorem Room.units {k : Nat} {A : Around} (r : Room k A) : A.units + 64 < cLine := by have := r.un; omega
noncomputable def tNil : TA := fun _ H Q => Q [] H
noncomputable def tCons (ta : TE) (tr : TA) : TA := fun σ H Q => ta σ H fun x H1 => tr σ H1 fun xs H2 => Q (x :: xs) H2
section
variable {X : Cx} {e : Expr} {es : List Expr} {te : TE} {t : TA} {pos : Pos}
theorem pa_nil : PA X [] tNil := fun _ _ _ _ H Q I h => Calls.spliced_nil ⟨[], H, I, .nil, h⟩
theorem pa_cons (ha : PE X e te) (hr : PA X es t) (hs : starEach (e :: es) X.env = (false, eval e X.env) :: starEach es X.env := by rfl) : PA X (e :: es) (tCons te t) := by
  intro pos pins s σ H Q I h
  rw [hs]
  show wpAny _ _ (spliced ((false, eval e X.env) :: backTo pos (starEach es X.env))) _ _ s
  refine Calls.spliced_cons (thn (ha pins s σ H _ I h) fun u s1 ⟨x, H1, I1, r1, q1⟩ => ?_)
  exact thn (hr pos pins s1 σ H1 _ I1 q1) fun us s2 ⟨xs, H2, I2, r2, q2⟩ => ⟨x :: xs, H2, I2, .cons r1 r2, q2⟩
noncomputable def tTup (t : TA) : TE := fun σ H Q => t σ H fun xs H1 => xs.length ≤ sizeLine ∧ ∀ p, H1 p = none → Q (.ref p) (upd H1 p (.tup xs))
noncomputable def tLst (t : TA) : TE := fun σ H Q => t σ H fun xs H1 => xs.length ≤ sizeLine ∧ ∀ p, H1 p = none → Q (.ref p) (upd H1 p (.lst xs))
theorem pe_tup {x1} (h : PA X es t) : PE X (.Tuple es x1 pos) (tTup t) := by
  intro pins s σ H Q I hq
  refine wpAny_Tuple_spliced (thn (h pos pins s σ H _ I hq) fun us s1 ⟨xs, H1, I1, r, z, q⟩ => ⟨by rw [← r.length]; exact z, ?_⟩)
  have hf : H1 s1.heap.objs.size = none := I1.hok.fresh (Nat.le_refl _)
  refine ⟨.ref s1.heap.objs.size, upd H1 s1.heap.objs.size (.tup xs), I1.laid (t' := s1.toks) (fun b u e => Heap.get?_push_of_some _ e) (Nat.le_refl _) ?_, rfl, q _ hf⟩
  exact ⟨z, us, r, ⟨_, Heap.get?_push_size _ rfl, rfl, _, rfl⟩⟩
theorem pe_lst (h : PA X es t) : PE X (.List es pos) (tLst t) := by
  intro pins s σ H Q I hq
  refine wpAny_List_spliced (thn (h pos pins s σ H _ I hq) fun us s1 ⟨xs, H1, I1, r, z, q⟩ => ⟨by rw [← r.length]; exact z, ?_⟩)
  have hf : H1 s1.heap.objs.size = none := I1.hok.fresh (Nat.le_refl _)
  refine ⟨.ref s1.heap.objs.size, upd H1 s1.heap.objs.size (.lst xs), I1.laid (t' := s1.toks) (fun b u e => Heap.get?_push_of_some _ e) (Nat.le_refl _) ?_, rfl, q _ hf⟩
  exact ⟨z, us, 0, r, Heap.get?_push_size _ rfl⟩
end
noncomputable abbrev Sp := List V → Hp → VK → XK → Prop
noncomputable abbrev CXT := List Env → Hp → Shared → XK → Value → Shared → Prop
structure Env0 (P : Program) (w : World) (K : PySem.W.Frag) (mg : Str → Option Value) (base : Heap) (A : Around) (outer : List Env) (s : Shared) (H : Hp) : Prop where
  frames : A.frames = some outer
  mod : Mod K mg base
  bs : ∀ b o, base.get? b = some o → s.heap.get? b = some o ∧ H b = none
  bsz : base.objs.size ≤ s.heap.objs.size
  funs : s.heap.FunFrames base outer
  frf : ∀ b ∈ frs outer, H b = none
  hok : HOk P w H s.heap
  bare : AllBare s.gens
noncomputable def CE (outer : List Env) (P : Program) (w : World) (H : Hp) (s : Shared) (Q : VK) (u : Value) (s' : Shared) : Prop :=
  ∃ v H', s'.os = s.os ∧ AllBare s'.gens ∧ Un (frs outer) [] H H' s.heap s'.heap ∧ HOk P w H' s'.heap ∧ RelV v u ∧ Q v H'
noncomputable def CR (CX : CXT) (outer : List Env) (P : Program) (w : World) (H : Hp) (s : Shared) (Q : VK) (E : XK) (r : Result) (s' : Shared) : Prop :=
  match r with
  | .ok (.ret u) => CE outer P w H s Q u s'
  | .ok _ => False
  | .error e => CX outer H s E e s'
structure FnOk (P : Program) (w : World) (K : PySem.W.Frag) (mg : Str → Option Value) (base : Heap) (CX : CXT) (k : Nat) (f : Addr) (fd : FuncData) (ps : List Str) (sp : Sp) : Prop where
  len : ∀ vs H Q E, sp vs H Q E → vs.length = ps.length
  run : ∀ (A : Around) (outer : List Env) (s : Shared) (H : Hp) (args : Args) (us : List Value) (vs : List V) (Q : VK) (E : XK), Room k A → Env0 P w K mg base A outer s H → BindsTo s fd args (ps.zip us) → Vals vs us → sp vs H Q E →
    codeAny (model P w) A (.call (.ref f) args) (CR CX outer P w H s Q E) s
section
variable {X : Cx} {pins : List (Addr × Obj)} {σ : St} {H : Hp} {s s' : Shared}
theorem Inv.env0 (I : Inv X pins σ H s) : Env0 X.prog X.w X.K X.mg X.base X.A X.stack s H :=
  ⟨I.ok.frames, I.ok.mod, I.bs, Nat.le_trans I.ok.bsz I.sz, I.stack, I.stkFree, I.hok, I.bare⟩
theorem Inv.after {Q : VK} {u : Value} (I : Inv X pins σ H s) (h : CE X.stack X.prog X.w H s Q u s') : EP X pins σ Q u s' := by
  obtain ⟨v, H', os, bare, un, hok, r, q⟩ := h
  obtain ⟨hh, g, d, t, os'⟩ := s'
  obtain rfl : os' = s.os := os
  exact ⟨v, H', I.call (h' := hh) (g' := g) (d' := d) (t' := t) (ch := []) un hok bare (fun b z => absurd z (by simp)), r, q⟩
end
noncomputable def tCall (sp : Sp) (dvs : List V) (E : XK) (t : TA) : TE := fun σ H Q => t σ H fun vs H1 => sp (vs ++ dvs) H1 Q E
noncomputable def Binds (K : PySem.W.Frag) (fd : FuncData) (ps : List Str) (ds : List Value) : Prop :=
  ∀ (s : Shared) (us : List Value), K.In s.heap → (us ++ ds).length = ps.length → BindsTo s fd ⟨us, []⟩ (ps.zip (us ++ ds))
theorem Binds.all {K : PySem.W.Frag} {fd : FuncData} {ps : List Str} (h : ∀ us : List Value, us.length = ps.length → bindArgs fd ⟨us, []⟩ = pure (ps.zip us)) : Binds K fd ps [] := fun s us _ hl => by
  rw [List.append_nil] at hl ⊢
  exact .of_eq (h us hl)
noncomputable def Passes (CX : CXT) (X : Cx) (E : XK) : Prop := ∀ (pins : List (Addr × Obj)) (σ : St) (H : Hp) (s : Shared) (e : Value) (s' : Shared), Inv X pins σ H s → CX X.stack H s E e s' → X.xe e s'
section
variable {X : Cx} {CX : CXT} {k : Nat} {f C : Addr} {fd : FuncData} {ps : List Str} {sp : Sp} {dvs : List V} {ds : List Value} {E : XK} {x m : Str} {p pos apos : Pos} {e o : Expr} {es : List Expr} {ta : TE} {t : TA}
theorem run_fn {pins : List (Addr × Obj)} {σ : St} {H : Hp} {s : Shared} {Q : VK} {us : List Value} {vs : List V} (F : FnOk X.prog X.w X.K X.mg X.base CX k f fd ps sp) (hr : Room k X.A) (hb : Binds X.K fd ps ds) (hd : Vals dvs ds) (hx : Passes CX X E)
    (I : Inv X pins σ H s) (r : Vals vs us) (h : sp (vs ++ dvs) H Q E) : wpAny (model X.prog X.w) X.A (call (.ref f) us) (EP X pins σ Q) X.xe s := by
  have r2 : Vals (vs ++ dvs) (us ++ ds) := r.append hd
  have hl : (us ++ ds).length = ps.length := by rw [← r2.length]; exact F.len _ _ _ _ h
  refine wpAny_call (codeAny_mono (F.run X.A X.stack s H ⟨us, []⟩ (us ++ ds) (vs ++ dvs) Q E hr I.env0 (hb s us I.kIn hl) r2 h) fun r s' hq => ?_)
  cases r with
  | error e => exact hx pins σ H s e s' I hq
  | ok fl =>
    cases fl with
    | ret u => exact I.after hq
    | next => exact False.elim hq
    | brk => exact False.elim hq
    | cont => exact False.elim hq
theorem pe_call (F : FnOk X.prog X.w X.K X.mg X.base CX k f fd ps sp) (hr : Room k X.A) (hg : Gl X x) (hm : X.mg x = some (.ref f)) (hk : PySem.W.keepIn X.K (.ref f) = true) (hb : Binds X.K fd ps ds) (hd : Vals dvs ds) (hx : Passes CX X E)
    (ha : PA X (e :: es) t) (hdb : (x == ("__debug__" : Str)) = false := by decide) (he : starEach (e :: es) X.env = (false, eval e X.env) :: starEach es X.env := by rfl) (hpl : (backTo pos (starEach es X.env)).any (·.1) = false := by rfl) :
    PE X (.Call (.Name x p) (e :: es) [] pos) (tCall sp dvs E t) := by
  intro pins s σ H Q I h
  refine wpAny_Call_Name_kw (ld_glob I hg hm ?_ hdb)
  refine PySem.W.callWith_K (h₀ := X.base) I.ok.mod.kin hk (thn (ha pos pins s σ H _ I h) fun us s1 ⟨vs, H1, I1, r, q⟩ => ⟨I1.kIn, ?_⟩) he hpl
  exact run_fn F hr hb hd hx I1 r q
end
section
variable {X : Cx} {CX : CXT} {k : Nat} {f C : Addr} {fd : FuncData} {ps ks : List Str} {sp : Sp} {E : XK} {x m : Str} {p pos apos kpos : Pos} {e o : Expr} {es : List Expr} {kws : List Keyword} {te ta : TE} {t tk : TA} {nm : Option Str}
variable {g : List Value → List Value → List Value} {gV : List V → List V → List V}
end
structure FnScope (N P : List Str) (sc : Scope) : Prop where
  kind : sc.kind = .function
  co : sc.isCoroutine = false
  gen : sc.isGenerator = false
  nd : N.Nodup
  pre : N.take P.length = P
  par : ∀ x ∈ P, sc.names.lookup x = some .local ∨ sc.names.lookup x = some .cell
  nofree : ∀ y ∈ sc.names, y.2 ≠ .free
theorem bindL_out {kindOf : Str → Option NameKind} {x : Str} : ∀ {binds : List (Str × Value)} {m : Str → Option Value}, (∀ v, (x, v) ∉ binds) → bindL kindOf binds m x = m x
  | [], _, _ => rfl
  | (n, v) :: r, m, h => by
    unfold bindL
    rw [bindL_out fun w hw => h w (List.mem_cons_of_mem _ hw)]
    split
    · have : x ≠ n := by rintro rfl; exact h v List.mem_cons_self
      simp [this]
    · rfl
theorem bindC_out {kindOf : Str → Option NameKind} {x : Str} : ∀ {binds : List (Str × Value)} {m : Str → Option Value}, (∀ v, (x, v) ∉ binds) → bindC kindOf binds m x = m x
  | [], _, _ => rfl
  | (n, v) :: r, m, h => by
    unfold bindC
    rw [bindC_out fun w hw => h w (List.mem_cons_of_mem _ hw)]
    split
    · rfl
    · have : x ≠ n := by rintro rfl; exact h v List.mem_cons_self
      simp [this]
theorem bindL_get {kindOf : Str → Option NameKind} {x : Str} {v : Value} : ∀ {P : List Str} {vs : List Value} {i : Nat} {m : Str → Option Value}, P.Nodup → P[i]? = some x → vs[i]? = some v → kindOf x = some .local →
    bindL kindOf (P.zip vs) m x = some v
  | [], _, _, _, _, h, _, _ => by simp at h
  | _ :: _, [], _, _, _, _, h, _ => by simp at h
  | p :: P, w :: vs, 0, m, nd, h1, h2, hk => by
    simp at h1 h2; subst h1; subst h2
    show bindL kindOf ((p, w) :: P.zip vs) m p = _
    unfold bindL
    rw [bindL_out fun v hv => (List.nodup_cons.mp nd).1 (List.of_mem_zip hv).1, if_pos hk]
    simp
  | p :: P, w :: vs, i + 1, m, nd, h1, h2, hk => by
    show bindL kindOf ((p, w) :: P.zip vs) m x = _
    unfold bindL
    exact bindL_get (i := i) (List.nodup_cons.mp nd).2 (by simpa using h1) (by simpa using h2) hk
theorem bindC_get {kindOf : Str → Option NameKind} {x : Str} {v : Value} : ∀ {P : List Str} {vs : List Value} {i : Nat} {m : Str → Option Value}, P.Nodup → P[i]? = some x → vs[i]? = some v → kindOf x ≠ some .local →
    bindC kindOf (P.zip vs) m x = some v
  | [], _, _, _, _, h, _, _ => by simp at h
  | _ :: _, [], _, _, _, _, h, _ => by simp at h
  | p :: P, w :: vs, 0, m, nd, h1, h2, hk => by
    simp at h1 h2; subst h1; subst h2
    show bindC kindOf ((p, w) :: P.zip vs) m p = _
    unfold bindC
    rw [bindC_out fun v hv => (List.nodup_cons.mp nd).1 (List.of_mem_zip hv).1, if_neg hk]
    simp
  | p :: P, w :: vs, i + 1, m, nd, h1, h2, hk => by
    show bindC kindOf ((p, w) :: P.zip vs) m x = _
    unfold bindC
    exact bindC_get (i := i) (List.nodup_cons.mp nd).2 (by simpa using h1) (by simpa using h2) hk
noncomputable def start (N : List Str) (vs : List V) : St := vs.map some ++ List.replicate (N.length - vs.length) none
noncomputable def cxOf (CX : CXT) (P : Program) (w : World) (K : PySem.W.Frag) (mg : Str → Option Value) (base : Heap) (N : List Str) (qual : Str) (scope : Scope) (f : Addr) (cd : Value) (A : Around) (outer : List Env) (s : Shared) (H : Hp) (E : XK) : Cx where
  prog := P
  w := w
  K := K
  mg := mg
  base := base
  A := A.deeper (envOfC qual scope s.heap.objs.size f cd)
  N := N
  s₀ := s
  H₀ := H
  env := envOfC qual scope s.heap.objs.size f cd
  outer := outer
  stack := envOfC qual scope s.heap.objs.size f cd :: outer
  ex := []
  calm := true
  fn := fun _ => true
  pn := []
  xe := fun e s' => wpAny (model P w) (A.deeper (envOfC qual scope s.heap.objs.size f cd)) (leaving (envOfC qual scope s.heap.objs.size f cd) e) (fun _ s'' => CX outer H s E e s'') (fun e' s'' => CX outer H s E e' s'') s'
theorem cell_has {sc : Scope} {n : Nat} {x : Str} (h : sc.names.lookup x = some .cell) : ∃ c, (cellsFrom n sc.names []).lookup x = some c := by
  have q := PySem.W.cellsFrom_some sc.names n [] (.inl h)
  exact Option.isSome_iff_exists.mp q
theorem inv_start {CX : CXT} {P : Program} {w : World} {K : PySem.W.Frag} {mg : Str → Option Value} {base : Heap} {N ps : List Str} {qual : Str} {scope : Scope} {f : Addr} {cd : Value} {A : Around} {outer : List Env} {s s1 : Shared} {H : Hp} {E : XK} {us : List Value} {vs : List V}
    (S : FnScope N ps scope) (hd : A.handled = none) (e0 : Env0 P w K mg base A outer s H) (hl : vs.length = ps.length) (r : Vals vs us)
    (x : InCallC s s.heap.objs.size (bindL (envOfC qual scope s.heap.objs.size f cd).kindOf (ps.zip us) fun _ => none) (cellsFrom (s.heap.objs.size + 1) scope.names []) (bindC (envOfC qual scope s.heap.objs.size f cd).kindOf (ps.zip us) fun _ => none) s1) :
    Inv (cxOf CX P w K mg base N qual scope f cd A outer s H E) [] (start N vs) H s1 := by
  have hpl : ps.length ≤ N.length := by have := congrArg List.length S.pre; rw [List.length_take] at this; omega
  obtain ⟨h1, tk, rfl, hk⟩ := x.done
  have noA : ∀ b : Addr, b ∉ (cxOf CX P w K mg base N qual scope f cd A outer s H E).ex := fun b z => absurd (show b ∈ ([] : List Addr) from z) (by simp)
  refine ⟨⟨e0.mod, S.kind, rfl, rfl, Nat.le_refl _, fun y z c h1 h2 => ?_, fun y hy => ?_, fun y c _ h => ?_, fun _ => hd, Around.frames_deeper e0.frames, .inr ⟨rfl, rfl⟩, fun b z => absurd z (noA b), e0.bs, e0.bsz, fun b _ _ => noA b, fun b z => absurd z (noA b), e0.funs, e0.frf⟩,
    rfl, e0.bare, Un.kept hk, ⟨_, x.toInCall.ns, fun i y v h1 h2 h3 => ?_⟩, fun y c h => ⟨_, x.cell y c h⟩, e0.hok.fresh (Nat.le_refl _), fun y c h => ?_, fun p hp => absurd (show p ∈ ([] : List (Addr × Obj)) from hp) (by simp), e0.hok.kept hk, ?_⟩
  · exact name_of_addr x.apart (PySem.mem_of_lookup h1) (PySem.mem_of_lookup h2)
  · have hy : scope.names.lookup y = some .cell ∨ scope.names.lookup y = some .free := hy
    rcases hy with hy | hy
    · exact cell_has hy
    · exact absurd rfl (S.nofree _ (PySem.mem_of_lookup hy))
  · exact Nat.le_of_lt (x.above y c (PySem.mem_of_lookup h))
  · have hi : i < vs.length := by
      unfold start at h2
      by_cases hi : i < vs.length
      · exact hi
      · rw [List.getElem?_append_right (by simpa using hi)] at h2
        rw [List.getElem?_replicate] at h2
        split at h2 <;> cases h2
    have ha : vs[i]? = some v := by
      unfold start at h2
      rw [List.getElem?_append_left (by simpa using hi), List.getElem?_map] at h2
      cases e : vs[i]? with
      | none => rw [e] at h2; cases h2
      | some a => rw [e] at h2; cases h2; rfl
    obtain ⟨u, hu, rv⟩ := r.get ha
    have hp : ps[i]? = some y := by
      rw [← S.pre, List.getElem?_take_of_lt (by omega)]; exact h1
    have ndP : ps.Nodup := by rw [← S.pre]; exact S.nd.sublist (List.take_sublist _ _)
    refine ⟨u, rv, ?_⟩
    rcases S.par y (List.mem_of_getElem? hp) with k | k
    · exact .inl ⟨k, bindL_get ndP hp hu k⟩
    · obtain ⟨c, e⟩ := cell_has (n := s.heap.objs.size + 1) k
      refine .inr ⟨.inl k, c, e, ?_⟩
      have q := x.cell y c e
      rw [bindC_get ndP hp hu (by show scope.names.lookup y ≠ _; rw [k]; decide)] at q
      exact q
  · exact e0.hok.fresh (Nat.le_of_lt (x.above y c (PySem.mem_of_lookup h)))
  · unfold start
    show _ = N.length
    rw [List.length_append, List.length_map, List.length_replicate]
    omega
theorem fn_of {CX : CXT} {P : Program} {w : World} {K : PySem.W.Frag} {mg : Str → Option Value} {base : Heap} {k : Nat} {f : Addr} {name qual : Str} {params : Arguments} {body : List Stmt} {scope : Scope} {dV kV doc pm cdv ct oc : Value} {an od : Option Addr}
    {osl : Array (Option Value)} {N ps : List Str} {sp : Sp} (lk : K.lookup f = some ⟨oc, od, .func (PySem.W.fnOf name qual params body scope dV kV doc pm an cdv ct), osl⟩) (hcd : PySem.W.codeIn K cdv qual = true) (S : FnScope N ps scope)
    (len : ∀ vs H Q E, sp vs H Q E → vs.length = ps.length)
    (hbody : ∀ (A : Around) (outer : List Env) (s : Shared) (H : Hp) (vs : List V) (Q : VK) (E : XK), Room k (A.deeper (envOfC qual scope s.heap.objs.size f cdv)) → sp vs H Q E →
      ∃ t, PSs (cxOf CX P w K mg base N qual scope f cdv A outer s H E) body t ∧ t { nx := fun _ H' => Q .non H', rt := Q } (start N vs) H) :
    FnOk P w K mg base CX (k + 1) f (PySem.W.fnOf name qual params body scope dV kV doc pm an cdv ct) ps sp := by
  refine ⟨len, fun A outer s H args us vs Q E hr e0 hb r hsp => ?_⟩
  have hl := len _ _ _ _ hsp
  have KX : K.In s.heap := e0.mod.kin.keeps fun b o e => (e0.bs b o e).1
  have lim : s.heap.NoLimit := e0.mod.nolimit.keeps fun b o e => (e0.bs b o e).1
  have hkind : ∀ y ∈ ps.zip us, scope.names.lookup y.1 = some .local ∨ (scope.names.lookup y.1 = some .cell ∧ ((cellsFrom (s.heap.objs.size + 1) scope.names []).lookup y.1).isSome = true) := fun ⟨n, v⟩ hy => by
    rcases S.par n (List.of_mem_zip hy).1 with q | q
    · exact .inl q
    · exact .inr ⟨q, PySem.W.cellsFrom_some _ _ _ (.inl q)⟩
  refine codeAny_call_function hr.depth (KX _ _ lk) rfl S.co S.gen rfl (PySem.W.codeRec_of KX hcd) (hb _ _ _ _ ?_)
  refine wpAny_newFunctionEnv_cells S.kind hkind fun env he s1 x => ?_
  subst he
  refine ⟨lim.keeps x.toInCall.keep, codeAny_func ?_⟩
  obtain ⟨t, ht, hq⟩ := hbody A outer s H vs Q E (hr.deeper _) hsp
  have I : Inv (cxOf CX P w K mg base N qual scope f cdv A outer s H E) [] (start N vs) H s1 := inv_start S hr.hd e0 hl r x
  refine wpAny_mono (ht [] s1 (start N vs) H _ I hq) (fun fl s' hs => ?_) fun e s' hs => hs
  have fin : ∀ {σ' : St} {H' : Hp} {v : V} {u : Value}, Inv (cxOf CX P w K mg base N qual scope f cdv A outer s H E) [] σ' H' s' → RelV v u → Q v H' → CE outer P w H s Q u s' :=
    fun {σ' H' v u} J rv q => ⟨v, H', J.os, J.bare, J.base, J.hok, rv, q⟩
  cases fl with
  | ret u =>
    obtain ⟨v, σ', H', J, rv, q⟩ := hs
    exact fin J rv q
  | next =>
    obtain ⟨σ', H', J, q⟩ := hs
    exact fin (v := V.non) (u := Value.none) J rfl q
  | brk =>
    obtain ⟨_, _, _, q⟩ := hs
    exact False.elim q
  | cont =>
    obtain ⟨_, _, _, q⟩ := hs
    exact False.elim q
end L2
namespace L2
open PySem PySem.Spec PyProof.Rows
section
variable {X : Cx} {x : Str} {p pos : Pos} {e : Expr} {es : List Expr} {t : TA} {id T : String} {r : List V → Hp → VK → Prop}
noncomputable def tCB (r : List V → Hp → VK → Prop) (t : TA) : TE := fun σ H Q => t σ H fun vs H1 => r vs H1 Q
theorem pe_callB (hc : CallR X (.builtin id) r) (hg : Gl X x) (hm : X.mg x = none) (hv : bootBuiltins x = some (.builtin id)) (ha : PA X (e :: es) t) (hn : x ≠ "__name__" := by decide) (hdb : (x == ("__debug__" : Str)) = false := by decide)
    (he : starEach (e :: es) X.env = (false, eval e X.env) :: starEach es X.env := by rfl) (hpl : (backTo pos (starEach es X.env)).any (·.1) = false := by rfl) : PE X (.Call (.Name x p) (e :: es) [] pos) (tCB r t) := by
  intro pins s σ H Q I h
  refine wpAny_Call_Name_kw (ld_blt I hg hm hv ?_ hn hdb)
  exact PyProof.Rows.callWith_builtin1 (thn (ha pos pins s σ H _ I h) fun us s1 ⟨vs, H1, I1, r1, q1⟩ => hc pins s1 σ H1 vs us Q I1 r1 q1) he hpl
theorem pe_callTy (hc : CallR X (.type T) r) (hg : Gl X x) (hm : X.mg x = none) (hv : bootBuiltins x = some (.type T)) (ha : PA X (e :: es) t) (hn : x ≠ "__name__" := by decide) (hdb : (x == ("__debug__" : Str)) = false := by decide)
    (he : starEach (e :: es) X.env = (false, eval e X.env) :: starEach es X.env := by rfl) (hpl : (backTo pos (starEach es X.env)).any (·.1) = false := by rfl) : PE X (.Call (.Name x p) (e :: es) [] pos) (tCB r t) := by
  intro pins s σ H Q I h
  refine wpAny_Call_Name_kw (ld_blt I hg hm hv ?_ hn hdb)
  exact PyProof.Rows.callWith_type1 (thn (ha pos pins s σ H _ I h) fun us s1 ⟨vs, H1, I1, r1, q1⟩ => hc pins s1 σ H1 vs us Q I1 r1 q1) he hpl
end
end L2
namespace HT
open PySem PyProof.Rows
section
open PySem.SeqAt
open PySem.AutoSeq1 (wpAny_loadPart')
open PySem.MeetsSeq PySem.MeetsSeq2 PySem.MeetsSeq3
end
section
variable {prog : Program} {w : World} {A : Around} {E : Value → Shared → Prop} {s : Shared}
theorem cat_tup {t b : Addr} {vs ws : List Value} {Q : Value → Shared → Prop} (ht : IsTup s.heap t vs.toArray) (hb : IsTup s.heap b ws.toArray) (hv : vs ≠ [])
    (h1 : ws = [] → Q (.ref t) s) (h2 : ws ≠ [] → Q (.ref s.heap.objs.size) { s with heap := s.heap.push { cls := .type "tuple", data := .seq (vs ++ ws).toArray } })
    (hsz : vs.length + ws.length ≤ sizeLine) : wpAny (model prog w) A (binaryOp .Add (.ref t) (.ref b)) Q E s := by
  obtain ⟨⟨cls, dd, data, sl⟩, ho, hc, n, hd⟩ := id ht
  obtain ⟨⟨cls2, dd2, data2, sl2⟩, ho2, hc2, n2, hd2⟩ := id hb
  simp only at hc hd hc2 hd2
  subst hc hd hc2 hd2
  have e : vs.toArray ++ ws.toArray = (vs ++ ws).toArray := by simp
  by_cases hw : ws = []
  · exact concat_meets ⟨_, ho, rfl⟩ ⟨_, ho2, rfl⟩ noFill_tuple_add seq_tuple_add PySem.F.slot_tuple_add PySem.F.entry_tuple_add (PySem.F.args_tuple_add_2 _ _)
      (tuple_addW1 t b vs.toArray ws.toArray n n2 dd dd2 sl sl2 (by simpa using hv) (by simp [hw])) ⟨ho, ho2, h1 hw⟩
  · refine concat_meets ⟨_, ho, rfl⟩ ⟨_, ho2, rfl⟩ noFill_tuple_add seq_tuple_add PySem.F.slot_tuple_add PySem.F.entry_tuple_add (PySem.F.args_tuple_add_2 _ _)
      (tuple_addW2 t b vs.toArray ws.toArray n n2 dd dd2 sl sl2 (by simpa using hv) (by simpa using hw) (by rw [List.size_toArray, List.size_toArray]; exact hsz)) ⟨ho, ho2, ?_⟩
    rw [e]
    exact h2 hw
noncomputable def sIx (n d : Nat) : Option Int → Nat
  | none => d
  | some v => if v < 0 then (v + (n : Int)).toNat else min v.toNat n
theorem sIx_none (n d : Nat) : sIx n d none = d := rfl
theorem sIx_le (n d : Nat) (hd : d ≤ n) (o : Option Int) : sIx n d o ≤ n := by
  cases o with
  | none => exact hd
  | some v =>
    show (if v < 0 then (v + (n : Int)).toNat else min v.toNat n) ≤ n
    by_cases hv : v < 0
    · rw [if_pos hv]; omega
    · rw [if_neg hv]; exact Nat.min_le_right _ _
theorem clip_eq (v : Int) (n d : Nat) : (if v < 0 then max (v + (n : Int)) 0 else min v (n : Int)) = ((sIx n d (some v) : Nat) : Int) := by
  show (if v < 0 then max (v + (n : Int)) 0 else min v (n : Int)) = (((if v < 0 then (v + (n : Int)).toNat else min v.toNat n) : Nat) : Int)
  by_cases hv : v < 0
  · simp only [if_pos hv]; omega
  · simp only [if_neg hv]; omega
theorem adjust_gen (lo hi : Option Int) (n : Nat) : Builtin.Slice.sliceAdjust lo hi 1 (n : Int) = (((sIx n 0 lo : Nat) : Int), ((sIx n n hi : Nat) : Int)) := by
  have h1 : ¬ ((1 : Int) < 0) := by omega
  unfold Builtin.Slice.sliceAdjust
  simp only [h1, if_false]
  refine Prod.ext ?_ ?_
  · cases lo with
    | none => rfl
    | some v => exact clip_eq v n 0
  · cases hi with
    | none => rfl
    | some v => exact clip_eq v n n
theorem places_gen (i j : Nat) : Builtin.Slice.slicePlaces (i : Int) (j : Int) 1 = j - i := by
  unfold Builtin.Slice.slicePlaces
  have h1 : (1 : Int) > 0 := by omega
  simp only [h1, if_true, Int.ediv_one]
  split <;> omega
theorem slicePart_ {v : Value} {o : Option Int} {Q : Option Int → Shared → Prop} (p : IsPart v o) (h : Q o s) : wpAny (model prog w) A (Builtin.Slice.slicePartIndex v) Q E s := by
  cases p with
  | none => exact slicePart_none h
  | int i t => exact slicePart_int h
theorem sliceApplied_gen {sl : Addr} {vl vu : Value} {lo hi : Option Int} {n : Nat} {Q : Int × Int × Nat → Shared → Prop} (hs : s.heap.IsSliceOf sl vl vu .none) (pl : IsPart vl lo) (pu : IsPart vu hi)
    (h : Q (((sIx n 0 lo : Nat) : Int), 1, sIx n n hi - sIx n 0 lo) s) : wpAny (model prog w) A (Builtin.Slice.sliceApplied (.ref sl) (pure (n : Int))) Q E s := by
  obtain ⟨os, hos, hcs, hds⟩ := id hs
  unfold Builtin.Slice.sliceApplied Builtin.Slice.sliceFields
  refine wpAny_bind (wpAny_bind (wpAny_field hos hds (x := vl) rfl (wpAny_bind (wpAny_field hos hds (x := vu) rfl (wpAny_bind (wpAny_field hos hds (x := .none) rfl (wpAny_pure ?_)))))))
  refine wpAny_bind (slicePart_none ?_)
  show wpAny _ _ (if ((1 : Int) == 0) = true then _ else _) _ _ s
  rw [if_neg (by decide)]
  refine wpAny_bind (slicePart_ pl (wpAny_bind (slicePart_ pu (wpAny_bind (wpAny_pure ?_)))))
  show wpAny _ _ (match Builtin.Slice.sliceAdjust lo hi 1 (n : Int) with | (lo, hi) => pure (lo, (1 : Int), Builtin.Slice.slicePlaces lo hi 1)) _ _ s
  rw [adjust_gen lo hi n]
  show wpAny _ _ (pure (((sIx n 0 lo : Nat) : Int), (1 : Int), Builtin.Slice.slicePlaces ((sIx n 0 lo : Nat) : Int) ((sIx n n hi : Nat) : Int) 1)) _ _ s
  rw [places_gen]
  exact wpAny_pure h
theorem pick_gen (xs : Array Value) (i k : Nat) : ((List.range k).filterMap fun (m : Nat) => xs[((i : Int) + (m : Int) * 1).toNat]?).toArray = ((xs.toList.drop i).take k).toArray := by
  have e : (fun (m : Nat) => xs[((i : Int) + (m : Int) * 1).toNat]?) = fun m => xs[i + m]? := by
    funext m
    have : ((i : Int) + (m : Int) * 1).toNat = i + m := by omega
    rw [this]
  rw [e]
  have := pick_run xs i k
  rw [List.filterMap_map] at this
  have e2 : ((fun x => xs[x]?) ∘ fun x => i + x) = fun m => xs[i + m]? := rfl
  rw [e2] at this
  rw [this]
theorem getItem_tuple_cut {t sl : Addr} {items : Array Value} {vl vu : Value} {lo hi : Option Int} {Q : Value → Shared → Prop} (ht : IsTup s.heap t items) (hs : s.heap.IsSliceOf sl vl vu .none) (pl : IsPart vl lo) (pu : IsPart vu hi)
    (hw : ¬ (sIx items.size 0 lo = 0 ∧ sIx items.size items.size hi = items.size))
    (h : Q (.ref s.heap.objs.size) { s with heap := s.heap.push { cls := .type "tuple", data := .seq ((items.toList.drop (sIx items.size 0 lo)).take (sIx items.size items.size hi - sIx items.size 0 lo)).toArray } })
    (hsz : items.size ≤ sizeLine) : wpAny (model prog w) A (getItem (.ref t) (.ref sl)) Q E s := by
  have htake : sizeOk (.seq ((items.toList.drop (sIx items.size 0 lo)).take (sIx items.size items.size hi - sIx items.size 0 lo)).toArray) := by
    show ((items.toList.drop (sIx items.size 0 lo)).take (sIx items.size items.size hi - sIx items.size 0 lo)).toArray.size ≤ sizeLine
    rw [List.size_toArray, List.length_take, List.length_drop, Array.length_toList]
    omega
  have hj : sIx items.size items.size hi ≤ items.size := sIx_le _ _ (Nat.le_refl _) hi
  obtain ⟨os, hos, hcs, hds⟩ := id hs
  have hTs : s.TypeIs (.ref sl) "slice" := ⟨os, hos, hcs⟩
  unfold getItem
  try with_reducible refine wpAny_holding ?_
  first | refine wpAny_bind (wpAny_pure ?_) | skip
  refine wpAny_bind (wpAny_sequenceKey ht.typeIs (by decide) ?_)
  refine wpAny_bind (wpAny_callSpecial?_slot (name := Str.ofString "__getitem__") ht.typeIs PyProof.Rows.slot_tuple_getitem
    (wpAny_call_entry PyProof.Rows.slot_tuple_getitem ht.typeIs entry_tuple_getitem ?_ (args_tuple_getitem _ _)))
  show wpAny _ _ (Builtin.Tuple.tupleItemsOf (.ref t) >>= _) _ _ s
  refine wpAny_bind (tupleItemsOf_ ht ?_)
  refine wpAny_bind (wpAny_typeOf hTs ?_)
  rw [if_pos (by decide)]
  refine wpAny_bind (sliceApplied_gen hs pl pu ?_)
  have hno : ¬ ((((sIx items.size 0 lo : Nat) : Int) == 0 && (1 : Int) == 1 && (sIx items.size items.size hi - sIx items.size 0 lo) == items.size) = true) := by
    intro q
    rw [Bool.and_eq_true, Bool.and_eq_true] at q
    have q1 : ((sIx items.size 0 lo : Nat) : Int) = 0 := eq_of_beq q.1.1
    have q2 : sIx items.size items.size hi - sIx items.size 0 lo = items.size := eq_of_beq q.2
    exact hw ⟨by omega, by omega⟩
  show wpAny _ _ (if (((sIx items.size 0 lo : Nat) : Int) == 0 && (1 : Int) == 1 && (sIx items.size items.size hi - sIx items.size 0 lo) == items.size) = true then _ else _) _ _ s
  rw [if_neg hno, pick_gen]
  first
    | exact wpAny_bind (m := Builtin.Tuple.tupleExact _) (wpAny_newObj_type (wpAny_pure ⟨_, rfl, wpAny_pure h⟩) htake)
    | exact wpAny_bind (m := Builtin.Tuple.tupleExact _) (wpAny_newObj_type (wpAny_bind (wpAny_pure (wpAny_pure ⟨_, rfl, wpAny_pure h⟩))) htake)
    | exact wpAny_bind (wpAny_bind (m := Builtin.Tuple.tupleExact _) (wpAny_newObj_type (wpAny_pure (wpAny_pure ⟨_, rfl, wpAny_pure h⟩)) htake))
    | exact wpAny_bind (wpAny_bind (m := Builtin.Tuple.tupleExact _) (wpAny_newObj_type (wpAny_pure ⟨_, rfl, wpAny_pure h⟩) htake))
end
end HT
namespace L2
open PySem PySem.Spec PyProof.Rows
noncomputable abbrev TO := St → Hp → (Option Int → Hp → Prop) → Prop
noncomputable def PO (X : Cx) (e : Option Expr) (t : TO) : Prop :=
  ∀ (pins : List (Addr × Obj)) (s : Shared) (σ : St) (H : Hp) (Q : Option Int → Hp → Prop), Inv X pins σ H s → t σ H Q →
    wpAny (model X.prog X.w) X.A (evalPart e X.env) (fun u s' => ∃ o H', Inv X pins σ H' s' ∧ IsPart u o ∧ Q o H') X.xe s
noncomputable def tNoPart : TO := fun _ H Q => Q none H
noncomputable def tPart (t : TE) : TO := fun σ H Q => t σ H fun x H1 => ∃ i, x = .int i ∧ Q (some i) H1
theorem intsAre_of {ns : List Int} : ∀ {us : List Value}, Vals (ns.map V.int) us → IntsAre us ns := by
  induction ns with
  | nil => intro us r; rw [List.map_nil] at r; cases r; exact .nil
  | cons n ns ih =>
    intro us r
    rw [List.map_cons] at r
    cases r with
    | cons r1 r2 =>
      obtain ⟨t, e⟩ := r1
      subst e
      exact .cons n t (ih r2)
section
variable {X : Cx} {e : Expr} {te : TE} {lo hi : Option Expr} {tl th : TO} {pos p2 : Pos}
theorem po_none : PO X none tNoPart := by
  intro pins s σ H Q I h
  rw [evalPart_none]
  exact wpAny_pure ⟨none, H, I, .none, h⟩
theorem po_some (h : PE X e te) : PO X (some e) (tPart te) := by
  intro pins s σ H Q I hw
  rw [evalPart_some]
  refine thn (h pins s σ H _ I hw) fun u s1 ⟨x, H1, I1, r1, q1⟩ => ?_
  obtain ⟨i, rfl, q⟩ := q1
  obtain ⟨t, rfl⟩ := r1
  exact ⟨some i, H1, I1, .int i t, q⟩
noncomputable def SlR (X : Cx) (r : V → Option Int → Option Int → Hp → VK → Prop) : Prop :=
  ∀ (pins : List (Addr × Obj)) (s : Shared) (σ : St) (H : Hp) (x : V) (v vl vu : Value) (lo hi : Option Int) (sl : Addr) (Q : VK), Inv X pins σ H s → RelV x v → s.heap.IsSliceOf sl vl vu .none → IsPart vl lo → IsPart vu hi → r x lo hi H Q →
    ∃ T id, typeLookup (.type T) "__getitem__" = pure (some (.builtin id)) ∧ s.TypeIs v T ∧ wpAny (model X.prog X.w) X.A (getItem v (.ref sl)) (EP X pins σ Q) X.xe s
noncomputable def tSl (r : V → Option Int → Option Int → Hp → VK → Prop) (te : TE) (tl th : TO) : TE := fun σ H Q => te σ H fun x H1 => tl σ H1 fun l H2 => th σ H2 fun u H3 => r x l u H3 Q
theorem pe_slice {r : V → Option Int → Option Int → Hp → VK → Prop} (hr : SlR X r) (he : PE X e te) (hl : PO X lo tl) (hu : PO X hi th) : PE X (.Subscript e (.Slice lo hi none p2) pos) (tSl r te tl th) := by
  intro pins s σ H Q I h
  refine Subscript_ (thn (he pins s σ H _ I h) fun v s1 ⟨x, H1, I1, r1, q1⟩ => ?_)
  refine wpAny_Slice (thn (hl pins s1 σ H1 _ I1 q1) fun vl s2 ⟨l, H2, I2, pl, q2⟩ => thn (hu pins s2 σ H2 _ I2 q2) fun vu s3 ⟨u, H3, I3, pu, q3⟩ => ?_)
  rw [evalPart_none]
  refine wpAny_pure ?_
  have I4 : Inv X pins σ H3 { s3 with heap := s3.heap.push { cls := .type "slice", data := .fields #[vl, vu, .none] } } := I3.kept (t' := s3.toks) fun b ob q => Heap.get?_push_of_some _ q
  obtain ⟨T, id, hT, ht, hg⟩ := hr pins { s3 with heap := s3.heap.push { cls := .type "slice", data := .fields #[vl, vu, .none] } } σ H3 x v vl vu l u s3.heap.objs.size Q I4 r1 (Heap.IsSliceOf.new ..) pl pu q3
  show wpAny (model X.prog X.w) X.A (subscriptTail e (.Slice lo hi none p2) v (.ref s3.heap.objs.size)) (EP X pins σ Q) X.xe { s3 with heap := s3.heap.push { cls := .type "slice", data := .fields #[vl, vu, .none] } }
  exact tail_any (ops := [.ref s3.heap.objs.size, v]) ht hT hg (by with_unfolding_all rfl)
noncomputable def cutV (xs : List V) (lo hi : Option Int) : List V := (xs.drop (HT.sIx xs.length 0 lo)).take (HT.sIx xs.length xs.length hi - HT.sIx xs.length 0 lo)
theorem cutV_length (xs : List V) (lo hi : Option Int) : (cutV xs lo hi).length ≤ xs.length := by
  unfold cutV
  rw [List.length_take, List.length_drop]
  omega
noncomputable def rSlT (K : PySem.W.Frag) : V → Option Int → Option Int → Hp → VK → Prop := fun x lo hi H Q => ∃ a xs, x = .ref a ∧ SqT K H a xs ∧
  ¬ (HT.sIx xs.length 0 lo = 0 ∧ HT.sIx xs.length xs.length hi = xs.length) ∧ ∀ p, H p = none → Q (.ref p) (upd H p (.tup (cutV xs lo hi)))
theorem sl_tup : SlR X (rSlT X.K) := by
  intro pins s σ H x v vl vu lo hi sl Q I rx hs pl pu h
  obtain ⟨a, xs, rfl, hx, hw, q⟩ := h
  cases rx
  obtain ⟨its, r, ht, hz⟩ := I.tuple hx
  have hlen : its.toArray.size = xs.length := by rw [List.size_toArray]; exact r.length.symm
  refine ⟨"tuple", _, PyProof.Rows.slot_tuple_getitem.lookup, ht.typeIs, ?_⟩
  refine HT.getItem_tuple_cut ht hs pl pu (by rw [hlen]; exact hw) ?_ (by rw [hlen]; exact hz)
  rw [hlen]
  refine ⟨.ref s.heap.objs.size, _, I.laid (t' := s.toks) (o := .tup (cutV xs lo hi)) (fun b ob q => Heap.get?_push_of_some _ q) (Nat.le_refl _) ?_, rfl, q _ (I.hok.fresh (Nat.le_refl _))⟩
  exact ⟨Nat.le_trans (cutV_length xs lo hi) hz, _, (r.drop (HT.sIx xs.length 0 lo)).take (HT.sIx xs.length xs.length hi - HT.sIx xs.length 0 lo), IsTup.new _ _⟩
noncomputable def rCatT (K : PySem.W.Frag) : R2 := fun x y H Q => ∃ a b xs ys, x = .ref a ∧ y = .ref b ∧ SqT K H a xs ∧ SqT K H b ys ∧ xs ≠ [] ∧ xs.length + ys.length ≤ sizeLine ∧
  (ys = [] → Q (.ref a) H) ∧ (ys ≠ [] → ∀ p, H p = none → Q (.ref p) (upd H p (.tup (xs ++ ys))))
theorem Vals.nil_iff {xs : List V} {us : List Value} (r : Vals xs us) : us = [] ↔ xs = [] := by
  cases r with
  | nil => simp
  | cons _ _ => simp
theorem op_catT : OpR X (binaryOp .Add) (rCatT X.K) := by
  intro pins s σ H x y v u Q I rx ry h
  obtain ⟨a, b, xs, ys, rfl, rfl, ha, hb, hx, hz, q1, q2⟩ := h
  cases rx
  cases ry
  obtain ⟨its, r1, p1, _⟩ := I.tuple ha
  obtain ⟨its2, r2, p2, _⟩ := I.tuple hb
  refine HT.cat_tup p1 p2 (fun z => hx (r1.nil_iff.mp z)) (fun z => ⟨.ref a, H, I, rfl, q1 (r2.nil_iff.mp z)⟩) (fun z => ?_) (by rw [← r1.length, ← r2.length]; exact hz)
  refine ⟨.ref s.heap.objs.size, _, I.laid (t' := s.toks) (o := .tup (xs ++ ys)) (fun b ob q => Heap.get?_push_of_some _ q) (Nat.le_refl _) ?_, rfl, q2 (fun w => z (r2.nil_iff.mpr w)) _ (I.hok.fresh (Nat.le_refl _))⟩
  exact ⟨by rw [List.length_append]; exact hz, _, r1.append r2, IsTup.new _ _⟩
end
end L2
namespace L2
open PySem PySem.Spec PyProof.Rows
noncomputable def ixN (n : Nat) (i : Int) : Option Nat := if 0 ≤ i then (if i < n then some i.toNat else none) else if -(n : Int) ≤ i then some (i + n).toNat else none
noncomputable def atI {α : Type} (xs : List α) (i : Int) : Option α := (ixN xs.length i).bind fun j => xs[j]?
theorem ixN_seq {n : Nat} {i : Int} {j : Nat} (h : ixN n i = some j) : seqIndex? i n = some j ∧ j < n ∧ -(n : Int) ≤ i ∧ i < n := by
  unfold ixN at h
  by_cases h0 : 0 ≤ i
  · rw [if_pos h0] at h
    by_cases h1 : i < n
    · rw [if_pos h1] at h
      have e : i.toNat = j := Option.some.inj h
      exact ⟨by rw [seqIndex_of h0 h1, e], by omega, by omega, h1⟩
    · rw [if_neg h1] at h; cases h
  · rw [if_neg h0] at h
    by_cases h1 : -(n : Int) ≤ i
    · rw [if_pos h1] at h
      have e : (i + n).toNat = j := Option.some.inj h
      exact ⟨by rw [seqIndex_neg (by omega) h1, e], by omega, h1, by omega⟩
    · rw [if_neg h1] at h; cases h
theorem atI_get {α : Type} {xs : List α} {i : Int} {v : α} (h : atI xs i = some v) : ∃ j, seqIndex? i xs.length = some j ∧ xs[j]? = some v ∧ j < xs.length ∧ -(xs.length : Int) ≤ i ∧ i < xs.length := by
  unfold atI at h
  cases e : ixN xs.length i with
  | none => rw [e] at h; cases h
  | some j =>
    rw [e] at h
    obtain ⟨h1, h2, h3, h4⟩ := ixN_seq e
    exact ⟨j, h1, h, h2, h3, h4⟩
theorem atI_nat {α : Type} {xs : List α} {j : Nat} {v : α} (h : xs[j]? = some v) : atI xs (j : Int) = some v := by
  have hj : j < xs.length := (List.getElem?_eq_some_iff.mp h).1
  have e : ixN xs.length (j : Int) = some j := by
    unfold ixN
    rw [if_pos (by omega), if_pos (by omega)]; simp
  unfold atI; rw [e]; exact h
noncomputable def PlainIx (b : Expr) : Prop := ∀ o i, subscripted b false o i = operate [o, i] (getItem o i)
noncomputable def IxR (X : Cx) (r : R2) : Prop :=
  ∀ (value slice : Expr) (pins : List (Addr × Obj)) (s : Shared) (σ : St) (H : Hp) (x y : V) (v u : Value) (Q : VK), Inv X pins σ H s → RelV x v → RelV y u → r x y H Q →
    subscripted slice false v u = operate [v, u] (getItem v u) → wpAny (model X.prog X.w) X.A (subscriptTail value slice v u) (EP X pins σ Q) X.xe s
noncomputable def MtR (X : Cx) (id : String) (r : V → List V → Hp → VK → Prop) : Prop :=
  ∀ (pins : List (Addr × Obj)) (s : Shared) (σ : St) (H : Hp) (x : V) (xs : List V) (v : Value) (us : List Value) (Q : VK), Inv X pins σ H s → RelV x v → Vals xs us → r x xs H Q →
    wpAny (model X.prog X.w) X.A (call (.builtin id) (v :: us)) (EP X pins σ Q) X.xe s
section
variable {X : Cx} {a b : Expr} {ta tb : TE} {pos : Pos}
theorem pe_ix {r : R2} (hr : IxR X r) (ha : PE X a ta) (hb : PE X b tb) (hs : PlainIx b) : PE X (.Subscript a b pos) (tOp r ta tb) := by
  intro pins s σ H Q I h
  exact Subscript_ (binT ha hb I h fun v u s2 x y H2 I2 rx ry q => hr a b pins s2 σ H2 x y v u Q I2 rx ry q (hs _ _))
noncomputable def rIxL (K : PySem.W.Frag) : R2 := fun x y H Q => ∃ p xs i v, x = .ref p ∧ y = .int i ∧ SqL K H p xs ∧ atI xs i = some v ∧ Q v H
noncomputable def rIxT (K : PySem.W.Frag) : R2 := fun x y H Q => ∃ p xs i v, x = .ref p ∧ y = .int i ∧ SqT K H p xs ∧ atI xs i = some v ∧ Q v H
theorem ix_list : IxR X (rIxL X.K) := by
  intro value slice pins s σ H x y v u Q I rx ry h hs
  obtain ⟨p, xs, i, z, rfl, rfl, hq, he, q⟩ := h
  cases rx
  obtain ⟨t, rfl⟩ := ry
  obtain ⟨its, r, pl, hz⟩ := I.list hq
  obtain ⟨j, h1, h2, h3, h4, h5⟩ := atI_get he
  obtain ⟨w, ew, rw'⟩ := r.get h2
  have hl := r.length
  have hn := line63
  have fin : EP X pins σ Q w s := ⟨z, H, I, rw', q⟩
  by_cases h0 : 0 ≤ i
  · have hj : i.toNat = j := by
      rw [seqIndex_of h0 h5] at h1
      exact Option.some.inj h1
    exact item_listR pl.isList h0 (by omega) (by rw [hj]; simpa using ew) fin hs
  · have hj : (i + (its.toArray.size : Int)).toNat = j := by
      rw [seqIndex_neg (by omega) h4] at h1
      rw [List.size_toArray, ← hl]
      exact Option.some.inj h1
    exact subscriptTail_builtinR (x := w) pl.isList.typeIs slot_list_getitem.lookup
      (wpAny_getItem_list_neg (Q := fun r s' => r = w ∧ EP X pins σ Q r s') pl.isList (by omega) (by rw [List.size_toArray] <;> omega) (by omega) (by rw [hj]; simpa using ew) ⟨rfl, fin⟩) hs
theorem ix_tup : IxR X (rIxT X.K) := by
  intro value slice pins s σ H x y v u Q I rx ry h hs
  obtain ⟨p, xs, i, z, rfl, rfl, hq, he, q⟩ := h
  cases rx
  obtain ⟨t, rfl⟩ := ry
  obtain ⟨its, r, pl, hz⟩ := I.tuple hq
  obtain ⟨j, h1, h2, h3, h4, h5⟩ := atI_get he
  obtain ⟨w, ew, rw'⟩ := r.get h2
  have hl := r.length
  have hn := line63
  have fin : EP X pins σ Q w s := ⟨z, H, I, rw', q⟩
  exact subscriptTail_builtinR (x := w) pl.typeIs slot_tuple_getitem.lookup
    (getItem_tuple (j := j) (Q := fun r s' => r = w ∧ EP X pins σ Q r s') pl (by omega) (by omega) (by rw [List.size_toArray, ← hl]; exact h1) (by simpa using ew) ⟨rfl, fin⟩) hs
theorem mapSeq_set (its : List Value) (n j : Nat) (u : Value) : Obj.mapSeq (·.setIfInBounds j u) { cls := .type "list", data := .seq its.toArray n } = { cls := .type "list", data := .seq (its.set j u).toArray n } := by
  simp [Obj.mapSeq]
theorem Inv.lst {pins : List (Addr × Obj)} {σ : St} {H : Hp} {s : Shared} {p : Addr} {xs : List V} (I : Inv X pins σ H s) (h : H p = some (.lst xs)) :
    ∃ (its : List Value) (n : Nat), Vals xs its ∧ s.heap.get? p = some { cls := .type "list", data := .seq its.toArray n } ∧ xs.length ≤ sizeLine := by
  obtain ⟨z, its, n, r, e⟩ := I.hok p _ h
  exact ⟨its, n, r, e, z⟩
theorem Inv.lstUpd {pins : List (Addr × Obj)} {σ : St} {H : Hp} {s : Shared} {p : Addr} {xs ys : List V} {its its' : List Value} {n n' : Nat} {f : Obj → Obj} (I : Inv X pins σ H s) (h : H p = some (.lst xs))
    (ho : s.heap.get? p = some { cls := .type "list", data := .seq its.toArray n }) (hf : f { cls := .type "list", data := .seq its.toArray n } = { cls := .type "list", data := .seq its'.toArray n' }) (r : Vals ys its') (hz : ys.length ≤ sizeLine) (t : Nat) :
    Inv X pins σ (upd H p (.lst ys)) { s with heap := s.heap.update p f, toks := t } := by
  have e : (s.heap.update p f).get? p = some { cls := .type "list", data := .seq its'.toArray n' } := by
    rw [Heap.get?_update_self f ho (by rw [hf] <;> rfl), hf]
  refine I.write (x := p) (e := p) (by rw [h]; trivial) (.inl rfl) (fun b u hb q => (Heap.get?_update_other _ _ (Ne.symm hb)).trans q) ⟨_, e⟩ ?_
  exact ⟨hz, its', n', r, e⟩
noncomputable def rSetL : V → V → V → Hp → (Hp → Prop) → Prop := fun o i v H Q => ∃ p xs k j, o = .ref p ∧ i = .int k ∧ H p = some (.lst xs) ∧ ixN xs.length k = some j ∧ Q (upd H p (.lst (xs.set j v)))
theorem set_list : PSet X rSetL := by
  intro pins s σ H o i v ov iv u Q I ro ri rv h
  obtain ⟨p, xs, k, j, rfl, rfl, hp, hj, q⟩ := h
  cases ro
  obtain ⟨t, rfl⟩ := ri
  obtain ⟨its, n, r, ho, hz⟩ := I.lst hp
  obtain ⟨h1, h2, h3, h4⟩ := ixN_seq hj
  have hl := r.length
  have hn := line63
  have I' : Inv X pins σ (upd H p (.lst (xs.set j v))) { s with heap := s.heap.update p (Obj.mapSeq (·.setIfInBounds j u)) } :=
    I.lstUpd hp ho (mapSeq_set its n j u) (r.set rv j) (by rw [List.length_set]; exact hz) s.toks
  by_cases h0 : 0 ≤ k
  · have hk : k.toNat = j := by
      rw [seqIndex_of h0 h4] at h1
      exact Option.some.inj h1
    exact PySem.W.ki_setAt ho h0 (by omega) (by rw [List.size_toArray, ← hl]; exact h4) (by rw [hk]; exact ⟨_, I', q⟩)
  · have hk : (k + (its.toArray.size : Int)).toNat = j := by
      rw [seqIndex_neg (by omega) h3] at h1
      rw [List.size_toArray, ← hl]
      exact Option.some.inj h1
    exact PySem.W.ki_setBack ho (by omega) (by rw [List.size_toArray, ← hl]; exact h3) (by omega) (by rw [hk]; exact ⟨_, I', q⟩)
theorem slice_bounds (lo hi : Option Int) (n : Nat) : (sliceBounds lo hi none n).1 = ((HT.sIx n 0 lo : Nat) : Int) ∧ (sliceBounds lo hi none n).2.1 = ((HT.sIx n n hi : Nat) : Int) ∧ (sliceBounds lo hi none n).2.2 = 1 := by
  refine ⟨?_, ?_, rfl⟩
  · cases lo with
    | none => simp [sliceBounds, HT.sIx]
    | some i =>
      simp only [sliceBounds, HT.sIx, Option.getD_none, show (1 : Int) > 0 by decide, if_true]
      by_cases h : i < 0
      · simp only [h, if_true] <;> omega
      · simp only [h, if_false] <;> omega
  · cases hi with
    | none => simp [sliceBounds, HT.sIx]
    | some i =>
      simp only [sliceBounds, HT.sIx, Option.getD_none, show (1 : Int) > 0 by decide, if_true]
      by_cases h : i < 0
      · simp only [h, if_true] <;> omega
      · simp only [h, if_false] <;> omega
theorem slicePick_cut (its : List Value) (lo hi : Option Int) : slicePick its.toArray lo hi none = ((its.drop (HT.sIx its.length 0 lo)).take (HT.sIx its.length its.length hi - HT.sIx its.length 0 lo)).toArray := by
  obtain ⟨h1, h2, h3⟩ := slice_bounds lo hi its.toArray.size
  unfold slicePick
  rw [h1, h2, h3]
  simp only [sliceRange_one, pick_run, List.size_toArray] <;> rfl
noncomputable def rSlL (K : PySem.W.Frag) : V → Option Int → Option Int → Hp → VK → Prop := fun x lo hi H Q => ∃ a xs, x = .ref a ∧ SqL K H a xs ∧ ∀ p, H p = none → Q (.ref p) (upd H p (.lst (cutV xs lo hi)))
theorem sl_list : SlR X (rSlL X.K) := by
  intro pins s σ H x v vl vu lo hi sl Q I rx hs pl pu h
  obtain ⟨a, xs, rfl, hx, q⟩ := h
  cases rx
  obtain ⟨its, r, ht, hz⟩ := I.list hx
  have hlen := r.length
  refine ⟨"list", _, slot_list_getitem.lookup, ht.isList.typeIs, ?_⟩
  refine wpAny_getItem_list_slice ht.isList hs pl pu .none (by simp) ?_ (by rw [List.size_toArray] <;> omega)
  rw [slicePick_cut, ← hlen]
  refine ⟨.ref s.heap.objs.size, _, I.laid (t' := s.toks) (o := .lst (cutV xs lo hi)) (fun b ob q => Heap.get?_push_of_some _ q) (Nat.le_refl _) ?_, rfl, q _ (I.hok.fresh (Nat.le_refl _))⟩
  exact ⟨Nat.le_trans (cutV_length xs lo hi) hz, _, 0, (r.drop (HT.sIx xs.length 0 lo)).take (HT.sIx xs.length xs.length hi - HT.sIx xs.length 0 lo), Heap.get?_push_size _ rfl⟩
noncomputable def flatV : V → Bool
  | .non => true
  | .bl _ => true
  | .int _ => true
  | .str _ => true
  | _ => false
noncomputable def eqV : V → V → Bool
  | .non, .non => true
  | .bl a, .bl b => a == b
  | .bl a, .int b => (if a then 1 else 0) == b
  | .int a, .bl b => a == (if b then 1 else 0)
  | .int a, .int b => a == b
  | .str a, .str b => a == b
  | _, _ => false
theorem eqAt_V {A : Around} {s : Shared} {y x : V} {u v : Value} (ry : RelV y u) (rx : RelV x v) (fy : flatV y = true) (fx : flatV x = true) : SeqAt.EqAt A s u v (eqV y x) := by
  cases y with
  | non =>
    cases ry
    cases x with
    | non => cases rx; exact SeqAt.EqAt.same _
    | bl b => cases rx; exact SeqAt.EqAt.none_bool b
    | int b => obtain ⟨t, rfl⟩ := rx; exact SeqAt.EqAt.none_int b t
    | str b => obtain ⟨t, rfl⟩ := rx; exact SeqAt.EqAt.none_str b t
    | _ => exact absurd (show false = true from fx) Bool.false_ne_true
  | bl a =>
    cases ry
    cases x with
    | non => cases rx; exact SeqAt.EqAt.bool_none a
    | bl b => cases rx; exact SeqAt.EqAt.bool_bool a b
    | int b => obtain ⟨t, rfl⟩ := rx; exact SeqAt.EqAt.bool_int a b t
    | str b => obtain ⟨t, rfl⟩ := rx; exact SeqAt.EqAt.bool_str a b t
    | _ => exact absurd (show false = true from fx) Bool.false_ne_true
  | int a =>
    obtain ⟨t', rfl⟩ := ry
    cases x with
    | non => cases rx; exact SeqAt.EqAt.int_none a t'
    | bl b => cases rx; exact SeqAt.EqAt.int_bool a t' b
    | int b => obtain ⟨t, rfl⟩ := rx; exact SeqAt.EqAt.int_int a t' b t
    | str b => obtain ⟨t, rfl⟩ := rx; exact SeqAt.EqAt.int_str a t' b t
    | _ => exact absurd (show false = true from fx) Bool.false_ne_true
  | str a =>
    obtain ⟨t', rfl⟩ := ry
    cases x with
    | non => cases rx; exact SeqAt.EqAt.str_none a t'
    | bl b => cases rx; exact SeqAt.EqAt.str_bool a t' b
    | int b => obtain ⟨t, rfl⟩ := rx; exact SeqAt.EqAt.str_int a t' b t
    | str b => obtain ⟨t, rfl⟩ := rx; exact SeqAt.EqAt.str_str a t' b t
    | _ => exact absurd (show false = true from fx) Bool.false_ne_true
  | _ => exact absurd (show false = true from fy) Bool.false_ne_true
noncomputable def eqU (x : V) (u : Value) : Bool := match u with
  | .none => eqV .non x
  | .bool b => eqV (.bl b) x
  | .int i _ => eqV (.int i) x
  | .str z _ => eqV (.str z) x
  | _ => false
theorem eqU_of {x y : V} {u : Value} (r : RelV y u) (f : flatV y = true) : eqU x u = eqV y x := by
  cases y with
  | non => cases r; rfl
  | bl b => cases r; rfl
  | int i => obtain ⟨t, rfl⟩ := r; rfl
  | str z => obtain ⟨t, rfl⟩ := r; rfl
  | _ => exact absurd (show false = true from f) Bool.false_ne_true
theorem any_eqU {x : V} : ∀ {xs : List V} {us : List Value}, Vals xs us → xs.all flatV = true → us.any (eqU x) = xs.any fun y => eqV y x
  | _, _, .nil, _ => rfl
  | y :: xs, u :: us, .cons r t, f => by
    rw [List.all_cons, Bool.and_eq_true] at f
    rw [List.any_cons, List.any_cons, eqU_of r f.1, any_eqU t f.2]
theorem mem_eqAt {A : Around} {s : Shared} {x : V} {v : Value} (rx : RelV x v) (fx : flatV x = true) : ∀ {xs : List V} {us : List Value}, Vals xs us → xs.all flatV = true → ∀ u ∈ us, SeqAt.EqAt A s u v (eqU x u)
  | _, _, .nil, _ => fun u hu => by cases hu
  | y :: xs, u :: us, .cons r t, f => fun u' hu => by
    rw [List.all_cons, Bool.and_eq_true] at f
    rcases List.mem_cons.mp hu with rfl | hu
    · rw [eqU_of r f.1]; exact eqAt_V r rx f.1 fx
    · exact mem_eqAt rx fx t f.2 u' hu
noncomputable def inV (x : V) (xs : List V) : Bool := xs.any fun y => eqV y x
noncomputable def rIn (K : PySem.W.Frag) (neg : Bool) : R2 := fun x y H Q => ∃ p xs, y = .ref p ∧ (SqL K H p xs ∨ SqT K H p xs) ∧ flatV x = true ∧ xs.all flatV = true ∧ Q (.bl (if neg then !inV x xs else inV x xs)) H
theorem op_in_seq : OpR X (compareOp .In) (rIn X.K false) := by
  intro pins s σ H x y v u Q I rx ry h
  obtain ⟨p, xs, rfl, hq, fx, fs, q⟩ := h
  cases ry
  rcases hq with hq | hq
  · obtain ⟨its, r, pl, hz⟩ := I.list hq
    refine SeqAt.in_listAt (eqU x) pl.isList (fun w hw => mem_eqAt rx fx r fs w (by simpa using hw)) ⟨.bl _, H, I, rfl, ?_⟩
    rw [show its.toArray.any (eqU x) = its.any (eqU x) by simp, any_eqU r fs]
    exact q
  · obtain ⟨its, r, pl, hz⟩ := I.tuple hq
    refine SeqAt.in_tupleAt (eqU x) pl (fun w hw => mem_eqAt rx fx r fs w (by simpa using hw)) ⟨.bl _, H, I, rfl, ?_⟩
    rw [show its.toArray.any (eqU x) = its.any (eqU x) by simp, any_eqU r fs]
    exact q
theorem call_len_seq : CallR X (.builtin "len") (fun xs H Q => ∃ p ys, xs = [.ref p] ∧ (SqL X.K H p ys ∨ SqT X.K H p ys) ∧ Q (.int ys.length) H) := by
  intro pins s σ H xs us Q I r h
  obtain ⟨p, ys, rfl, hq, q⟩ := h
  obtain ⟨u, rfl, rx⟩ := vals1 r
  cases rx
  have hn := line63
  rcases hq with hq | hq
  · obtain ⟨its, r', pl, hz⟩ := I.list hq
    have hlen := r'.length
    exact Calls.call_len_list pl.isList (by simp only [List.size_toArray] <;> omega) ⟨.int ys.length, H, I.tok _, ⟨s.toks + 1, by rw [List.size_toArray, hlen]⟩, q⟩
  · obtain ⟨its, r', pl, hz⟩ := I.tuple hq
    have hlen := r'.length
    exact len_tuple pl (by simp only [List.size_toArray] <;> omega) ⟨.int ys.length, H, I.tok _, ⟨s.toks + 1, by rw [List.size_toArray, hlen]⟩, q⟩
theorem call_list_of : CallR X (.type "list") (fun xs H Q => ∃ p ys, xs = [.ref p] ∧ (SqL X.K H p ys ∨ SqT X.K H p ys) ∧ ∀ l, H l = none → Q (.ref l) (upd H l (.lst ys))) := by
  intro pins s σ H xs us Q I r h
  obtain ⟨p, ys, rfl, hq, q⟩ := h
  obtain ⟨u, rfl, rx⟩ := vals1 r
  cases rx
  have fin : ∀ (its : List Value), Vals ys its → ys.length ≤ sizeLine → ∀ (h' : Heap) (c' : Nat), (∀ b o', s.heap.get? b = some o' → h'.get? b = some o') →
      h'.get? s.heap.objs.size = some { cls := .type "list", dict := none, data := .seq its.toArray c', slots := #[] } → EP X pins σ Q (.ref s.heap.objs.size) { s with heap := h' } := fun its r' hz h' c' kp e =>
    ⟨.ref s.heap.objs.size, _, I.laid (t' := s.toks) kp (Nat.le_refl _) (show ObjOk X.prog X.w _ h' _ (.lst ys) from ⟨hz, its, c', r', e⟩), rfl, q _ (I.hok.fresh (Nat.le_refl _))⟩
  rcases hq with hq | hq
  · obtain ⟨its, r', pl, hz⟩ := I.list hq
    have hlen := r'.length
    obtain ⟨o, ho, hc, n, hd⟩ := pl.isList
    exact call_list_seq p (.inl rfl) ho hc hd (fun h' c' kp e => fin its r' hz h' c' kp e) (by simp only [List.size_toArray] <;> omega)
  · obtain ⟨its, r', pl, hz⟩ := I.tuple hq
    have hlen := r'.length
    obtain ⟨o, ho, hc, n, hd⟩ := pl
    exact call_list_seq p (.inr rfl) ho hc hd (fun h' c' kp e => fin its r' hz h' c' kp e) (by simp only [List.size_toArray] <;> omega)
theorem call_tuple_of : CallR X (.type "tuple") (fun xs H Q => ∃ p ys, xs = [.ref p] ∧ ((SqL X.K H p ys ∧ ∀ l, H l = none → Q (.ref l) (upd H l (.tup ys))) ∨ (SqT X.K H p ys ∧ Q (.ref p) H))) := by
  intro pins s σ H xs us Q I r h
  obtain ⟨p, ys, rfl, h⟩ := h
  obtain ⟨u, rfl, rx⟩ := vals1 r
  cases rx
  rcases h with ⟨hq, q⟩ | ⟨hq, q⟩
  · obtain ⟨its, r', pl, hz⟩ := I.list hq
    have hlen := r'.length
    refine call_tuple_list pl.isList (fun h' kp => ?_) (by simp only [List.size_toArray] <;> omega)
    have I1 : Inv X pins σ H { s with heap := h' } := I.kept (t' := s.toks) kp
    have I2 : Inv X pins σ (upd H h'.objs.size (.tup ys)) { s with heap := h'.push { cls := .type "tuple", data := .seq its.toArray } } :=
      I1.laid (t' := s.toks) (fun b o e => Heap.get?_push_of_some _ e) (Nat.le_refl _) (show ObjOk X.prog X.w _ _ _ (.tup ys) from ⟨hz, its, r', IsTup.new _ _⟩)
    exact ⟨.ref h'.objs.size, _, I2, rfl, q _ (I1.hok.fresh (Nat.le_refl _))⟩
  · obtain ⟨its, r', pl, hz⟩ := I.tuple hq
    exact call_tuple_same pl ⟨.ref p, H, I, rfl, q⟩
noncomputable def tyV (K : PySem.W.Frag) (T : String) (x : V) (H : Hp) : Prop := match x with
  | .str _ => T = "str"
  | .int _ => T = "int"
  | .ref p => (T = "list" ∧ ∃ xs, SqL K H p xs) ∨ (T = "tuple" ∧ ∃ o, K.lookup p = some o ∧ o.cls = .type "tuple" ∧ o.dict = none) ∨
      (T = "dict" ∧ ((∃ kvs, H p = some (.dK kvs)) ∨ ∃ kvs, H p = some (.dT kvs))) ∨ (T = "set" ∧ ∃ S n, H p = some (.set S n))
  | _ => False
theorem tyV_is {pins : List (Addr × Obj)} {σ : St} {H : Hp} {s : Shared} {T : String} {x : V} {v : Value} (I : Inv X pins σ H s) (r : RelV x v) (ty : tyV X.K T x H) :
    s.TypeIs v T ∧ ∀ a, v = .ref a → ∃ ob, s.heap.get? a = some ob ∧ ob.dict = none := by
  cases x with
  | str z =>
    obtain ⟨t, rfl⟩ := r
    cases (show T = "str" from ty)
    exact ⟨typeIs_str s z t, fun _ e => nomatch e⟩
  | int i =>
    obtain ⟨t, rfl⟩ := r
    cases (show T = "int" from ty)
    exact ⟨typeIs_int s i t, fun _ e => nomatch e⟩
  | ref p =>
    cases r
    rcases ty with ⟨rfl, xs, hq⟩ | ⟨rfl, o, hk, hc, hd⟩ | ⟨rfl, hk⟩ | ⟨rfl, S, n, hk⟩
    · obtain ⟨its, _, pl, _⟩ := I.list hq
      refine ⟨pl.isList.typeIs, fun a e => ?_⟩
      cases e
      obtain ⟨o, n, e, c, hd, _⟩ := pl
      exact ⟨o, e, hd⟩
    · refine ⟨⟨o, I.kIn p o hk, hc⟩, fun a e => ?_⟩
      cases e
      exact ⟨o, I.kIn _ o hk, hd⟩
    · have z : ∃ o, s.heap.get? p = some o ∧ o.ExactDict := by
        rcases hk with ⟨kvs, hk⟩ | ⟨kvs, hk⟩
        · obtain ⟨_, _, _, _, o, _, _, e, ex, _⟩ := I.hok p _ hk
          exact ⟨o, e, ex⟩
        · obtain ⟨_, _, _, _, o, _, _, e, ex, _⟩ := I.hok p _ hk
          exact ⟨o, e, ex⟩
      obtain ⟨o, e, ex⟩ := z
      refine ⟨⟨o, e, ex.1⟩, fun a e2 => ?_⟩
      cases e2
      exact ⟨o, e, ex.2.1⟩
    · obtain ⟨o, _, _, _, e, ex, _⟩ := I.hok p _ hk
      refine ⟨⟨o, e, ex.1⟩, fun a e2 => ?_⟩
      cases e2
      exact ⟨o, e, ex.2.1⟩
  | _ => exact False.elim ty
noncomputable def tBM (K : PySem.W.Frag) (T : String) (r : V → List V → Hp → VK → Prop) (to : TE) (t : TA) : TE := fun σ H Q => to σ H fun x H1 => tyV K T x H1 ∧ t σ H1 fun xs H2 => r x xs H2 Q
variable {o e : Expr} {es : List Expr} {to : TE} {t : TA} {name : Str} {apos cpos : Pos} {T id : String} {r : V → List V → Hp → VK → Prop}
theorem pe_bm (pa : PlainAttrs T) (slot : Slot T name id) (hty : typeOf (.builtin id) = pure (.type "method_descriptor")) (hm : MtR X id r) (ho : PE X o to) (ha : PA X (e :: es) t)
    (hbase : attributeBase o name X.env (eval o X.env) = eval o X.env := by rfl)
    (hfew : ((backTo cpos (starEach (e :: es) X.env)).all (fun x => !x.1) && (backToKw cpos (keywordEach [] X.env)).all (fun x => x.1.isSome)
      && decide ((e :: es).length + ([] : List Keyword).length + (if ([] : List Keyword).isEmpty then 0 else 1) < 30)) = true := by rfl)
    (hline : (apos.endLine == cpos.line) = true := by rfl) (hs : starEach (e :: es) X.env = (false, eval e X.env) :: starEach es X.env := by rfl) (hplain : (backTo cpos (starEach es X.env)).any (·.1) = false := by rfl) :
    PE X (.Call (.Attribute o name apos) (e :: es) [] cpos) (tBM X.K T r to t) := by
  intro pins s σ H Q I h
  refine wpAny_Call_method_late hbase hfew hline rfl (thn (ho pins s σ H _ I h) fun v s1 ⟨x, H1, I1, r1, ty, q1⟩ => ?_)
  obtain ⟨h1, h2⟩ := tyV_is I1 r1 ty
  refine ⟨T, id, pa, slot, hty, h1, h2, ?_⟩
  have hA := ha cpos pins s1 σ H1 _ I1 q1
  rw [hs] at hA ⊢
  refine Calls.callWith_builtin (by show (false || (backTo cpos (starEach es X.env)).any (·.1)) = false; rw [hplain] <;> rfl) (Calls.evalArgs_plain ?_)
  exact thn hA fun us s2 ⟨vs, H2, I2, r2, q2⟩ => hm pins s2 σ H2 x vs v us Q I2 r1 r2 q2
end
end L2
namespace L2
open PySem PySem.Spec PyProof.Rows
noncomputable def MtM (X : Cx) (id : String) (r : V → List V → Hp → VK → Prop) : Prop :=
  ∀ (pins : List (Addr × Obj)) (s : Shared) (σ : St) (H : Hp) (x : V) (xs : List V) (v : Value) (us : List Value) (Q : VK), Inv X pins σ H s → RelV x v → Vals xs us → r x xs H Q →
    wpAny (model X.prog X.w) X.A (call (.builtin id) (v :: us)) (EP X pins σ Q) X.xe s
theorem Vals.one : ∀ {x : V} {us : List Value}, Vals [x] us → ∃ u, us = [u] ∧ RelV x u
  | _, _, .cons r .nil => ⟨_, rfl, r⟩
theorem Vals.rep {xs : List V} {us : List Value} (h : Vals xs us) : ∀ k : Nat, Vals (List.replicate k xs).flatten (List.replicate k us).flatten
  | 0 => .nil
  | k + 1 => by
    rw [List.replicate_succ, List.replicate_succ, List.flatten_cons, List.flatten_cons]
    exact Vals.append h (Vals.rep h k)
theorem foldl_rep (its : List Value) : ∀ (k : Nat) (acc : List Value),
    List.foldl (fun x1 x2 => x1 ++ x2) acc.toArray (List.replicate k its.toArray) = (acc ++ (List.replicate k its).flatten).toArray
  | 0, acc => by simp
  | k + 1, acc => by
    have e : acc.toArray ++ its.toArray = (acc ++ its).toArray := by simp
    have e2 : (acc ++ its) ++ (List.replicate k its).flatten = acc ++ (List.replicate (k + 1) its).flatten := by
      rw [List.replicate_succ, List.flatten_cons, List.append_assoc]
    rw [← e2, ← foldl_rep its k (acc ++ its), ← e, List.replicate_succ, List.foldl_cons]
section
variable {X : Cx} {pins : List (Addr × Obj)} {σ : St} {H : Hp} {s : Shared} {l b : Addr} {xs ys zs : List V}
theorem Inv.lset {its its' : List Value} {n : Nat} {f : Array Value → Array Value} {t' : Nat} (I : Inv X pins σ H s) (hH : H l = some (.lst xs))
    (e : s.heap.get? l = some { cls := .type "list", data := .seq its.toArray n }) (hf : f its.toArray = its'.toArray) (hv : Vals ys its') (hz : ys.length ≤ sizeLine) :
    Inv X pins σ (upd H l (.lst ys)) { s with heap := s.heap.update l (Obj.mapSeq f), toks := t' } := by
  have q := PySem.IsL.update e f
  rw [hf] at q
  refine I.write (x := l) (e := l) (by rw [hH]; exact trivial) (.inl rfl) (fun b' u hb hu => (Heap.get?_update_other s.heap (Obj.mapSeq f) (Ne.symm hb)).trans hu) ⟨_, q⟩ ?_
  exact ⟨hz, its', _, hv, q⟩
theorem Inv.lnew {its : List Value} {t' : Nat} (I : Inv X pins σ H s) (hv : Vals ys its) (hz : ys.length ≤ sizeLine) :
    Inv X pins σ (upd H s.heap.objs.size (.lst ys)) { s with heap := s.heap.push { cls := .type "list", data := .seq its.toArray }, toks := t' } :=
  I.laid (fun _ _ q => Heap.get?_push_of_some _ q) (Nat.le_refl _) ⟨hz, its, 0, hv, Heap.get?_push_size _ rfl⟩
theorem Inv.fresh (I : Inv X pins σ H s) : H s.heap.objs.size = none := I.hok.fresh (Nat.le_refl _)
theorem Inv.lstM (I : Inv X pins σ H s) (hH : H l = some (.lst xs)) : xs.length ≤ sizeLine ∧ ∃ (its : List Value) (n : Nat), Vals xs its ∧ xs.length = its.length ∧ s.heap.get? l = some { cls := .type "list", data := .seq its.toArray n } := by
  obtain ⟨z, its, n, r, e⟩ := I.hok l _ hH
  exact ⟨z, its, n, r, r.length, e⟩
theorem notLongL {n : Nat} (h : n ≤ sizeLine) : Builtin.List.listTooLong n = false := by
  unfold Builtin.List.listTooLong
  exact decide_eq_false (by omega)
end
section
variable {X : Cx}
noncomputable def rAppend : V → List V → Hp → VK → Prop := fun x vs H Q => ∃ l xs y, x = .ref l ∧ vs = [y] ∧ H l = some (.lst xs) ∧ xs.length < sizeLine ∧ Q .non (upd H l (.lst (xs ++ [y])))
theorem mt_append : MtM X "list.append" rAppend := by
  intro pins s σ H x vs v us Q I rx rv h
  obtain ⟨l, xs, y, rfl, rfl, hH, hz, q⟩ := h
  cases rx
  obtain ⟨u, rfl, ru⟩ := rv.one
  obtain ⟨z, its, n, r, hl, e⟩ := I.lstM hH
  refine call_meets F.slot_list_append ⟨_, e, rfl⟩ F.entry_list_append (F.args_list_append_2 _ _) (PySem.list_append l its.toArray n u (by rw [List.size_toArray]; omega)) ⟨e, ?_⟩
  refine ⟨.non, _, I.lset (its' := its ++ [u]) hH e (by simp) (r.append (.cons ru .nil)) ?_, rfl, q⟩
  rw [List.length_append, List.length_singleton]
  omega
noncomputable def rExtend : V → List V → Hp → VK → Prop := fun x vs H Q => ∃ l b xs zs, x = .ref l ∧ vs = [.ref b] ∧ H l = some (.lst xs) ∧ H b = some (.lst zs) ∧ xs.length + zs.length ≤ sizeLine ∧ Q .non (upd H l (.lst (xs ++ zs)))
theorem mt_extend : MtM X "list.extend" rExtend := by
  intro pins s σ H x vs v us Q I rx rv h
  obtain ⟨l, b, xs, zs, rfl, rfl, hH, hB, hz, q⟩ := h
  cases rx
  obtain ⟨u, rfl, ru⟩ := rv.one
  cases ru
  obtain ⟨z, its, n, r, hl, e⟩ := I.lstM hH
  obtain ⟨z2, its2, n2, r2, hl2, e2⟩ := I.lstM hB
  have hsz : its.toArray.size + its2.toArray.size ≤ sizeLine := by rw [List.size_toArray, List.size_toArray]; omega
  have hlong : ¬ (!its.toArray.isEmpty && Builtin.List.listTooLong (its.toArray.size + its2.toArray.size)) = true := by
    rw [notLongL hsz, Bool.and_false]
    exact Bool.false_ne_true
  refine call_meets F.slot_list_extend ⟨_, e, rfl⟩ F.entry_list_extend (F.args_list_extend_2 _ _)
    (AutoSeq1.list_extend_list_list_0 l its.toArray n b its2.toArray n2 hlong (by rw [List.size_toArray]; omega) (by omega)) ⟨e, e2, ?_⟩
  refine ⟨.non, _, I.lset (its' := its ++ its2) hH e (by simp) (r.append r2) ?_, rfl, q⟩
  rw [List.length_append]
  omega
noncomputable def rCat : R2 := fun x y H Q => ∃ l b xs zs, x = .ref l ∧ y = .ref b ∧ H l = some (.lst xs) ∧ H b = some (.lst zs) ∧ xs.length + zs.length ≤ sizeLine ∧ ∀ p, H p = none → Q (.ref p) (upd H p (.lst (xs ++ zs)))
theorem op_cat : OpR X (binaryOp .Add) rCat := by
  intro pins s σ H x y v u Q I rx ry h
  obtain ⟨l, b, xs, zs, rfl, rfl, hH, hB, hz, q⟩ := h
  cases rx
  cases ry
  obtain ⟨z, its, n, r, hl, e⟩ := I.lstM hH
  obtain ⟨z2, its2, n2, r2, hl2, e2⟩ := I.lstM hB
  refine PySem.P.add_list e e2 ?_ (by rw [List.size_toArray, List.size_toArray]; omega)
  have ea : its.toArray ++ its2.toArray = (its ++ its2).toArray := by simp
  rw [ea]
  exact ⟨.ref _, _, I.lnew (t' := s.toks) (r.append r2) (by rw [List.length_append]; omega), rfl, q _ I.fresh⟩
noncomputable def rRep : R2 := fun x y H Q => ∃ l k xs, x = .ref l ∧ y = .int k ∧ H l = some (.lst xs) ∧ -(2 ^ 63) ≤ k ∧ k < 2 ^ 63 ∧ xs.length * k.toNat ≤ sizeLine ∧
  ∀ p, H p = none → Q (.ref p) (upd H p (.lst (List.replicate k.toNat xs).flatten))
theorem len_rep {α : Type} (xs : List α) (k : Nat) : (List.replicate k xs).flatten.length = k * xs.length := by
  induction k with
  | zero => simp
  | succ k ih => rw [List.replicate_succ, List.flatten_cons, List.length_append, ih, Nat.succ_mul, Nat.add_comm]
theorem op_rep : OpR X (binaryOp .Mult) rRep := by
  intro pins s σ H x y v u Q I rx ry h
  obtain ⟨l, k, xs, rfl, rfl, hH, h1, h2, hz, q⟩ := h
  cases rx
  obtain ⟨t, rfl⟩ := ry
  obtain ⟨z, its, n, r, hl, e⟩ := I.lstM hH
  have hlen : its.toArray.size * k.toNat ≤ sizeLine := by rw [List.size_toArray, ← hl]; exact hz
  have hcap : ¬ its.toArray.size * k.toNat > (2 ^ 63 - 1) / 8 := by
    have : (sizeLine : Nat) ≤ (2 ^ 63 - 1) / 8 := by decide
    omega
  have hfit : ¬ (!Builtin.List.listFitsIndex k) = true := by
    rw [fitsIndex_both h1 h2]
    exact Bool.false_ne_true
  have hlong : ¬ Builtin.List.listTooLong (its.toArray.size * k.toNat) = true := by
    rw [notLongL hlen]
    exact Bool.false_ne_true
  have hnew : List.foldl (fun x1 x2 => x1 ++ x2) #[] (List.replicate (if its.toArray.isEmpty = true then 0 else k.toNat) its.toArray) = (List.replicate k.toNat its).flatten.toArray := by
    have f0 : ∀ m : Nat, List.foldl (fun x1 x2 => x1 ++ x2) #[] (List.replicate m its.toArray) = (List.replicate m its).flatten.toArray := fun m => by
      have := foldl_rep its m []
      rw [List.nil_append] at this
      exact this
    rw [f0]
    cases its with
    | nil => simp
    | cons a r' => rw [if_neg (by simp)]
  refine wpAny_binaryOp_repeat_ref (T := "list") (U := "int") (by decide) ⟨_, e, rfl⟩ (fun s' => typeIs_int s' k t) noFill_list_mul F.fills_int_mul F.slot_int_rmul repeat_list F.slot_int_index.lookup
    (call_meets F.slot_int_rmul (typeIs_int s k t) F.entry_int_rmul (F.args_int_rmul_2 _ _) (int___rmul___int_list k t l its.toArray n)
      ⟨e, rfl, ⟨_, e, rfl⟩, call_meets F.slot_list_mul ⟨_, e, rfl⟩ F.entry_list_mul (F.args_list_mul_2 _ _) (AutoListH.list___mul___list_int_3 l its.toArray n k t hfit hcap hlong) ⟨e, ?_⟩⟩)
  rw [hnew]
  exact ⟨.ref _, _, I.lnew (t' := s.toks) (r.rep k.toNat) (by rw [len_rep, Nat.mul_comm]; exact hz), rfl, q _ I.fresh⟩
end
section
variable {prog : Program} {w : World} {A : Around} {E : Value → Shared → Prop} {s : Shared}
end
section
variable {X : Cx}
end
end L2
namespace Att
open PySem PySem.W PySem.Calls PyProof.Rows
theorem ints_of_wellAll {P : Params} {h : Heap} : ∀ (ns : List Int) (vs : List Value), WellAll P h vs (ns.map WData.int) → IntsAre vs ns := by
  intro ns
  induction ns with
  | nil =>
    intro vs w
    rw [List.map_nil] at w
    cases w
    exact .nil
  | cons n ns ih =>
    intro vs w
    rw [List.map_cons] at w
    cases w with
    | cons a b =>
      cases a
      exact .cons _ _ (ih _ b)
theorem script_of {l : OpenLaw} {n : Nat} (hn : l.most = some n) {P : Params} {h : Heap} {args : List WData} {vals : List Value}
    (hpre : l.row.toRowW.claim.pre args = true) (hwl : WellAll P h vals args) :
    ∃ a vs ns, vals = [Value.ref a] ∧ args = [WData.list (ns.map WData.int)] ∧ h.get? a = some { cls := .type "list", data := .seq vs.toArray } ∧ IntsAre vs ns ∧ ns.length ≤ n := by
  have hsh : WShape.hasAll [] args [.list .int] = true := (pre_splitW hpre).1
  have hc : l.pre.holds [] { args := args } = true := (pre_splitW hpre).2
  obtain ⟨d, r, rfl, h1, h2⟩ := hasAllW_cons hsh
  obtain rfl := hasAllW_nil h2
  obtain ⟨xs, rfl, h3⟩ := hasW_list h1
  obtain ⟨ns, rfl⟩ := items_int h3
  have hlen : ns.length ≤ n := by
    unfold OpenLaw.pre at hc
    have h4 : (WTm.not (.lt (.lit (.int (n : Int))) (.len (.arg 0)))).holds [] { args := [.list (ns.map .int)] } = true := by
      have h4 := (holds_andW hc).1
      rw [hn] at h4
      exact h4
    have h5 := condW_of h4 (w_not (w_lt w_lit (w_len_list (w_arg rfl))))
    rw [List.length_map] at h5
    refine Nat.le_of_not_lt fun q => ?_
    have q' : (n : Int) < ((ns.length : Nat) : Int) := by omega
    first
      | (rw [decide_eq_true q'] at h5; exact absurd h5 (by decide))
      | (simp at h5; omega)
  cases hwl with
  | cons w1 w2 =>
    cases w2
    cases w1 with
    | list ho hall => exact ⟨_, _, ns, rfl, rfl, ho, ints_of_wellAll ns _ hall, hlen⟩
theorem post_true (l : OpenLaw) (args : List WData) : l.row.toRowW.claim.post args (.bool true) args = true :=
  postW_of (r := l.row.toRowW) (X := (true == true))
    (show WShape.has [] (.bool true) .bool = true by first | rfl | decide | simp [WShape.has, WShape.arms, WShape.armsAll])
    (show (WTm.eq .res (.lit (.bool true))).value [] { args := args, res := some (.bool true), after := args } = some (.bool (true == true)) from w_eq_bool (w_res rfl) w_lit) rfl
theorem attach_call {l : OpenLaw} {n : Nat} {q : Program} {loose : List Str} {XP : (Str → Option Value) → Heap → Prop} {YP : World → Heap → Prop} {d : DefRec}
    (hn : l.most = some n) (hdf : d.params.defaults = [])
    (call : ∀ (w : World) (s₀ s₁ : Shared) (mg mb : Str → Option Value) (fa : Addr) (o : Obj) (pm cd doc : Value) (a : Addr) (vs : List Value) (ns : List Int),
      Ground q loose [] XP w s₀ mg mb s₁.heap → YP w s₁.heap →
      s₁.heap.get? fa = some o → o.data = .func (docDef d.name d.params d.body d.scope pm cd doc) → s₁.heap.CodeRec cd d.name → mg d.name = some (.ref fa) →
      s₁.heap.get? a = some { cls := .type "list", data := .seq vs.toArray } → IntsAre vs ns → ns.length ≤ n → s₁.gens = #[] →
      codeAny (model l.prog w) callerA (.call (.ref fa) ⟨[.ref a], []⟩) (fun r s' => r = .ok (.ret (.bool true)) ∧ OldK s₁.heap s'.heap ∧ s'.os = s₁.os ∧ AllBare s'.gens) s₁) :
    WalkO q loose XP YP l.row.toRowW d [] (fun f vs => PySem.call f vs) := by
  intro w s₀ s₁ mg mb G Y fa o pm cd doc dV kV ho hd hcd hD hmg hg args vals as hpre hlay hrd hwl hlo
  obtain rfl : dV = .none := Dflts.none hD hdf
  obtain rfl : kV = .none := Dflts.noKw hD
  obtain ⟨a, vs, ns, rfl, rfl, hobj, hints, hlen⟩ := script_of hn hpre hwl
  refine enter_call (codeAny_mono (call w s₀ s₁ mg mb fa o pm cd doc a vs ns G Y ho (fd_plain hd) hcd hmg hobj hints hlen hg) fun r s' hq => ?_)
  obtain ⟨rfl, h2, h3, h4⟩ := hq
  exact ⟨.inl ⟨.bool true, .bool true, [], rfl, fun _ => rfl, .bool true, post_true l _, fun _ => ⟨List.Pairwise.nil, fun _ hm => (nomatch hm)⟩⟩, h2, h3, h4⟩
section
variable {prog : Program} {w : World} {A : Around} {E : Value → Shared → Prop} {s : Shared} {K : Frag}
end
end Att
namespace L2
open PySem PySem.Spec PyProof.Rows
theorem vals_ints : ∀ {vs : List Value} {ns : List Int}, IntsAre vs ns → Vals (ns.map V.int) vs
  | _, _, .nil => .nil
  | _, _, .cons n t h => .cons ⟨t, rfl⟩ (vals_ints h)
end L2
namespace L2
open PySem PySem.Spec PyProof.Rows
end L2
namespace L2
open PySem PySem.Spec PyProof.Rows
noncomputable def defArgs (s : Stmt) : Arguments := match s with
  | .FunctionDef _ a _ _ _ _ _ _ _ _ => a
  | _ => { posonlyargs := [], args := [], vararg := none, kwonlyargs := [], kw_defaults := [], kwarg := none, defaults := [] }
noncomputable def defBody (s : Stmt) : List Stmt := match s with
  | .FunctionDef _ _ b _ _ _ _ _ _ _ => b
  | _ => []
noncomputable def defScope (s : Stmt) : Scope := match s with
  | .FunctionDef _ _ _ _ _ _ sc _ _ _ => sc
  | _ => { kind := .function, names := [], isGenerator := false, isCoroutine := false }
noncomputable abbrev CX0 : CXT := fun _ _ _ _ _ _ => False
noncomputable abbrev E0 : XK := fun _ _ _ => False
theorem pass0 {X : Cx} : Passes CX0 X E0 := fun _ _ _ _ _ _ _ h => h.elim
structure Fun (K : PySem.W.Frag) (x qual : Str) (st : Stmt) (f : Addr) (fd : FuncData) : Prop where
  ex : ∃ (oc : Value) (od : Option Addr) (kV doc pm : Value) (an : Option Addr) (cdv ct : Value) (osl : Array (Option Value)),
    fd = PySem.W.fnOf x qual (defArgs st) (defBody st) (defScope st) .none kV doc pm an cdv ct ∧ K.lookup f = some ⟨oc, od, .func fd, osl⟩ ∧ PySem.W.codeIn K cdv qual = true
  kp : PySem.W.keepIn K (.ref f) = true
section
variable {P : Program} {w : World} {K : PySem.W.Frag} {mg : Str → Option Value} {base : Heap}
theorem Fun.ok {x qual : Str} {st : Stmt} {f : Addr} {fd : FuncData} {N ps : List Str} {k : Nat} {sp : Sp} (F : Fun K x qual st f fd) (S : FnScope N ps (defScope st)) (len : ∀ vs H Q E, sp vs H Q E → vs.length = ps.length)
    (hbody : ∀ (cdv : Value) (A : Around) (outer : List Env) (s : Shared) (H : Hp) (vs : List V) (Q : VK) (E : XK), Room k (A.deeper (envOfC qual (defScope st) s.heap.objs.size f cdv)) → sp vs H Q E →
      ∃ t, PSs (cxOf CX0 P w K mg base N qual (defScope st) f cdv A outer s H E).nox (defBody st) t ∧ t { nx := fun _ H' => Q .non H', rt := Q } (start N vs) H) : FnOk P w K mg base CX0 (k + 1) f fd ps sp := by
  obtain ⟨oc, od, kV, doc, pm, an, cdv, ct, osl, rfl, lk, hcd⟩ := F.ex
  refine fn_of lk hcd S len fun A outer s H vs Q E hr hsp => ?_
  obtain ⟨t, h, q⟩ := hbody cdv A outer s H vs Q E hr hsp
  exact ⟨t, h.nox, q⟩
theorem Fun.binds {x qual : Str} {st : Stmt} {f : Addr} {fd : FuncData} {ps : List Str} (F : Fun K x qual st f fd)
    (h : ∀ (kV doc pm : Value) (an : Option Addr) (cdv ct : Value) (us : List Value), us.length = ps.length → bindArgs (PySem.W.fnOf x qual (defArgs st) (defBody st) (defScope st) .none kV doc pm an cdv ct) ⟨us, []⟩ = pure (ps.zip us)) : Binds K fd ps [] := by
  obtain ⟨oc, od, kV, doc, pm, an, cdv, ct, osl, rfl, lk, hcd⟩ := F.ex
  exact .all (h kV doc pm an cdv ct)
theorem fun_mk {x qual : Str} {st : Stmt} {f : Addr} {oc : Value} {od an : Option Addr} {osl : Array (Option Value)} {kV doc pm cdv ct : Value} (l : K.lookup f = some ⟨oc, od, .func (PySem.W.fnOf x qual (defArgs st) (defBody st) (defScope st) .none kV doc pm an cdv ct), osl⟩)
    (c : PySem.W.codeIn K cdv qual = true) (k : PySem.W.keepIn K (.ref f) = true) : Fun K x qual st f (PySem.W.fnOf x qual (defArgs st) (defBody st) (defScope st) .none kV doc pm an cdv ct) := ⟨⟨oc, od, kV, doc, pm, an, cdv, ct, osl, rfl, l, c⟩, k⟩
end
section
variable {X : Cx}
theorem pv (i : Nat) {x : Str} {pos : Pos} (hN : X.N[i]? = some x := by rfl) (hv : Vis X.env.scope x := by first | exact Or.inl rfl | exact Or.inr (Or.inl rfl) | exact Or.inr (Or.inr rfl)) (hd : (x == ("__debug__" : Str)) = false := by decide)
    (hcd : (x == ("__classdict__" : Str)) = false := by decide) : PE X (.Name x pos) (tVar i) := pe_var hN hv hd hcd
end
theorem iteF {A B : Prop} (h : B) : if false = true then A else B := by
  rw [if_neg Bool.false_ne_true]
  exact h
theorem iteT {A B : Prop} (h : A) : if true = true then A else B := by
  rw [if_pos rfl]
  exact h
theorem ite2 {c A B : Prop} [Decidable c] (h1 : c → A) (h2 : ¬ c → B) : if c then A else B := by
  by_cases h : c
  · rw [if_pos h]
    exact h1 h
  · rw [if_neg h]
    exact h2 h
end L2
set_option Elab.async false
set_option linter.all false
set_option maxRecDepth 100000
set_option maxHeartbeats 4000000
namespace L2
open PySem PySem.Spec PyProof.Rows
structure Blk where
  s : Shared
  H : Hp
  fp : List Addr
  C : Addr
noncomputable def clOf (names : List (Str × NameKind)) (cells : List (Str × Addr)) : List (Str × Addr) :=
  names.foldl (fun acc p => if p.2 == .free then (p.1, (cells.lookup p.1).getD 0) :: acc else acc) []
noncomputable def blk (X : Cx) (sc : Scope) (own : List Str) (js : List Nat) (z : Blk) : Cx where
  prog := X.prog
  w := X.w
  K := X.K
  mg := X.mg
  base := X.base
  A := X.A
  N := own ++ js.map fun j => X.N.getD j ""
  s₀ := z.s
  H₀ := z.H
  env := compEnvC sc (clOf sc.names X.env.cells) z.C X.env
  outer := X.stack
  stack := X.stack
  ex := z.fp
  fn := fun _ => false
  calm := X.calm
  pn := []
  xe := fun _ _ => False
noncomputable def okBlk (sc out : Scope) : Bool := sc.names.all fun p => p.2 != .cell && (p.2 != .local || sc.names.lookup p.1 == some .local) && (p.2 != .free || out.names.lookup p.1 == some .cell || out.names.lookup p.1 == some .free)
noncomputable def okCap (sc : Scope) (N : List Str) (js : List Nat) : Bool := js.all fun j => decide (j < N.length) && (sc.names.lookup (N.getD j "") == some .free)
noncomputable def capt (n : Nat) (js : List Nat) (σ : St) : St := List.replicate n none ++ js.map fun j => (σ[j]?).join
theorem clOf_gen (cells : List (Str × Addr)) : ∀ (names : List (Str × NameKind)) (acc : List (Str × Addr)) (x : Str) (c : Addr),
    (names.foldl (fun acc p => if p.2 == .free then (p.1, (cells.lookup p.1).getD 0) :: acc else acc) acc).lookup x = some c →
    ((x, NameKind.free) ∈ names ∧ c = (cells.lookup x).getD 0) ∨ acc.lookup x = some c
  | [], acc, x, c, h => .inr h
  | (n, k) :: r, acc, x, c, h => by
    rw [List.foldl_cons] at h
    rcases clOf_gen cells r _ x c h with ⟨h1, h2⟩ | h1
    · exact .inl ⟨List.mem_cons_of_mem _ h1, h2⟩
    · cases hk : (k == NameKind.free) with
      | false => 
        simp only [hk] at h1
        exact .inr h1
      | true =>
        simp only [hk, if_true] at h1
        rw [List.lookup_cons] at h1
        cases hx : (x == n) with
        | false => rw [hx] at h1; exact .inr h1
        | true =>
          rw [hx] at h1
          have e1 : x = n := by simpa using hx
          have e2 : k = .free := by simpa using hk
          subst e1 e2
          exact .inl ⟨List.mem_cons_self, (Option.some.inj h1).symm⟩
theorem clOf_has (cells : List (Str × Addr)) : ∀ (names : List (Str × NameKind)) (acc : List (Str × Addr)) (x : Str),
    ((x, NameKind.free) ∈ names ∨ (acc.lookup x).isSome = true) → ((names.foldl (fun acc p => if p.2 == .free then (p.1, (cells.lookup p.1).getD 0) :: acc else acc) acc).lookup x).isSome = true
  | [], acc, x, h => by
    rcases h with h | h
    · simp at h
    · exact h
  | (n, k) :: r, acc, x, h => by
    rw [List.foldl_cons]
    apply clOf_has cells r
    rcases h with h | h
    · rcases List.mem_cons.mp h with e | h
      · right
        cases e
        simp [List.lookup_cons]
      · exact .inl h
    · right
      cases hk : (k == NameKind.free) with
      | false => simpa [hk] using h
      | true =>
        simp only [hk, if_true, List.lookup_cons]
        cases hx : (x == n) with
        | true => rfl
        | false => exact h
theorem closure_eq {env : Env} {sc : Scope} (h : ∀ p ∈ sc.names, p.2 = .free → ∃ c, env.cells.lookup p.1 = some c) : closureFor sc env = pure (clOf sc.names env.cells) := by
  have go : ∀ (names : List (Str × NameKind)) (acc : List (Str × Addr)), (∀ p ∈ names, p.2 = NameKind.free → ∃ c, env.cells.lookup p.1 = some c) →
      (forIn names acc fun (p : Str × NameKind) (r : List (Str × Addr)) => (match p with | (name, kind) => if (kind == NameKind.free) = true then do let c ← cellOf env name; pure (ForInStep.yield ((name, c) :: r)) else pure (ForInStep.yield r) : Sem _)) =
      pure (names.foldl (fun acc p => if p.2 == .free then (p.1, (env.cells.lookup p.1).getD 0) :: acc else acc) acc) := by
    intro names
    induction names with
    | nil => intro acc _; rfl
    | cons p r ih =>
      intro acc hp
      obtain ⟨n, k⟩ := p
      rw [List.forIn_cons, List.foldl_cons]
      cases hk : (k == NameKind.free) with
      | false =>
        simp only [hk, Bool.false_eq_true, if_false]
        exact ih acc fun q hq => hp q (List.mem_cons_of_mem _ hq)
      | true =>
        obtain ⟨c, hc⟩ := hp (n, k) List.mem_cons_self (by simpa using hk)
        have e : cellOf env n = pure c := by
          unfold cellOf
          rw [show env.cells.lookup n = some c from hc]
        simp only [hk, if_true, e]
        have hc' : env.cells.lookup n = some c := hc
        rw [hc']
        exact ih _ fun q hq => hp q (List.mem_cons_of_mem _ hq)
  unfold closureFor clOf
  have := go sc.names [] h
  simp only [this]
  rfl
noncomputable def PCs (X : Cx) (ifs : List Expr) (t : TT) : Prop :=
  ∀ (pins : List (Addr × Obj)) (s : Shared) (σ : St) (H : Hp) (Q : Bool → Hp → Prop), Inv X pins σ H s → t σ H Q →
    wpAny (model X.prog X.w) X.A (forIn ifs true fun c r => if r = true then do let ok ← isTrue c X.env (eval c X.env); pure (ForInStep.yield ok) else pure (ForInStep.yield r)) (TP X pins σ Q) X.xe s
noncomputable def tYes : TT := fun _ H Q => Q true H
theorem pcs_nil {X : Cx} : PCs X [] tYes := fun _ _ _ H _ I h => wpAny_tests_nil ⟨H, I, h⟩
theorem pcs_one {X : Cx} {c : Expr} {t : TT} (h : PT X c t) : PCs X [c] t := fun pins s σ H Q I hq => wpAny_tests_one (h pins s σ H Q I hq)
theorem compLoop_own {prog : Program} {w : World} {A : Around} {R : Result → Shared → Prop} {t0 : Shared} {elt tgt iter : Expr} {ifs : List Expr} {sc : Scope} {ps : Pos} {itv acc : Value} {ce : Env} (Wd : Nat → Shared → Prop)
    (step : ∀ k t, Wd k t → wpAny (model prog w) A (pyNext itv) (fun got t1 =>
      match got with
      | none => R (.ok .next) t1
      | some u => wpAny (model prog w) A (letOwnedTupleGo tgt itv u) (fun _ t2 => wpAny (model prog w) A (assign tgt ce u) (fun _ t3 =>
          wpAny (model prog w) A (forIn ifs true fun c r => if r = true then do let ok ← isTrue c ce (eval c ce); pure (ForInStep.yield ok) else pure (ForInStep.yield r)) (fun yes t4 =>
            if yes = true then wpAny (model prog w) A (eval elt ce) (fun val t5 => wpAny (model prog w) A (call (.builtin "list.append") [acc, val]) (fun _ t6 => ∃ m, m < k ∧ Wd m t6) (fun _ _ => False) t5) (fun _ _ => False) t4
            else ∃ m, m < k ∧ Wd m t4) (fun _ _ => False) t3) (fun _ _ => False) t2) (fun _ _ => False) t1) (fun _ _ => False) t)
    (k0 : Nat) (start : Wd k0 t0) : codeAny (model prog w) A (.compLoop (.ListComp elt [⟨tgt, iter, ifs, 0⟩] sc ps) 0 itv acc ce) R t0 := by
  refine codeAny_loop rfl Wd (fun k t hW => ?turn) k0 start
  case turn =>
    have nox : ∀ {α : Type} {m : Sem α} {Q : α → Shared → Prop} {E : Value → Shared → Prop} {z : Shared}, wpAny (model prog w) A m Q (fun _ _ => False) z → wpAny (model prog w) A m Q E z := fun h => wpAny_mono h (fun _ _ q => q) fun _ _ f => f.elim
    show wpAny _ A ((compTurn (.ListComp elt [⟨tgt, iter, ifs, 0⟩] sc ps) 0 itv acc ce).onRaise (fun x => do noteFrame x ce; theTreesLotGoes x)) _ _ t
    apply wpAny_noted
    rw [compTurn_list]
    refine wpAny_bind (wpAny_standAt (wpAny_bind (nox (wpAny_mono (step k t hW) (fun got t1 h1 => ?_) fun _ _ f => f))))
    cases got with
    | none => exact wpAny_pure h1
    | some u =>
      refine wpAny_bind (nox (wpAny_mono h1 (fun _ t2 h2 => ?_) fun _ _ f => f))
      refine wpAny_bind (nox (wpAny_mono h2 (fun _ t3 h3 => ?_) fun _ _ f => f))
      refine wpAny_bind (nox (wpAny_mono h3 (fun yes t4 h4 => ?_) fun _ _ f => f))
      cases yes with
      | false =>
        rw [if_neg Bool.false_ne_true] at h4
        exact wpAny_pure ⟨rfl, h4⟩
      | true =>
        rw [if_pos rfl] at h4
        refine wpAny_bind (wpAny_bind (nox (wpAny_mono h4 (fun val t5 h5 => ?_) fun _ _ f => f)))
        exact wpAny_bind (nox (wpAny_mono h5 (fun _ t6 h6 => wpAny_pure (wpAny_pure ⟨rfl, h6⟩)) fun _ _ f => f))
section
variable {X : Cx} {pins : List (Addr × Obj)} {σ : St} {H : Hp} {s : Shared}
noncomputable def listObj (its : List Value) (n : Nat) : Obj := { cls := .type "list", data := .seq its.toArray n }
theorem okBlk_free {sc out : Scope} (h : okBlk sc out = true) {p : Str × NameKind} (hp : p ∈ sc.names) (hf : p.2 = .free) : out.names.lookup p.1 = some .cell ∨ out.names.lookup p.1 = some .free := by
  have := List.all_eq_true.mp h p hp
  simp only [hf, Bool.and_eq_true, Bool.or_eq_true, beq_iff_eq, bne_iff_ne, ne_eq, not_true, false_or] at this
  exact this.2
theorem okBlk_cell {sc out : Scope} (h : okBlk sc out = true) {p : Str × NameKind} (hp : p ∈ sc.names) : p.2 ≠ .cell := by
  have := List.all_eq_true.mp h p hp
  simp only [Bool.and_eq_true, bne_iff_ne, ne_eq] at this
  exact this.1.1
theorem okBlk_local {sc out : Scope} (h : okBlk sc out = true) {p : Str × NameKind} (hp : p ∈ sc.names) (hf : p.2 = .local) : sc.names.lookup p.1 = some .local := by
  have := List.all_eq_true.mp h p hp
  simp only [hf, Bool.and_eq_true, Bool.or_eq_true, beq_iff_eq, bne_iff_ne, ne_eq, not_true, false_or] at this
  exact this.1.2
theorem relabel_lookup {sc : Scope} {env : Env} {x : Str} : ∀ {names : List (Str × NameKind)} {k : NameKind}, (names.map fun (p : Str × NameKind) => match p with | (n, k) => if (k == NameKind.free && env.scope.kind == .function && env.kindOf n == some .cell) then (n, NameKind.cell) else (n, k)).lookup x = some k →
    ∃ k', names.lookup x = some k' ∧ (k' = k ∨ (k' = .free ∧ k = .cell))
  | [], _, h => by simp at h
  | (n, q) :: r, k, h => by
    rw [List.map_cons] at h
    rw [List.lookup_cons]
    cases hx : (x == n) with
    | true =>
      refine ⟨q, rfl, ?_⟩
      by_cases hc : (q == NameKind.free && env.scope.kind == .function && env.kindOf n == some .cell) = true
      · simp only [hc, if_true, List.lookup_cons, hx] at h
        right
        simp only [Bool.and_eq_true, beq_iff_eq] at hc
        exact ⟨hc.1.1, (Option.some.inj h).symm⟩
      · left
        have h2 : List.lookup x ((n, q) :: (r.map fun (p : Str × NameKind) => match p with | (n, k) => if (k == NameKind.free && env.scope.kind == .function && env.kindOf n == some .cell) then (n, NameKind.cell) else (n, k))) = some k := by
          have h3 := h
          dsimp only at h3
          rw [if_neg hc] at h3
          exact h3
        rw [List.lookup_cons, hx] at h2
        exact Option.some.inj h2
    | false =>
      have : List.lookup x (r.map fun (p : Str × NameKind) => match p with | (n, k) => if (k == NameKind.free && env.scope.kind == .function && env.kindOf n == some .cell) then (n, NameKind.cell) else (n, k)) = some k := by
        by_cases hc : (q == NameKind.free && env.scope.kind == .function && env.kindOf n == some .cell) = true
        · simpa only [hc, if_true, List.lookup_cons, hx] using h
        · dsimp only at h
          rw [if_neg hc, List.lookup_cons, hx] at h
          exact h
      exact relabel_lookup (sc := sc) this
theorem mem_of_lookup' {names : List (Str × NameKind)} {x : Str} {k : NameKind} (h : names.lookup x = some k) : (x, k) ∈ names := PySem.mem_of_lookup h
theorem cl_sub (ok : X.Ok) {sc : Scope} (hb : okBlk sc X.env.scope = true) {x : Str} {c : Addr} (h : (clOf sc.names X.env.cells).lookup x = some c) : X.env.cells.lookup x = some c := by
  rcases clOf_gen X.env.cells sc.names [] x c h with ⟨h1, h2⟩ | h1
  · obtain ⟨d, hd⟩ := ok.has x (okBlk_free hb h1 rfl)
    rw [hd] at h2 ⊢
    rw [h2]
    rfl
  · simp at h1
theorem cl_has {sc : Scope} {x : Str} {cells : List (Str × Addr)} (h : (x, NameKind.free) ∈ sc.names) : ∃ c, (clOf sc.names cells).lookup x = some c :=
  Option.isSome_iff_exists.mp (clOf_has cells sc.names [] x (.inl h))
theorem Inv.stk_lt (I : Inv X pins σ H s) {b : Addr} (hb : b ∈ frs X.stack) : b < s.heap.objs.size := by
  rcases List.mem_cons.mp (I.stkSub b hb) with e | h
  · rw [e]; exact I.lt
  · obtain ⟨_, o, ho, _⟩ := I.ok.funs.mem h
    exact Nat.lt_of_lt_of_le (Heap.lt_size ho) I.sz
theorem Inv.cell_lt (I : Inv X pins σ H s) {x : Str} {c : Addr} (h : X.env.cells.lookup x = some c) : c < s.heap.objs.size := by
  obtain ⟨v, q⟩ := I.cell x c h
  exact q.lt
theorem Inv.pin_lt (I : Inv X pins σ H s) {p : Addr × Obj} (h : p ∈ X.pn ++ pins) : p.1 < s.heap.objs.size := Heap.lt_size (I.pin p h).1
theorem blk_ok (I : Inv X pins σ H s) {sc : Scope} {own : List Str} {js : List Nat} {fp : List Addr} {C : Nat} (hk : sc.kind = .function) (hb : okBlk sc X.env.scope = true)
    (hfp : ∀ b ∈ fp, FpOk X pins H b) (hC : s.heap.objs.size ≤ C) (hlt : ∀ b ∈ fp, b < s.heap.objs.size) : (blk X sc own js ⟨s, H, fp, C⟩).Ok where
  mod := I.ok.mod
  kind := hk
  glob := I.ok.glob
  blt := I.ok.blt
  above := hC
  inj := fun x y c h1 h2 => I.ok.inj x y c (cl_sub I.ok hb h1) (cl_sub I.ok hb h2)
  has := fun x hx => by
    have hx' : (relabel sc X.env).names.lookup x = some .cell ∨ (relabel sc X.env).names.lookup x = some .free := hx
    have go : ∀ k, (relabel sc X.env).names.lookup x = some k → (k = .cell ∨ k = .free) → ∃ c, (clOf sc.names X.env.cells).lookup x = some c := fun k h hkk => by
      obtain ⟨k', h1, h2⟩ := relabel_lookup (sc := sc) (env := X.env) h
      have m := mem_of_lookup' h1
      rcases h2 with h2 | ⟨h2, _⟩
      · subst h2
        rcases hkk with e | e
        · exact absurd e (okBlk_cell hb m)
        · rw [e] at m; exact cl_has m
      · rw [h2] at m; exact cl_has m
    rcases hx' with h | h
    · exact go _ h (.inl rfl)
    · exact go _ h (.inr rfl)
  cab := fun x c h _ => by cases h
  hd := I.ok.hd
  frames := I.ok.frames
  stk := .inl rfl
  exf := fun b hb' => ⟨Nat.ne_of_lt (Nat.lt_of_lt_of_le (hlt b hb') hC), fun x c e => (hfp b hb').2.2.2.2.1 x c (cl_sub I.ok hb e)⟩
  bs := I.bs
  bsz := Nat.le_trans I.ok.bsz I.sz
  noex := fun b o e hb' => by
    rcases (hfp b hb').2.2.2.1 with z | z
    · exact I.ok.noex b o e z
    · exact absurd (Nat.lt_of_lt_of_le (Heap.lt_size e) (Nat.le_trans I.ok.bsz z)) (Nat.lt_irrefl _)
  exfs := fun b hb' hm => by
    rcases List.mem_cons.mp (I.stkSub b hm) with e | h
    · exact (hfp b hb').2.1 e
    · exact (hfp b hb').2.2.1 h
  funs := I.stack
  frf := I.stkFree
theorem capt_get {n : Nat} {js : List Nat} {i : Nat} {v : V} (h : (capt n js σ)[i]? = some (some v)) : ∃ k j, i = n + k ∧ js[k]? = some j ∧ σ[j]? = some (some v) := by
  unfold capt at h
  by_cases hi : i < n
  · rw [List.getElem?_append_left (by simpa using hi), List.getElem?_replicate] at h
    split at h <;> cases h
  · rw [List.getElem?_append_right (by simpa using Nat.le_of_not_lt hi), List.length_replicate, List.getElem?_map] at h
    cases e : js[i - n]? with
    | none => rw [e] at h; cases h
    | some j =>
      rw [e] at h
      refine ⟨i - n, j, by omega, e, ?_⟩
      have h' : (σ[j]?).join = some v := by simpa using h
      cases q : σ[j]? with
      | none => rw [q] at h'; cases h'
      | some o =>
        rw [q] at h'
        have : o = some v := h'
        rw [this]
theorem blk_inv (I : Inv X pins σ H s) {sc : Scope} {own : List Str} {js : List Nat} {fp : List Addr} {C D : Nat} {h1 : Heap} {tk : Nat} {o : Obj} {m : Str → Option Value} (hk : sc.kind = .function) (hb : okBlk sc X.env.scope = true) (hj : okCap sc X.N js = true)
    (hfp : ∀ b ∈ fp, FpOk X pins H b) (hlt : ∀ b ∈ fp, b < s.heap.objs.size) (hD : D = s.heap.objs.size) (hC : C = s.heap.objs.size + 1) (old : ∀ b o, s.heap.get? b = some o → h1.get? b = some o)
    (hDo : h1.get? D = some o) (hod : ∀ v, o.data ≠ .cell v) (hm : h1.Ns C m) :
    Inv (blk X sc own js ⟨s, H, fp, C⟩) [(D, o)] (capt own.length js σ) H { s with heap := h1, toks := tk } where
  ok := blk_ok I hk hb hfp (show @LE.le Nat _ s.heap.objs.size C by omega) hlt
  os := rfl
  bare := I.bare
  base := Un.kept old
  loc := by
    refine ⟨m, hm, fun i x v e1 e2 e3 => ?_⟩
    obtain ⟨k, j, rfl, ej, es⟩ := capt_get e2
    have e1' : (own ++ js.map fun j => X.N.getD j "")[own.length + k]? = some x := e1
    rw [List.getElem?_append_right (by omega), Nat.add_sub_cancel_left, List.getElem?_map, ej] at e1'
    have ex : X.N.getD j "" = x := by simpa using e1'
    have hjj := List.all_eq_true.mp hj j (List.mem_of_getElem? ej)
    simp only [Bool.and_eq_true, decide_eq_true_eq, beq_iff_eq] at hjj
    have exN : X.N[j]? = some x := by
      rw [← ex, List.getD_eq_getElem?_getD, List.getElem?_eq_getElem hjj.1]
      rfl
    have hfree : sc.names.lookup x = some .free := by rw [← ex]; exact hjj.2
    have hmem := mem_of_lookup' hfree
    have hout := okBlk_free hb hmem rfl
    obtain ⟨m0, hn0, hl0⟩ := I.loc
    obtain ⟨u, r, l⟩ := hl0 j x v exN es (by rcases hout with z | z; exact .inr (.inl z); exact .inr (.inr z))
    refine ⟨u, r, ?_⟩
    obtain ⟨c, hc⟩ := cl_has (cells := X.env.cells) hmem
    have hc' := cl_sub I.ok hb hc
    have hcell : s.heap.IsCell c (some u) := by
      rcases l with ⟨z, _⟩ | ⟨_, c', e', q⟩
      · have z' : X.env.scope.names.lookup x = some .local := z
        rcases hout with w | w <;> (rw [z'] at w; cases w)
      · rw [hc'] at e'; cases e'; exact q
    have hcell1 : h1.IsCell c (some u) := by
      obtain ⟨oc, ho, hd⟩ := hcell
      exact ⟨oc, old c oc ho, hd⟩
    right
    refine ⟨?_, c, hc, hcell1⟩
    have e3' : (relabel sc X.env).names.lookup x = some .local ∨ (relabel sc X.env).names.lookup x = some .cell ∨ (relabel sc X.env).names.lookup x = some .free := e3
    rcases e3' with z | z
    · obtain ⟨k', z1, z2⟩ := relabel_lookup (sc := sc) (env := X.env) z
      rw [hfree] at z1
      rcases z2 with z2 | ⟨_, z2⟩
      · rw [z2] at z1; cases z1
      · cases z2
    · exact z
  cell := fun x c e => by
    obtain ⟨v, oc, ho, hd⟩ := I.cell x c (cl_sub I.ok hb e)
    exact ⟨v, oc, old c oc ho, hd⟩
  free := I.hok.fresh (show @LE.le Nat _ s.heap.objs.size C by omega)
  freeC := fun x c e => I.freeC x c (cl_sub I.ok hb e)
  pin := fun p hp => by
    have e : p = (D, o) := by simpa [blk] using hp
    subst e
    refine ⟨hDo, I.hok.fresh (show @LE.le Nat _ s.heap.objs.size D by omega), ?_, fun z => ?_, hod⟩
    · exact Nat.ne_of_lt (show @LT.lt Nat _ D C by omega)
    · have h9 : @LT.lt Nat _ D s.heap.objs.size := I.stk_lt (b := D) z
      omega
  hok := I.hok.kept old
  len := by
    show (capt own.length js σ).length = (own ++ js.map fun j => X.N.getD j "").length
    simp [capt]
noncomputable def CompBody (J : It) (n : Nat) (js : List Nat) (g : TG) (tc : TT) (te : TE) (σ : St) (H : Hp) (Q : VK) : Prop :=
  ∃ W : Nat → Nat → List V → Hp → Prop, (∃ m, W 0 m [] H) ∧ ∀ i m ys H', W i m ys H' →
    (J.stop i H' ∧ ∀ p, H' p = none → Q (.ref p) (upd H' p (.lst ys))) ∨
    (J.go i H' ∧ ys.length < sizeLine ∧ ∃ N : List V → Hp → Prop, (∀ ys' H2, N ys' H2 → ∃ m', m' < m ∧ W (i + 1) m' ys' H2) ∧ ∀ x H2, J.yld i H' x H2 → g x (capt n js σ) H2 fun σ2 H3 => tc σ2 H3 fun b H4 =>
      if b = true then te σ2 H4 fun v H5 => N (ys ++ [v]) H5 else N ys H4)
noncomputable def tComp (n : Nat) (js : List Nat) (wi : TI) (g : TG) (tc : TT) (te : TE) : TE := fun σ H Q => wi σ H fun J H1 => CompBody J n js g tc te σ H1 Q
theorem comp_core {elt tg iter : Expr} {ifs : List Expr} {sc : Scope} {pos : Pos} {own : List Str} {js : List Nat} {g : TG} {tc : TT} {te : TE} {J : It} {it : Addr} {fp : List Addr} {tn : Nat → Heap → Prop} {RR : Value → Addr → Result → Shared → Prop} {E : Value → Shared → Prop}
    {Q : VK} {W : Nat → Nat → List V → Hp → Prop} (hk : sc.kind = .function) (hb : okBlk sc X.env.scope = true) (hj : okCap sc X.N js = true) (hc : X.calm = true)
    (hg : ∀ z, PG (blk X sc own js z) tg g) (ht : ∀ z, PCs (blk X sc own js z) ifs tc) (he : ∀ z, PE (blk X sc own js z) elt te)
    (I : Inv X pins σ H s) (T : Turn X.prog X.w X.K tg J fp it tn) (st : tn 0 s.heap) (hfp : ∀ b ∈ fp, FpOk X pins H b) (w0 : ∃ m, W 0 m [] H)
    (turn : ∀ i m ys H', W i m ys H' → (J.stop i H' ∧ ∀ p, H' p = none → Q (.ref p) (upd H' p (.lst ys))) ∨
      (J.go i H' ∧ ys.length < sizeLine ∧ ∃ N : List V → Hp → Prop, (∀ ys' H2, N ys' H2 → ∃ m', m' < m ∧ W (i + 1) m' ys' H2) ∧ ∀ x H2, J.yld i H' x H2 → g x (capt own.length js σ) H2 fun σ2 H3 => tc σ2 H3 fun b H4 =>
        if b = true then te σ2 H4 fun v H5 => N (ys ++ [v]) H5 else N ys H4))
    (fin : ∀ D C s' ys H', H' D = none → Inv X pins σ (upd H' D (.lst ys)) s' → FpOk X pins (upd H' D (.lst ys)) C → (∃ m, s'.heap.Ns C m) → s.heap.objs.size ≤ C → Q (.ref D) (upd H' D (.lst ys)) → RR (.ref D) C (.ok .next) s') :
    wpAny (model X.prog X.w) X.A (newList []) (fun acc s₃ => wpAny (model X.prog X.w) X.A (newFunctionEnv sc X.env.globals (clOf sc.names X.env.cells) [] X.env.qual none .none (some X.env)) (fun cenv s₄ =>
      codeAny (model X.prog X.w) X.A (.compStart (.ListComp elt [⟨tg, iter, ifs, 0⟩] sc pos) 0 (.ref it) acc { cenv with scope := relabel sc X.env }) (RR acc cenv.locals) s₄) E s₃) E s := by
  have hlt : ∀ b ∈ fp, b < s.heap.objs.size := fun b hb' => by
    obtain ⟨o, e, _⟩ := T.obj 0 s.heap st b hb'
    exact Heap.lt_size e
  refine wpAny_newObj_type (wpAny_newFunctionEnv (fun y hy => okBlk_cell hb hy) (by intro y hy; simp at hy) (fun h₁ hns₁ hsb₁ => ?_) hk)
  dsimp only at hns₁ hsb₁ ⊢
  generalize hH2 : s.heap.push { cls := .type "list", dict := none, data := .seq ([] : List Value).toArray } = H2 at hns₁ hsb₁ ⊢
  have hCs : H2.objs.size = s.heap.objs.size + 1 := by rw [← hH2, Heap.size_push]
  generalize hCe : H2.objs.size = C at *
  have below : ∀ b : Nat, b < s.heap.objs.size → b ≠ C := fun b hb' => by omega
  have old : ∀ b o, s.heap.get? b = some o → h₁.get? b = some o := fun b o e => hsb₁.extBut b o (below b (Heap.lt_size e)) (Heap.get?_push_of_some _ (hH2 ▸ Heap.get?_push_of_some _ e))
  have hDo : h₁.get? s.heap.objs.size = some (listObj [] 0) := hsb₁.extBut _ _ (show @Ne Nat s.heap.objs.size C by omega) (Heap.get?_push_of_some _ (hH2 ▸ Heap.get?_push_size _ rfl))
  generalize hDe : s.heap.objs.size = D at *
  -- the loop's word
  let Y : Cx := blk X sc own js ⟨s, H, fp, C⟩
  have J0 : Inv Y [(D, listObj [] 0)] (capt own.length js σ) H { s with heap := h₁, toks := s.toks + ([] : List (Str × Value)).length } :=
    blk_inv I hk hb hj hfp (by rw [hDe]; exact hlt) hDe.symm (by rw [hDe]; exact hCs) old hDo (fun v z => by cases z) hns₁
  have ndC : @Ne Nat D C := by omega
  have statF : ∀ {P' : List (Addr × Obj)} {H' : Hp}, (∀ b ∈ fp, H' b = none) → (∀ p ∈ P', p.1 ∉ fp) → ∀ b ∈ fp, FpOk Y P' H' b := fun {P' H'} hn hp b hb' => by
    obtain ⟨f0, f1, f2, f3, f4, f5⟩ := hfp b hb'
    refine ⟨hn b hb', fun z => below b (hlt b hb') z, fun z => ?_, .inl hb', fun x c e => f4 x c (cl_sub I.ok hb e), fun p hp' z => ?_⟩
    · rcases List.mem_cons.mp (I.stkSub b z) with e | h
      · exact f1 e
      · exact f2 h
    · have : p ∈ P' := by simpa [Y, blk] using hp'
      exact hp p this (by rw [z]; exact hb')
  have Dfp : D ∉ fp := fun z => by have h9 : @LT.lt Nat _ D D := hlt D z; omega
  have st1 : tn 0 h₁ := T.keep 0 s.heap h₁ st fun b _ o e => old b o e
  have loop : ∀ s₃ : Shared, s₃ = { s with heap := h₁, toks := s.toks + ([] : List (Str × Value)).length } →
      codeAny (model X.prog X.w) X.A (.compLoop (.ListComp elt [⟨tg, iter, ifs, 0⟩] sc pos) 0 (.ref it) (.ref D) Y.env) (RR (.ref D) C) s₃ := by
    rintro s₃ rfl
    obtain ⟨m0, w0⟩ := w0
    refine compLoop_own (fun n s' => ∃ i ys its q H', Inv Y [(D, listObj its q)] (capt own.length js σ) H' s' ∧ Vals ys its ∧ ys.length ≤ sizeLine ∧ tn i s'.heap ∧ (∀ b ∈ fp, H' b = none) ∧ W i n ys H') ?_ m0
      ⟨0, [], [], 0, H, J0, .nil, Nat.zero_le _, st1, fun b hb' => (hfp b hb').1, w0⟩
    rintro n s3 ⟨i, ys, its, q, H3, I3, rv, hz, st3, fr3, w3⟩
    have pD : ∀ p ∈ [(D, listObj its q)], p.1 ∉ fp := fun p hp => by
      have e : p = (D, listObj its q) := by simpa using hp
      rw [e]; exact Dfp
    rcases turn i n ys H3 w3 with ⟨stop, qn⟩ | ⟨go, hlen, N, hN, step⟩
    · -- the end
      refine thn (T.done Y rfl rfl rfl hc i _ s3 _ H3 _ I3 (statF fr3 pD) st3 stop) fun r s4 ⟨hr, I4⟩ => ?_
      subst hr
      show RR (.ref D) C (.ok .next) s4
      have hDp := I4.pin (D, listObj its q) (List.mem_append_right _ (List.mem_singleton.mpr rfl))
      have hD4 : s4.heap.get? D = some (listObj its q) := hDp.1
      have nD : H3 D = none := hDp.2.1
      have U : Un (frs X.stack) fp H H3 s.heap s4.heap := I4.base
      have neD : ∀ b o, s.heap.get? b = some o → b ≠ D := fun b o e => Nat.ne_of_lt (by have h9 : @LT.lt Nat _ b s.heap.objs.size := Heap.lt_size e; omega)
      have neDH : ∀ b o, H b = some o → b ≠ D := fun b o e => Nat.ne_of_lt (by have h9 : @LT.lt Nat _ b s.heap.objs.size := I.hok.lt e; omega)
      have U2 : Un (frs X.stack) fp H (upd H3 D (.lst ys)) s.heap s4.heap :=
        ⟨U.keep, U.slot, fun b o e n hx => by rw [upd_ne (neD b o e)]; exact U.free b o e n hx, U.there, fun b xs e => by rw [upd_ne (neDH b _ e)]; exact U.tups b xs e,
          fun b o u e => by rw [upd_ne (neDH b _ e)]; exact U.frzs b o u e, fun b ps e => by rw [upd_ne (neDH b _ e)]; exact U.tbls b ps e⟩
      have hok2 : HOk X.prog X.w (upd H3 D (.lst ys)) s4.heap := fun b o e => by
        by_cases hb' : b = D
        · subst hb'
          rw [upd_same] at e
          cases e
          exact ⟨hz, its, q, rv, hD4⟩
        · rw [upd_ne hb'] at e
          exact (I4.hok b o e).stay (fun c u _ z => z) (fun c z => by rw [upd_ne (ne_of_none z nD)]; exact z) fun c xs z => by rw [upd_ne (ne_of_none z nD)]; exact z
      have IX : Inv X pins σ (upd H3 D (.lst ys)) s4 := I.call' (ch := fp) I4.os U2 hok2 I4.bare fun b hb' => by
        obtain ⟨f0, f1, f2, f3, f4, f5⟩ := hfp b hb'
        exact ⟨f3, f1, f4, f5⟩
      obtain ⟨m4, hn4, _⟩ := I4.loc
      have nC : H3 C = none := I4.free
      refine fin D C s4 ys H3 nD IX ?_ ⟨m4, hn4⟩ (show @LE.le Nat _ D C by omega) (qn D nD)
      refine ⟨by rw [upd_ne (Ne.symm ndC)]; exact nC, ?_, ?_, ?_, ?_, ?_⟩
      · have h9 : @LT.lt Nat _ X.env.locals s.heap.objs.size := I.lt
        exact Nat.ne_of_gt (show @LT.lt Nat _ X.env.locals C by omega)
      · exact I.nofs (show @LE.le Nat _ s.heap.objs.size C by omega)
      · right
        have h9 : @LE.le Nat _ X.s₀.heap.objs.size s.heap.objs.size := I.sz
        exact (show @LE.le Nat _ X.s₀.heap.objs.size C by omega)
      · intro x c e
        have h9 : @LT.lt Nat _ c s.heap.objs.size := I.cell_lt e
        exact Nat.ne_of_lt (show @LT.lt Nat _ c C by omega)
      · intro p hp
        have h9 : @LT.lt Nat _ p.1 s.heap.objs.size := I.pin_lt hp
        exact Nat.ne_of_lt (show @LT.lt Nat _ p.1 C by omega)
    · -- a turn
      refine thn (T.item Y rfl rfl rfl hc i _ s3 _ H3 _ I3 (statF fr3 pD) st3 go) fun r s4 ⟨u, hr, h4⟩ => ?_
      subst hr
      refine thn h4 fun _ s5 ⟨x, H5, I5, r5, y5, st5, fr5⟩ => ?_
      have I5' := I5.pinned (statF fr5 pD) (T.obj _ _ st5)
      refine thn (hg _ _ s5 _ H5 x u _ I5' r5 (step x H5 y5)) fun _ s6 ⟨σ6, H6, I6, q6⟩ => ?_
      refine thn (ht _ _ s6 σ6 H6 _ I6 q6) fun ok s7 ⟨H7, I7, q7⟩ => ?_
      have back : ∀ {s' : Shared} {σ' : St} {H' : Hp} {ys' : List V} {its' : List Value} {q' : Nat}, Inv Y ([(D, listObj its' q')] ++ pinsAt fp s5.heap) σ' H' s' → Vals ys' its' → ys'.length ≤ sizeLine → N ys' H' →
          ∃ m, m < n ∧ ∃ i ys its q H', Inv Y [(D, listObj its q)] (capt own.length js σ) H' s' ∧ Vals ys its ∧ ys.length ≤ sizeLine ∧ tn i s'.heap ∧ (∀ b ∈ fp, H' b = none) ∧ W i m ys H' := by
        intro s' σ' H' ys' its' q' I' rv' hz' nn
        obtain ⟨m', hm, w'⟩ := hN ys' H' nn
        have hpin : ∀ b ∈ fp, ∀ o, s5.heap.get? b = some o → s'.heap.get? b = some o ∧ H' b = none := fun b hb' o e => by
          have := I'.pin (b, o) (List.mem_append_right _ (List.mem_append_right _ (mem_pinsAt hb' e)))
          exact ⟨this.1, this.2.1⟩
        refine ⟨m', hm, i + 1, ys', its', q', H', ?_, rv', hz', T.keep _ _ _ st5 fun b hb' o e => (hpin b hb' o e).1, fun b hb' => ?_, w'⟩
        · have I'' := I'.unpinned
          obtain ⟨mm, hmm, _⟩ := id I''.loc
          refine ⟨I''.ok, I''.os, I''.bare, I''.base, ⟨mm, hmm, fun k x v e1 e2 e3 => ?_⟩, I''.cell, I''.free, I''.freeC, I''.pin, I''.hok, ?_⟩
          · -- the captured names: their cells are as they were at the block's beginning
            obtain ⟨m1, hn1, hl1⟩ := J0.loc
            obtain ⟨u1, r1, l1⟩ := hl1 k x v e1 e2 e3
            refine ⟨u1, r1, ?_⟩
            rcases l1 with ⟨z, zz⟩ | ⟨z, c, e, zz⟩
            · -- a captured name is no local one
              exfalso
              obtain ⟨k', j, rfl, ej, es⟩ := capt_get e2
              have e1' : (own ++ js.map fun j => X.N.getD j "")[own.length + k']? = some x := e1
              rw [List.getElem?_append_right (by omega), Nat.add_sub_cancel_left, List.getElem?_map, ej] at e1'
              have ex : X.N.getD j "" = x := by simpa using e1'
              have hjj := List.all_eq_true.mp hj j (List.mem_of_getElem? ej)
              simp only [Bool.and_eq_true, decide_eq_true_eq, beq_iff_eq] at hjj
              have hfree : sc.names.lookup x = some .free := by rw [← ex]; exact hjj.2
              obtain ⟨k2, z1, z2⟩ := relabel_lookup (sc := sc) (env := X.env) (show (relabel sc X.env).names.lookup x = some .local from z)
              rw [hfree] at z1
              rcases z2 with z2 | ⟨_, z2⟩
              · rw [z2] at z1; cases z1
              · cases z2
            · refine .inr ⟨z, c, e, ?_⟩
              have hcs : X.env.cells.lookup x = some c := cl_sub I.ok hb e
              obtain ⟨ov, oc, hoc, hdc⟩ := I.cell x c hcs
              have hoc1 := old c oc hoc
              obtain ⟨oz, hoz, hdz⟩ := zz
              have hoz' : h₁.get? c = some oz := hoz
              rw [hoc1] at hoz'
              cases hoz'
              have cnf : c ∉ fp := fun z' => (hfp c z').2.2.2.2.1 x c hcs rfl
              obtain ⟨sl, hh⟩ := I''.base.any hoc (I.freeC x c hcs) cnf
              exact ⟨_, hh, hdz⟩
          · show (capt own.length js σ).length = _
            exact J0.len
        · obtain ⟨o, e, d⟩ := T.obj _ _ st5 b hb'
          exact (hpin b hb' o e).2
      cases ok with
      | false =>
        rw [if_neg Bool.false_ne_true] at q7 ⊢
        exact back I7 rv hz q7
      | true =>
        rw [if_pos rfl] at q7 ⊢
        refine thn (he _ _ s7 σ6 H7 _ I7 q7) fun xv s8 ⟨v, H8, I8, r8, q8⟩ => ?_
        have hDp := I8.pin (D, listObj its q) (List.mem_append_right _ (List.mem_append_left _ (List.mem_singleton.mpr rfl)))
        have hD8 : s8.heap.get? D = some { cls := .type "list", data := .seq its.toArray q } := hDp.1
        have hl := rv.length
        refine call_meets F.slot_list_append ⟨_, hD8, rfl⟩ F.entry_list_append (F.args_list_append_2 _ _) (PySem.list_append D its.toArray q xv (by rw [List.size_toArray]; omega)) ⟨hD8, ?_⟩
        have qq := PySem.IsL.update hD8 (fun a => a.push xv)
        have eqs : its.toArray.push xv = (its ++ [xv]).toArray := by simp
        rw [eqs] at qq
        obtain ⟨q2, hq2⟩ : ∃ q2, (s8.heap.update D (Obj.mapSeq fun a => a.push xv)).get? D = some (listObj (its ++ [xv]) q2) := ⟨_, qq⟩
        -- without the pin of D, the record turns, then it is pinned again
        have I8a : Inv Y (pinsAt fp s5.heap) σ6 H8 s8 := I8.pins_of fun p hp => I8.pin p (List.mem_append_right _ (List.mem_append_right _ hp))
        have nD8 : H8 D = none := hDp.2.1
        have I9 : Inv Y (pinsAt fp s5.heap) σ6 H8 { s8 with heap := s8.heap.update D (Obj.mapSeq fun a => a.push xv), toks := s8.toks } := by
          refine I8a.turned (it := D) (fun b o hb' e => (Heap.get?_update_other s8.heap (Obj.mapSeq fun a => a.push xv) (Ne.symm hb')).trans e) nD8 ndC (.inr (show @LE.le Nat _ s.heap.objs.size D by omega)) (fun x c e => ?_) fun p hp => ?_
          · have h9 : @LT.lt Nat _ c s.heap.objs.size := I.cell_lt (cl_sub I.ok hb e)
            exact Nat.ne_of_lt (show @LT.lt Nat _ c D by omega)
          · have hp' : p ∈ pinsAt fp s5.heap := by simpa [Y, blk] using hp
            obtain ⟨h1, _⟩ := of_pinsAt hp'
            exact fun z => Dfp (z ▸ h1)
        refine back (ys' := ys ++ [v]) (its' := its ++ [xv]) (q' := q2) (I9.pins_of fun p hp => ?_) (rv.append (.cons r8 .nil)) (by rw [List.length_append, List.length_singleton]; omega) q8
        rcases List.mem_append.mp hp with hp | hp
        · have e : p = (D, listObj (its ++ [xv]) q2) := by simpa using hp
          subst e
          refine ⟨hq2, nD8, ndC, fun z => ?_, fun v z => by cases z⟩
          have h9 : @LT.lt Nat _ D s.heap.objs.size := I.stk_lt (b := D) z
          omega
        · exact I9.pin p (List.mem_append_right _ hp)
  exact codeAny_compStart_list (loop _ rfl) (T.self X.A 0 { s with heap := h₁, toks := s.toks + ([] : List (Str × Value)).length } _ _ st1 (loop _ rfl))
theorem pe_comp {elt tg iter : Expr} {ifs : List Expr} {sc : Scope} {pos : Pos} (own : List Str) (js : List Nat) {wi : TI} {g : TG} {tc : TT} {te : TE} (hi : PI X tg iter wi) (hg : ∀ z, PG (blk X sc own js z) tg g) (ht : ∀ z, PCs (blk X sc own js z) ifs tc)
    (he : ∀ z, PE (blk X sc own js z) elt te) (hc : X.calm = true := by rfl) (hk : sc.kind = .function := by rfl) (hb : okBlk sc X.env.scope = true := by rfl) (hj : okCap sc X.N js = true := by rfl)
    (hs : ∀ x, foldedSetIterable iter X.env x = pure x := by intro _; rfl) : PE X (.ListComp elt [⟨tg, iter, ifs, 0⟩] sc pos) (tComp own.length js wi g tc te) := by
  intro pins s σ H Q I h
  rw [eval_ListComp]
  refine wpAny_comprehension_free (use := none) rfl hs (closure_eq fun p hp hf => I.ok.has p.1 (okBlk_free hb hp hf)) hk (fun p hp hl => okBlk_local hb hp hl) (thn (hi pins s σ H _ I h) fun v s1 h1 => thn h1 fun itv s2 h2 => ?_)
  obtain ⟨it, fp, tn, J, H2, e, I2, T, st2, f2, W, w0, turn⟩ := h2
  subst e
  refine comp_core (RR := fun acc C => compPost (model X.prog X.w) X.A X.xe none (EP X pins σ Q) acc C) hk hb hj hc hg ht he I2 T st2 f2 w0 turn ?_
  intro D C s' ys H' nD I' hC ⟨m, hm⟩ _ q
  refine ⟨m, hm, fun h' hs' => ?_⟩
  obtain ⟨f0, f1, f2, f3, f4, f5⟩ := hC
  exact ⟨.ref D, _, I'.turned (t' := s'.toks) (it := C) (fun b o hb' e => (hs'.2 b hb').trans e) f0 f1 f3 f4 f5, rfl, q⟩
theorem ps_setComp {i : Nat} {y : Str} {py : Pos} {elt tg iter : Expr} {ifs : List Expr} {sc : Scope} {pos spos : Pos} (own : List Str) (js : List Nat) {wi : TI} {g : TG} {tc : TT} {te : TE} (hN : X.N.Nodup) (hi' : X.N[i]? = some y) (hx : Loc X.env.scope y)
    (hi : PI X tg iter wi) (hg : ∀ z, PG (blk X sc own js z) tg g) (ht : ∀ z, PCs (blk X sc own js z) ifs tc)
    (he : ∀ z, PE (blk X sc own js z) elt te) (hsw : swapsWith (.ListComp elt [⟨tg, iter, ifs, 0⟩] sc pos) (some (.Name y py)) spos.line X.env = pure true := by rfl) (hc : X.calm = true := by rfl) (hk : sc.kind = .function := by rfl) (hb : okBlk sc X.env.scope = true := by rfl) (hj : okCap sc X.N js = true := by rfl)
    (hs : ∀ x, foldedSetIterable iter X.env x = pure x := by intro _; rfl) (hf : X.fn y = true ∨ X.env.scope.names.lookup y = some .local := by first | exact .inl rfl | exact .inr rfl | assumption) :
    PS X (.Assign [.Name y py] (.ListComp elt [⟨tg, iter, ifs, 0⟩] sc pos) spos) (tAsg (tComp own.length js wi g tc te) (gName i)) := by
  intro pins s σ H D' I h
  rw [exec_Assign_Name_used _ _ _ _ hsw]
  refine wpAny_bind (wpAny_standAt (wpAny_bind ?_))
  show wpAny _ X.A (do let _ ← comprehension (.ListComp elt [⟨tg, iter, ifs, 0⟩] sc pos) sc X.env _ (newList []) false (eval iter X.env) (some (assign (.Name y py) X.env))) _ _ s
  refine wpAny_bind (wpAny_mono (wpAny_comprehension_free (use := some (assign (.Name y py) X.env)) (Q := fun _ s' => SP X pins D' .next s') rfl hs (closure_eq fun p hp hf => I.ok.has p.1 (okBlk_free hb hp hf)) hk (fun p hp hl => okBlk_local hb hp hl)
    (thn (hi pins s σ H _ I h) fun v s1 h1 => thn h1 fun itv s2 h2 => ?_)) (fun _ s' hq => wpAny_pure (wpAny_pure hq)) fun _ _ e => e)
  obtain ⟨it, fp, tn, J, H2, e, I2, T, st2, f2, W, w0, turn⟩ := h2
  subst e
  refine comp_core (Q := fun x H1 => gName i x σ H1 D'.nx) (RR := fun acc C => compPost (model X.prog X.w) X.A X.xe (some (assign (.Name y py) X.env)) (fun _ s' => SP X pins D' .next s') acc C) hk hb hj hc hg ht he I2 T st2 f2 w0 turn ?_
  intro D C s' ys H' nD I' hC ⟨m, hm⟩ hCs q
  show wpAny _ X.A (assign (.Name y py) X.env (.ref D)) _ _ _
  refine wpAny_assign_Name (store_ok2 I' hN hi' hx (v := .ref D) rfl (fun s'' I'' ⟨a, hsb, ha⟩ => ?_) hf)
  obtain ⟨f0, f1, f2, f3, f4, f5⟩ := hC
  have hac : a ≠ C := by
    rcases ha with rfl | ha
    · exact Ne.symm f1
    · exact f4 y a ha
  refine ⟨m, hm.sameBut hsb (Ne.symm hac), fun h' hs' => ?_⟩
  exact ⟨_, _, I''.turned (t' := s''.toks) (it := C) (fun b o hb' e => (hs'.2 b hb').trans e) f0 f1 f3 f4 f5, q⟩
end
theorem comp_list {K : PySem.W.Frag} {a : Addr} {xs : List V} {n : Nat} {js : List Nat} {g : TG} {tc : TT} {te : TE} {Q : VK} {σ : St} {H : Hp} (Pv : Nat → List V → Hp → Prop) (hz : xs.length ≤ sizeLine) (h0 : Pv 0 [] H) (hl : ∀ i ys H, i ≤ xs.length → Pv i ys H → SqL K H a xs ∧ ys.length ≤ i)
    (hs : ∀ i x ys H, xs[i]? = some x → Pv i ys H → g x (capt n js σ) H fun σ2 H3 => tc σ2 H3 fun b H4 => if b = true then te σ2 H4 fun v H5 => Pv (i + 1) (ys ++ [v]) H5 else Pv (i + 1) ys H4)
    (hd : ∀ ys H p, Pv xs.length ys H → H p = none → Q (.ref p) (upd H p (.lst ys))) : CompBody (Itl K a) n js g tc te σ H Q := by
  refine ⟨fun i m ys H => m = xs.length - i ∧ i ≤ xs.length ∧ Pv i ys H, ⟨xs.length, by simp, Nat.zero_le _, h0⟩, ?_⟩
  rintro i m ys H ⟨rfl, hi, p⟩
  have q := hl i ys H hi p
  by_cases hlt : i < xs.length
  · refine .inr ⟨⟨xs, xs[i], q.1, by simp [hlt]⟩, by have := q.2; omega, Pv (i + 1), fun ys' H' p' => ⟨xs.length - (i + 1), by omega, rfl, hlt, p'⟩, fun x H' y => ?_⟩
    obtain ⟨e, y⟩ := y
    subst e
    exact hs i x ys _ (y xs q.1) p
  · have e : i = xs.length := by omega
    subst e
    exact .inl ⟨⟨xs, q.1, Nat.le_refl _⟩, fun p' hp => hd ys H p' p hp⟩
theorem comp_tup {K : PySem.W.Frag} {a : Addr} {xs : List V} {n : Nat} {js : List Nat} {g : TG} {tc : TT} {te : TE} {Q : VK} {σ : St} {H : Hp} (Pv : Nat → List V → Hp → Prop) (hz : xs.length ≤ sizeLine) (h0 : Pv 0 [] H) (hl : ∀ i ys H, i ≤ xs.length → Pv i ys H → SqT K H a xs ∧ ys.length ≤ i)
    (hs : ∀ i x ys H, xs[i]? = some x → Pv i ys H → g x (capt n js σ) H fun σ2 H3 => tc σ2 H3 fun b H4 => if b = true then te σ2 H4 fun v H5 => Pv (i + 1) (ys ++ [v]) H5 else Pv (i + 1) ys H4)
    (hd : ∀ ys H p, Pv xs.length ys H → H p = none → Q (.ref p) (upd H p (.lst ys))) : CompBody (Itt K a) n js g tc te σ H Q := by
  refine ⟨fun i m ys H => m = xs.length - i ∧ i ≤ xs.length ∧ Pv i ys H, ⟨xs.length, by simp, Nat.zero_le _, h0⟩, ?_⟩
  rintro i m ys H ⟨rfl, hi, p⟩
  have q := hl i ys H hi p
  by_cases hlt : i < xs.length
  · refine .inr ⟨⟨xs, xs[i], q.1, by simp [hlt]⟩, by have := q.2; omega, Pv (i + 1), fun ys' H' p' => ⟨xs.length - (i + 1), by omega, rfl, hlt, p'⟩, fun x H' y => ?_⟩
    obtain ⟨e, y⟩ := y
    subst e
    exact hs i x ys _ (y xs q.1) p
  · have e : i = xs.length := by omega
    subst e
    exact .inl ⟨⟨xs, q.1, Nat.le_refl _⟩, fun p' hp => hd ys H p' p hp⟩
theorem comp_range {lo : Int} {N n : Nat} {js : List Nat} {g : TG} {tc : TT} {te : TE} {Q : VK} {σ : St} {H : Hp} (Pv : Nat → List V → Hp → Prop) (hz : N ≤ sizeLine) (h0 : Pv 0 [] H) (hl : ∀ i ys H, i ≤ N → Pv i ys H → ys.length ≤ i)
    (hs : ∀ i ys H, i < N → Pv i ys H → g (.int (lo + i)) (capt n js σ) H fun σ2 H3 => tc σ2 H3 fun b H4 => if b = true then te σ2 H4 fun v H5 => Pv (i + 1) (ys ++ [v]) H5 else Pv (i + 1) ys H4)
    (hd : ∀ ys H p, Pv N ys H → H p = none → Q (.ref p) (upd H p (.lst ys))) : CompBody (Itr lo N) n js g tc te σ H Q := by
  refine ⟨fun i m ys H => m = N - i ∧ i ≤ N ∧ Pv i ys H, ⟨N, by simp, Nat.zero_le _, h0⟩, ?_⟩
  rintro i m ys H ⟨rfl, hi, p⟩
  have q := hl i ys H hi p
  by_cases hlt : i < N
  · refine .inr ⟨hlt, by omega, Pv (i + 1), fun ys' H' p' => ⟨N - (i + 1), by omega, rfl, hlt, p'⟩, fun x H' y => ?_⟩
    obtain ⟨e, y⟩ := y
    subst e y
    exact hs i ys _ hlt p
  · have e : i = N := by omega
    subst e
    exact .inl ⟨Nat.le_refl _, fun p' hp => hd ys H p' p hp⟩
end L2
set_option Elab.async false
set_option linter.all false
set_option maxRecDepth 100000
set_option maxHeartbeats 4000000
namespace L2
open PySem PySem.Spec PyProof.Rows
structure Cal (P : Program) (w : World) (K : PySem.W.Frag) (mg : Str → Option Value) (base : Heap) (x : Str) (k : Nat) (ps : List Str) (sp : Sp) : Prop where
  ex : ∃ (f : Addr) (fd : FuncData), mg x = some (.ref f) ∧ PySem.W.keepIn K (.ref f) = true ∧ Binds K fd ps [] ∧ FnOk P w K mg base CX0 k f fd ps sp
structure Dfn (K : PySem.W.Frag) (mg : Str → Option Value) (x : Str) (st : Stmt) (ps : List Str) : Prop where
  ex : ∃ (f : Addr) (fd : FuncData), mg x = some (.ref f) ∧ Fun K x x st f fd ∧ Binds K fd ps []
section
variable {P : Program} {w : World} {K : PySem.W.Frag} {mg : Str → Option Value} {base : Heap}
theorem Dfn.ok {x : Str} {st : Stmt} {N ps : List Str} {k : Nat} {sp : Sp} (D : Dfn K mg x st ps) (S : FnScope N ps (defScope st)) (len : ∀ vs H Q E, sp vs H Q E → vs.length = ps.length)
    (hbody : ∀ (X : Cx) (hX : ∃ f cdv A outer s H E, X = (cxOf CX0 P w K mg base N x (defScope st) f cdv A outer s H E).nox ∧ Room k X.A) (H : Hp) (vs : List V) (Q : VK) (E : XK), sp vs H Q E →
      ∃ t, PSs X (defBody st) t ∧ t { nx := fun _ H' => Q .non H', rt := Q } (start N vs) H) : Cal P w K mg base x (k + 1) ps sp := by
  obtain ⟨f, fd, hm, F, hb⟩ := D.ex
  exact ⟨f, fd, hm, F.kp, hb, F.ok S len fun cdv A outer s H vs Q E hr h => hbody _ ⟨f, cdv, A, outer, s, H, E, rfl, hr⟩ H vs Q E h⟩
end
section
variable {X : Cx}
theorem pe_cal {x : Str} {k j : Nat} {ps : List Str} {sp : Sp} {e : Expr} {es : List Expr} {t : TA} {p pos : Pos} (C : Cal X.prog X.w X.K X.mg X.base x j ps sp) (hr : Room k X.A) (ha : PA X (e :: es) t) (hjk : j ≤ k := by decide) (hg : Gl X x := by rfl) (hdb : (x == ("__debug__" : Str)) = false := by decide)
    (he : starEach (e :: es) X.env = (false, eval e X.env) :: starEach es X.env := by rfl) (hpl : (backTo pos (starEach es X.env)).any (·.1) = false := by rfl) :
    PE X (.Call (.Name x p) (e :: es) [] pos) (tCall sp [] E0 t) := by
  obtain ⟨f, fd, hm, hk, hb, F⟩ := C.ex
  exact pe_call F (hr.mono hjk) hg hm hk hb .nil pass0 ha hdb he hpl
theorem op_fdivL : OpR X (binaryOp .FloorDiv) (rI (fun _ j => 0 < j ∧ j < 2 ^ 64) fun i j => .int (i / j)) := opI fun i j _ _ _ _ _ hc q => by
  have h1 : (0 : Int) < j := hc.1
  have h2 : j < 2 ^ 64 := hc.2
  refine floordiv_int (by omega) (by rw [Int.fdiv_eq_ediv_of_nonneg i (by omega)]; exact q) (.inl (PyProof.noPylong_of_log2 ?_))
  have h0 : j.natAbs ≠ 0 := by omega
  have h64 : j.natAbs < 2 ^ 64 := by omega
  have := (Nat.log2_lt h0).mpr h64
  omega
noncomputable def kindV (H : Hp) : V → String → Prop
  | .non, n => n = "NoneType"
  | .bl _, n => n = "bool"
  | .int _, n => n = "int"
  | .str _, n => n = "str"
  | .ref a, n => (n = "list" ∧ ∃ xs, H a = some (.lst xs)) ∨ (n = "tuple" ∧ ∃ xs, H a = some (.tup xs))
  | _, _ => False
theorem kindV.ty {K : PySem.W.Frag} {H : Hp} {x : V} {n : String} (h : kindV H x n) : TyOf K H x (.type n) := by
  cases x with
  | non => cases (show n = "NoneType" from h); exact .non
  | bl b => cases (show n = "bool" from h); exact .bl b
  | int i => cases (show n = "int" from h); exact .int i
  | str z => cases (show n = "str" from h); exact .str z
  | ref a =>
    rcases h with ⟨rfl, xs, e⟩ | ⟨rfl, xs, e⟩
    · exact .lst e
    · exact .tup e
  | _ => exact False.elim h
noncomputable def isiB : String → String → Option Bool
  | "NoneType", "tuple" => some false | "NoneType", "int" => some false | "NoneType", "bool" => some false | "NoneType", "list" => some false | "NoneType", "str" => some false
  | "bool", "tuple" => some false | "bool", "int" => some true | "bool", "bool" => some true | "bool", "list" => some false | "bool", "str" => some false
  | "int", "tuple" => some false | "int", "int" => some true | "int", "bool" => some false | "int", "list" => some false | "int", "str" => some false
  | "str", "tuple" => some false | "str", "int" => some false | "str", "bool" => some false | "str", "list" => some false | "str", "str" => some true
  | "list", "tuple" => some false | "list", "int" => some false | "list", "bool" => some false | "list", "list" => some true | "list", "str" => some false
  | "tuple", "tuple" => some true | "tuple", "int" => some false | "tuple", "bool" => some false | "tuple", "list" => some false | "tuple", "str" => some false
  | _, _ => none
theorem isiB_kit {K : PySem.W.Frag} {n T : String} {b : Bool} (h : isiB n T = some b) : PySem.W.kitOne K (.type n) (.type T) = some b := by
  unfold isiB at h
  split at h <;> first
    | (cases h; kernel_rfl)
    | cases h
noncomputable def rIsi : List V → Hp → VK → Prop := fun xs H Q => ∃ x n T b, xs = [x, .ty T] ∧ kindV H x n ∧ isiB n T = some b ∧ Q (.bl b) H
theorem call_isi : CallR X (.builtin "isinstance") rIsi := by
  intro pins s σ H xs us Q I r h
  obtain ⟨x, n, T, b, rfl, hk, hb, q⟩ := h
  obtain ⟨u, w', rfl, r1, r2⟩ := vals2 r
  cases (show w' = Value.type T from r2)
  exact isinst_ok I r1 hk.ty (isiB_kit hb) fun tk => ⟨.bl b, H, I.tok tk, rfl, q⟩
noncomputable def ItrS (lo c : Int) (n : Nat) : It := ⟨fun i _ => i < n, fun i H x H' => H' = H ∧ x = .int (lo + i * c), fun i _ => n ≤ i⟩
theorem turn_rangeS {P : Program} {w : World} {K : PySem.W.Frag} {tg : Expr} (it : Addr) (lo c : Int) (n : Nat) : Turn P w K tg (ItrS lo c n) [it] it (fun i h => IsRangeIter h it (lo + (i : Nat) * c) ((n : Int) - (i : Nat)) c) where
  mem := by simp
  obj := fun i h st b hb => by
    have e : b = it := by simpa using hb
    subst e
    exact ⟨_, st, fun v z => by
      have z' : Data.fields _ = Data.cell v := z
      cases z'⟩
  keep := fun i h h' st k => k it (by simp) _ st
  item := by
    intro X hP hw hK hc i pins s σ H E I hf st hg
    subst hP hw hK
    obtain ⟨f0, f1, f2, f3, f4, f5⟩ := hf it (by simp)
    have W := Walks.range (prog := X.prog) (w := X.w) (I.ok.hd hc) it lo c n
    refine W.item i s _ _ hg st fun v h' tk hv st' kk => ?_
    obtain ⟨t, rfl⟩ := hv
    have I1 : Inv X pins σ H { s with heap := h', toks := tk } := I.turned (fun b o hb e => kk b o (by simpa using hb) e) f0 f1 f3 f4 f5
    exact ⟨_, rfl, go_of (s := { s with heap := h', toks := tk }) (n := "range_iterator") st' rfl rfl (by decide) ⟨.int (lo + i * c), H, I1, ⟨t, rfl⟩, ⟨rfl, rfl⟩, st', fun b hb => (hf b hb).1⟩⟩
  done := by
    intro X hP hw hK hc i pins s σ H E I hf st hg
    subst hP hw hK
    obtain ⟨f0, f1, f2, f3, f4, f5⟩ := hf it (by simp)
    exact wpAny_pyNext_range_end (I.ok.hd hc) st (by have : n ≤ i := hg; omega) fun h' eb => ⟨rfl, I.turned (t' := s.toks) (fun b o hb e => eb b o hb e) f0 f1 f3 f4 f5⟩
  self := fun _ _ _ _ _ st h => wpAny_pyIter_rangeiter st h
noncomputable def SmallR (i j c : Int) : Prop := (-(2 ^ 40) ≤ i ∧ i < 2 ^ 40) ∧ (-(2 ^ 40) ≤ j ∧ j < 2 ^ 40) ∧ (-(2 ^ 29) < c ∧ c < 2 ^ 29) ∧ c ≠ 0
noncomputable def nRng (i j c : Int) : Nat := if 0 < c then (if i < j then ((j - i - 1) / c + 1).toNat else 0) else (if j < i then ((i - j - 1) / (-c) + 1).toNat else 0)
theorem rangeSize_nn (i j c : Int) (hc : c ≠ 0) : Builtin.Range.rangeSize i j c = (nRng i j c : Nat) := by
  unfold Builtin.Range.rangeSize nRng
  by_cases h : 0 < c
  · rw [if_pos h, if_pos h]
    by_cases h2 : i < j
    · rw [if_pos h2, if_pos h2]
      have : 0 ≤ (j - i - 1) / c := Int.ediv_nonneg (by omega) (by omega)
      omega
    · rw [if_neg h2, if_neg h2]; rfl
  · rw [if_neg h, if_neg h]
    by_cases h2 : j < i
    · rw [if_pos (show i > j from h2), if_pos h2]
      have : 0 ≤ (i - j - 1) / (-c) := Int.ediv_nonneg (by omega) (by omega)
      omega
    · rw [if_neg (show ¬ i > j from h2), if_neg h2]; rfl
theorem rangeSmall {i j c : Int} (h : SmallR i j c) : Builtin.Range.small i j c = true := by
  obtain ⟨⟨h1, h2⟩, ⟨h3, h4⟩, ⟨h5, h6⟩, h0⟩ := h
  have hb : Builtin.Range.rangeSize i j c ≤ 2 ^ 42 ∧ 0 ≤ Builtin.Range.rangeSize i j c := by
    unfold Builtin.Range.rangeSize
    by_cases hc : c > 0
    · rw [if_pos hc]
      by_cases h' : i < j
      · rw [if_pos h']
        have e1 : (j - i - 1) / c ≤ j - i - 1 := Int.ediv_le_self _ (by omega)
        have e2 : 0 ≤ (j - i - 1) / c := Int.ediv_nonneg (by omega) (by omega)
        omega
      · rw [if_neg h']; omega
    · rw [if_neg hc]
      by_cases h' : i > j
      · rw [if_pos h']
        have e1 : (i - j - 1) / (-c) ≤ i - j - 1 := Int.ediv_le_self _ (by omega)
        have e2 : 0 ≤ (i - j - 1) / (-c) := Int.ediv_nonneg (by omega) (by omega)
        omega
      · rw [if_neg h']; omega
  unfold Builtin.Range.small
  generalize Builtin.Range.rangeSize i j c = z at hb ⊢
  have f : ∀ x : Int, -(2 ^ 62) ≤ x → x < 2 ^ 62 → Builtin.Range.rangeFitsLong x = true := fun x h1 h2 => by
    unfold Builtin.Range.rangeFitsLong
    rw [decide_eq_true (show -(2 ^ 63) ≤ x by omega), decide_eq_true (show x < 2 ^ 63 by omega)]
    rfl
  rw [f i (by omega) (by omega), f j (by omega) (by omega), f c (by omega) (by omega), f z (by omega) (by omega)]
  by_cases hc : c > 0
  · rw [if_pos hc, f (j + (c - 1)) (by omega) (by omega), Bool.or_true]; rfl
  · rw [if_neg hc, f (j + (c + 1)) (by omega) (by omega), Bool.or_true]; rfl
noncomputable def iRng3 (ta : TA) : TI := fun σ H R => ta σ H fun vs H1 => ∃ i j c : Int, vs = [.int i, .int j, .int c] ∧ SmallR i j c ∧ R (ItrS i c (nRng i j c)) H1
theorem pi_range3 {tg a b c : Expr} {ta : TA} {p pos : Pos} (hg : Gl X "range") (hm : X.mg "range" = none) (ha : PA X [a, b, c] ta) (hs : starEach [a, b, c] X.env = [(false, eval a X.env), (false, eval b X.env), (false, eval c X.env)] := by rfl)
    (hs2 : starEach [b, c] X.env = [(false, eval b X.env), (false, eval c X.env)] := by rfl) :
    PI X tg (.Call (.Name "range" p) [a, b, c] [] pos) (iRng3 ta) := by
  intro pins s σ H R I h
  refine Call_ (ld_blt I hg hm boot_range (PyProof.Rows.callWith_type1 (thn (ha pos pins s σ H _ I h) fun us s1 ⟨vs, H1, I1, r1, q1⟩ => ?_) (by rw [hs, hs2]) (by rw [hs2]; rfl)))
  obtain ⟨i, j, c, e, hsm, q⟩ := q1
  subst e
  cases r1 with
  | cons r rr =>
    cases rr with
    | cons r' rr =>
      cases rr with
      | cons r'' rr =>
        cases rr
        obtain ⟨t, rfl⟩ := r
        obtain ⟨t', rfl⟩ := r'
        obtain ⟨t'', rfl⟩ := r''
        have h0 : c ≠ 0 := hsm.2.2.2
        have h5 : c.natAbs < 1073741824 := by have := hsm.2.2.1; omega
        refine call_range_3 h0 ?_ (.inl (PyProof.noPylong_small h5))
        refine wpAny_pyIter_range (IsRange.new ..) (rangeSmall hsm) ?_
        have I2 : Inv X pins σ H1 { s1 with heap := s1.heap.push { cls := .type "range", data := .fields #[.int i t, .int j t', .int c t''] }, toks := s1.toks } := I1.kept fun b o e => Heap.get?_push_of_some _ e
        refine ⟨_, [_], _, _, H1, rfl, I2.kept (t' := s1.toks) fun b o e => Heap.get?_push_of_some _ e, turn_rangeS _ i c (nRng i j c), ?_, fun b hb => ?_, q⟩
        · show IsRangeIter _ _ (i + ((0 : Nat) : Int) * c) (((nRng i j c : Nat) : Int) - ((0 : Nat) : Int)) c
          rw [show i + ((0 : Nat) : Int) * c = i by simp, show ((nRng i j c : Nat) : Int) - ((0 : Nat) : Int) = Builtin.Range.rangeSize i j c by rw [rangeSize_nn i j c h0]; simp]
          exact Heap.get?_push_size _ rfl
        · have e := List.mem_singleton.mp hb
          subst e
          exact I2.fpOk (Nat.le_refl _) (I2.hok.fresh (Nat.le_refl _))
theorem for_rangeS {lo c : Int} {n : Nat} {g : TG} {tb : TS} {D : Ends} {σ : St} {H : Hp} (Pv : Nat → St → Hp → Prop) (h0 : Pv 0 σ H)
    (hs : ∀ i σ H, i < n → Pv i σ H → g (.int (lo + i * c)) σ H fun σ2 H2 => tb { D with nx := Pv (i + 1), ct := Pv (i + 1), bk := D.nx } σ2 H2) (hd : ∀ σ H, Pv n σ H → D.nx σ H) :
    ∃ W : Nat → Nat → St → Hp → Prop, (∃ m, W 0 m σ H) ∧ ∀ i m σ H, W i m σ H →
      ((ItrS lo c n).stop i H ∧ D.nx σ H) ∨ ((ItrS lo c n).go i H ∧ ∃ N : St → Hp → Prop, (∀ σ' H', N σ' H' → ∃ m', m' < m ∧ W (i + 1) m' σ' H') ∧ ∀ x H', (ItrS lo c n).yld i H x H' → g x σ H' fun σ2 H2 => tb { D with nx := N, ct := N, bk := D.nx } σ2 H2) := by
  refine ⟨fun i m σ H => m = n - i ∧ i ≤ n ∧ Pv i σ H, ⟨n, by simp, Nat.zero_le _, h0⟩, ?_⟩
  rintro i m σ H ⟨rfl, hi, p⟩
  by_cases hlt : i < n
  · refine .inr ⟨hlt, Pv (i + 1), fun σ' H' p' => ⟨n - (i + 1), by omega, rfl, hlt, p'⟩, fun x H' y => ?_⟩
    obtain ⟨e, y⟩ := y
    subst e y
    exact hs i σ _ hlt p
  · have e : i = n := by omega
    subst e
    exact .inl ⟨Nat.le_refl _, hd σ H p⟩
noncomputable def rMaxL (K : PySem.W.Frag) : List V → Hp → VK → Prop := fun xs H Q => ∃ (p : Addr) (ns : List Int), xs = [.ref p] ∧ SqL K H p (ns.map V.int) ∧ 0 < ns.length ∧ ∀ M, M ∈ ns → (∀ a, a ∈ ns → a ≤ M) → Q (.int M) H
theorem call_maxL (hc : X.calm = true) : CallR X (.builtin "max") (rMaxL X.K) := by
  intro pins s σ H xs us Q I r h
  obtain ⟨p, ns, rfl, hq, hl, q⟩ := h
  obtain ⟨u, rfl, rx⟩ := vals1 r
  cases rx
  obtain ⟨its, r', pl, hz⟩ := I.list hq
  have i1 : IntsAre its ns := intsAre_of r'
  obtain ⟨its0, e0⟩ := i1.allInts.items
  have en : ns = its0.toList.map (·.1) := (i1.numsOf.symm.trans (by rw [← e0])).trans (nums_intItems its0)
  have el : its0.toList.length = its0.size := Array.length_toList
  have ln : ns.length = its0.size := by rw [en, List.length_map, el]
  have hL : s.heap.IsList p (intItems its0) := e0 ▸ pl.isList
  refine max_intList (I.ok.hd hc) hL (by omega) fun best h' tk hbest kept => ?_
  obtain ⟨tok, hv⟩ := intItems_at hbest
  subst hv
  have am := argBest_gt (numAt its0) (its0.size - 1)
  refine ⟨.int _, H, I.kept kept, ⟨tok, rfl⟩, q _ ?_ fun z hz => ?_⟩
  · rw [en]
    have := am.1
    rw [numAt_eq]
    exact getD_mem (by rw [List.length_map, el]; omega)
  · rw [en] at hz
    obtain ⟨k, hk, ez⟩ := mem_getD hz
    subst ez
    have hk2 : k < its0.size := by rw [List.length_map, el] at hk; exact hk
    have := am.2 k (by omega)
    rw [numAt_eq] at this
    exact this
theorem countP_eqU {k : Bool} : ∀ {bs : List Bool} {us : List Value}, Vals (bs.map V.bl) us → us.countP (eqU (.bl k)) = bs.countP (· == k)
  | [], us, r => by cases r; rfl
  | b :: bs, us, r => by
    cases r with
    | cons r t =>
      cases r
      rw [List.countP_cons, List.countP_cons, countP_eqU t]
      rfl
noncomputable def rCount (K : PySem.W.Frag) : V → List V → Hp → VK → Prop := fun x xs H Q => ∃ (p : Addr) (bs : List Bool) (k : Bool), x = .ref p ∧ xs = [.bl k] ∧ SqL K H p (bs.map V.bl) ∧ Q (.int ((bs.countP (· == k) : Nat) : Int)) H
theorem mt_count : MtR X "list.count" (rCount X.K) := by
  intro pins s σ H x xs v us Q I rx rv h
  obtain ⟨p, bs, k, rfl, rfl, hq, q⟩ := h
  cases rx
  obtain ⟨u, rfl, ru⟩ := rv.one
  cases ru
  obtain ⟨its, r, pl, hz⟩ := I.list hq
  obtain ⟨⟨cls, dd, data, sl⟩, n, ho, hc, hdd, hd⟩ := id pl
  simp only at hc hd hdd
  subst hc hd hdd
  refine call_meets PySem.F.slot_list_count ⟨_, ho, rfl⟩ PySem.F.entry_list_count (PySem.F.args_list_count_2 _ _) (SeqAt.list_countAt p its.toArray n none sl (.bool k) (eqU (.bl k)))
    ⟨ho, fun y hy => mem_eqAt (x := .bl k) rfl rfl r (by rw [List.all_map, List.all_eq_true]; intro x _; rfl) y (by simpa using hy), ?_⟩
  refine ⟨.int _, H, I.tok _, ⟨_, rfl⟩, ?_⟩
  have e : its.toArray.toList.countP (eqU (.bl k)) = bs.countP (· == k) := countP_eqU r
  rw [e]
  exact q
noncomputable def rLen (K : PySem.W.Frag) : List V → Hp → VK → Prop := fun xs H Q => ∃ p ys, xs = [.ref p] ∧ (SqL K H p ys ∨ SqT K H p ys) ∧ Q (.int ys.length) H
theorem call_lenN : CallR X (.builtin "len") (rLen X.K) := call_len_seq
noncomputable def rTupOf (K : PySem.W.Frag) : List V → Hp → VK → Prop := fun xs H Q => ∃ p ys, xs = [.ref p] ∧ ((SqL K H p ys ∧ ∀ l, H l = none → Q (.ref l) (upd H l (.tup ys))) ∨ (SqT K H p ys ∧ Q (.ref p) H))
theorem call_tupN : CallR X (.type "tuple") (rTupOf X.K) := call_tuple_of
noncomputable def rListOf (K : PySem.W.Frag) : List V → Hp → VK → Prop := fun xs H Q => ∃ p ys, xs = [.ref p] ∧ (SqL K H p ys ∨ SqT K H p ys) ∧ ∀ l, H l = none → Q (.ref l) (upd H l (.lst ys))
theorem call_listN : CallR X (.type "list") (rListOf X.K) := call_list_of
noncomputable def rInt1 : List V → Hp → VK → Prop := fun xs H Q => (∃ i, xs = [.int i] ∧ Q (.int i) H) ∨ ∃ k, xs = [.bl k] ∧ Q (.int (if k then 1 else 0)) H
theorem call_intN : CallR X (.type "int") rInt1 := call_int1
noncomputable def rMax2 : List V → Hp → VK → Prop := fun xs H Q => ∃ i j, xs = [.int i, .int j] ∧ Q (.int (if j > i then j else i)) H
theorem call_max2N (hc : X.calm = true) : CallR X (.builtin "max") rMax2 := call_max2 hc
end
end L2
set_option Elab.async false
set_option linter.all false
set_option maxRecDepth 100000
set_option maxHeartbeats 4000000
namespace L2
open PySem PySem.Spec PyProof.Rows
noncomputable def Ext (H H' : Hp) : Prop := ∀ b o, H b = some o → H' b = some o
theorem Ext.rfl' (H : Hp) : Ext H H := fun _ _ h => h
theorem Ext.trans {H H1 H2 : Hp} (a : Ext H H1) (b : Ext H1 H2) : Ext H H2 := fun x o h => b x o (a x o h)
theorem Ext.none {H H' : Hp} (e : Ext H H') {l : Addr} (h : H' l = Option.none) : H l = Option.none := by
  cases q : H l with
  | none => rfl
  | some o => rw [e l o q] at h; cases h
section
variable {X : Cx} (K : PySem.W.Frag)
theorem ix_listK (h : X.K = K := by rfl) : IxR X (rIxL K) := by subst h; exact ix_list
theorem ix_tupK (h : X.K = K := by rfl) : IxR X (rIxT K) := by subst h; exact ix_tup
theorem sl_listK (h : X.K = K := by rfl) : SlR X (rSlL K) := by subst h; exact sl_list
theorem op_inK (h : X.K = K := by rfl) : OpR X (compareOp .In) (rIn K false) := by subst h; exact op_in_seq
theorem call_lenK (h : X.K = K := by rfl) : CallR X (.builtin "len") (rLen K) := by subst h; exact call_lenN
theorem call_tupK (h : X.K = K := by rfl) : CallR X (.type "tuple") (rTupOf K) := by subst h; exact call_tupN
theorem call_listK (h : X.K = K := by rfl) : CallR X (.type "list") (rListOf K) := by subst h; exact call_listN
theorem call_maxLK (hc : X.calm = true) (h : X.K = K := by rfl) : CallR X (.builtin "max") (rMaxL K) := by subst h; exact call_maxL hc
theorem mt_countK (h : X.K = K := by rfl) : MtR X "list.count" (rCount K) := by subst h; exact mt_count
theorem pi_listK {tg l : Expr} {tl : TE} (hl : PE X l tl) (h : X.K = K := by rfl) : PI X tg l (iList K tl) := by subst h; exact pi_list hl
theorem pi_tupK {tg l : Expr} {tl : TE} (hl : PE X l tl) (h : X.K = K := by rfl) : PI X tg l (iTup K tl) := by subst h; exact pi_tup hl
theorem pg_tupK {es : List Expr} {k : Nat} {t : TGs} {n : Nat} {pos : Pos} (hc : X.calm = true) (hg : PGs X es t) (h : X.K = K := by rfl)
    (hn : (assignEach es X.env).length = n := by rfl) (hst : (assignEach es X.env).findIdx? (·.1) = none := by rfl) : PG X (.Tuple es k pos) (gTup K n t) := by subst h; exact pg_tup hc hg hn hst
theorem pe_bmK {o e : Expr} {es : List Expr} {to : TE} {t : TA} {name : Str} {apos cpos : Pos} {T id : String} {r : V → List V → Hp → VK → Prop} (pa : PlainAttrs T) (slot : Slot T name id) (hty : typeOf (.builtin id) = pure (.type "method_descriptor")) (hm : MtR X id r) (ho : PE X o to) (ha : PA X (e :: es) t) (h : X.K = K := by rfl)
    (hbase : attributeBase o name X.env (eval o X.env) = eval o X.env := by rfl)
    (hfew : ((backTo cpos (starEach (e :: es) X.env)).all (fun x => !x.1) && (backToKw cpos (keywordEach [] X.env)).all (fun x => x.1.isSome)
      && decide ((e :: es).length + ([] : List Keyword).length + (if ([] : List Keyword).isEmpty then 0 else 1) < 30)) = true := by rfl)
    (hline : (apos.endLine == cpos.line) = true := by rfl) (hs : starEach (e :: es) X.env = (false, eval e X.env) :: starEach es X.env := by rfl) (hplain : (backTo cpos (starEach es X.env)).any (·.1) = false := by rfl) :
    PE X (.Call (.Attribute o name apos) (e :: es) [] cpos) (tBM K T r to t) := by subst h; exact pe_bm pa slot hty hm ho ha hbase hfew hline hs hplain
noncomputable def tTru (K : PySem.W.Frag) (ta : TE) : TT := fun σ H Q => ta σ H fun x H' => ∃ k, TruV K x H' k ∧ Q k H'
theorem pt_truthK {a : Expr} {ta : TE} (ha : PE X a ta) (he : ∀ whole, isTrue a X.env whole = (do let v ← whole; standAt a.pos; holding [v] (truthy v))) (h : X.K = K := by rfl) : PT X a (tTru K ta) := by subst h; exact pt_truth ha he
end
noncomputable def tInts (ns : List Int) : TA := fun _ H Q => Q (ns.map V.int) H
inductive IntsE : List Expr → List Int → Prop
  | n : IntsE [] []
  | c {i j pos es ns} : IntsE es ns → IntsE (.Constant (.int i) j pos :: es) (i :: ns)
theorem pa_ints {X : Cx} {es : List Expr} {ns : List Int} (h : IntsE es ns) : PA X es (tInts ns) := by
  induction h with
  | n => exact pa_nil
  | @c i j pos es ns _ ih =>
    intro p pins s σ H Q I hq
    exact pa_cons (e := .Constant (.int i) j pos) pe_int ih rfl p pins s σ H Q I hq
theorem rd_ints {σ : St} {H : Hp} {ns : List Int} {R : List V → Hp → Prop} (h : R (ns.map V.int) H) : tInts ns σ H R := h
theorem ps_menu {X : Cx} {K : PySem.W.Frag} {i : Nat} {x : Str} {es : List Expr} {ns : List Int} {b : Expr} {tb : TE} {p1 p2 pos pos' : Pos} (hN : X.N.Nodup) (hi : X.N[i]? = some x) (hx : Loc X.env.scope x) (hE : IntsE es ns) (hb : PE X b tb) (hs : PlainIx b) (hK : X.K = K)
    (hsw : swapsWith (.Subscript (.List es p1) b p2) (some (.Name x pos')) pos.line X.env = pure false) (hf : X.fn x = true ∨ X.env.scope.names.lookup x = some .local) :
    PSs X [.Assign [.Name x pos'] (.Subscript (.List es p1) b p2) pos] (tAsg (tOp (rIxL K) (tLst (tInts ns)) tb) (gName i)) :=
  pss_one (ps_set hN hi hx (pe_ix (ix_listK K hK) (pe_lst (pa_ints hE)) hb hs) hsw hf)
noncomputable def tIfJ (c : TT) (t u : TS) : TS := fun D σ H => ∃ R : St → Hp → Prop, (c σ H fun b H1 => if b = true then t { D with nx := R } σ H1 else u { D with nx := R } σ H1) ∧ ∀ σ' H', R σ' H' → D.nx σ' H'
theorem ps_ifJ {X : Cx} {c : Expr} {a b : List Stmt} {tc : TT} {t u : TS} {pos : Pos} (hc : PT X c tc) (ha : PSs X a t) (hb : PSs X b u) : PS X (.If c a b pos) (tIfJ tc t u) := by
  intro pins s σ H D I h
  obtain ⟨R, h, hR⟩ := h
  refine thn (ps_if hc ha hb pins s σ H { D with nx := R } I h) fun f s1 q => ?_
  cases f with
  | next =>
    obtain ⟨σ', H', I', q⟩ := q
    exact ⟨σ', H', I', hR σ' H' q⟩
  | ret v => exact q
  | brk => exact q
  | cont => exact q
noncomputable def rItL (K : PySem.W.Frag) : V → Hp → (It → Hp → Prop) → Prop := fun x H R => ∃ a, x = .ref a ∧ (∃ xs, SqL K H a xs) ∧ R (Itl K a) H
noncomputable def rItT (K : PySem.W.Frag) : V → Hp → (It → Hp → Prop) → Prop := fun x H R => ∃ a, x = .ref a ∧ (∃ xs, SqT K H a xs) ∧ R (Itt K a) H
noncomputable def rIt1 : List V → Hp → (It → Hp → Prop) → Prop := fun vs H R => ∃ j : Int, vs = [.int j] ∧ -(2 ^ 62) ≤ j ∧ j < 2 ^ 62 ∧ R (Itr 0 j.toNat) H
noncomputable def rIt2 : List V → Hp → (It → Hp → Prop) → Prop := fun vs H R => ∃ i j : Int, vs = [.int i, .int j] ∧ (-(2 ^ 62) ≤ i ∧ i < 2 ^ 62 ∧ -(2 ^ 62) ≤ j ∧ j < 2 ^ 62) ∧ R (Itr i (j - i).toNat) H
noncomputable def rIt3 : List V → Hp → (It → Hp → Prop) → Prop := fun vs H R => ∃ i j c : Int, vs = [.int i, .int j, .int c] ∧ SmallR i j c ∧ R (ItrS i c (nRng i j c)) H
noncomputable def ForBody (J : It) (g : TG) (tb : TS) (D : Ends) (σ : St) (H : Hp) : Prop := ∃ W : Nat → Nat → St → Hp → Prop, (∃ m, W 0 m σ H) ∧ ∀ i m σ H, W i m σ H →
  (J.stop i H ∧ D.nx σ H) ∨ (J.go i H ∧ ∃ N : St → Hp → Prop, (∀ σ' H', N σ' H' → ∃ m', m' < m ∧ W (i + 1) m' σ' H') ∧ ∀ x H', J.yld i H x H' → g x σ H' fun σ2 H2 => tb { D with nx := N, ct := N, bk := D.nx } σ2 H2)
theorem forL {K : PySem.W.Frag} {a : Addr} {xs : List V} {g : TG} {tb : TS} {D : Ends} {σ : St} {H : Hp} (Pv : Nat → St → Hp → Prop) (h0 : Pv 0 σ H) (hl : ∀ i σ H, i ≤ xs.length → Pv i σ H → SqL K H a xs)
    (hs : ∀ i x σ H, xs[i]? = some x → Pv i σ H → g x σ H fun σ2 H2 => tb ⟨Pv (i + 1), D.rt, D.nx, Pv (i + 1)⟩ σ2 H2) (hd : ∀ σ H, Pv xs.length σ H → D.nx σ H) : ForBody (Itl K a) g tb D σ H := for_list Pv h0 hl hs hd
theorem forT {K : PySem.W.Frag} {a : Addr} {xs : List V} {g : TG} {tb : TS} {D : Ends} {σ : St} {H : Hp} (Pv : Nat → St → Hp → Prop) (h0 : Pv 0 σ H) (hl : ∀ i σ H, i ≤ xs.length → Pv i σ H → SqT K H a xs)
    (hs : ∀ i x σ H, xs[i]? = some x → Pv i σ H → g x σ H fun σ2 H2 => tb ⟨Pv (i + 1), D.rt, D.nx, Pv (i + 1)⟩ σ2 H2) (hd : ∀ σ H, Pv xs.length σ H → D.nx σ H) : ForBody (Itt K a) g tb D σ H := for_tup Pv h0 hl hs hd
theorem forR {lo : Int} {n : Nat} {g : TG} {tb : TS} {D : Ends} {σ : St} {H : Hp} (Pv : Nat → St → Hp → Prop) (h0 : Pv 0 σ H)
    (hs : ∀ i σ H, i < n → Pv i σ H → g (.int (lo + i)) σ H fun σ2 H2 => tb ⟨Pv (i + 1), D.rt, D.nx, Pv (i + 1)⟩ σ2 H2) (hd : ∀ σ H, Pv n σ H → D.nx σ H) : ForBody (Itr lo n) g tb D σ H := for_range Pv h0 hs hd
theorem forS {lo c : Int} {n : Nat} {g : TG} {tb : TS} {D : Ends} {σ : St} {H : Hp} (Pv : Nat → St → Hp → Prop) (h0 : Pv 0 σ H)
    (hs : ∀ i σ H, i < n → Pv i σ H → g (.int (lo + i * c)) σ H fun σ2 H2 => tb ⟨Pv (i + 1), D.rt, D.nx, Pv (i + 1)⟩ σ2 H2) (hd : ∀ σ H, Pv n σ H → D.nx σ H) : ForBody (ItrS lo c n) g tb D σ H := for_rangeS Pv h0 hs hd
noncomputable def New (H : Hp) (o : HO) (R : VK) : Prop := ∀ p, H p = none → R (.ref p) (upd H p o)
section
variable {K : PySem.W.Frag} {D : Ends} {σ : St} {H : Hp} {Q : VK} {ta tb tc te : TE} {t u : TS} {c c' : TT}
theorem rd_seq (h : t ⟨u D, D.rt, D.bk, D.ct⟩ σ H) : tSeq t u D σ H := h
theorem rd_next (h : D.nx σ H) : tNext D σ H := h
theorem rd_ret (h : te σ H D.rt) : tRet te D σ H := h
theorem rd_asg {g : TG} (h : te σ H fun x H1 => g x σ H1 D.nx) : tAsg te g D σ H := h
theorem rd_drop (h : te σ H fun _ H1 => D.nx σ H1) : tDrop te D σ H := h
theorem rd_ifS (h : c σ H fun b H1 => if b = true then t D σ H1 else u D σ H1) : tIfS c t u D σ H := h
theorem rd_ifJ (R : St → Hp → Prop) (h : c σ H fun b H1 => if b = true then t ⟨R, D.rt, D.bk, D.ct⟩ σ H1 else u ⟨R, D.rt, D.bk, D.ct⟩ σ H1) (k : ∀ σ' H', R σ' H' → D.nx σ' H') : tIfJ c t u D σ H := ⟨R, h, k⟩
theorem rd_ifN (h : c σ H fun b H1 => if b = true then t D σ H1 else u D σ H1) : tIfJ c t u D σ H := ⟨D.nx, h, fun _ _ h => h⟩
theorem rd_name {i : Nat} {v : V} {R : St → Hp → Prop} (h : R (σ.set i (some v)) H) : gName i v σ H R := h
theorem rd_var {i : Nat} {v : V} (e : σ[i]? = some (some v)) (h : Q v H) : tVar i σ H Q := ⟨v, e, h⟩
theorem rd_c {v : V} (h : Q v H) : tC v σ H Q := h
theorem rd_op {r : R2} (h : ta σ H fun x H1 => tb σ H1 fun y H2 => r x y H2 Q) : tOp r ta tb σ H Q := h
theorem rd_un {r : V → Hp → VK → Prop} (h : ta σ H fun x H1 => r x H1 Q) : tUn r ta σ H Q := h
theorem rd_CB {r : List V → Hp → VK → Prop} {a : TA} (h : a σ H fun vs H1 => r vs H1 Q) : tCB r a σ H Q := h
theorem rd_cons {a : TA} {R : List V → Hp → Prop} (h : ta σ H fun x H1 => a σ H1 fun xs H2 => R (x :: xs) H2) : tCons ta a σ H R := h
theorem rd_nil {R : List V → Hp → Prop} (h : R [] H) : tNil σ H R := h
theorem rd_test {R : Bool → Hp → Prop} (h : te σ H fun x H' => ∃ k, x = .bl k ∧ R k H') : tTest te σ H R := h
theorem rd_B {R : Bool → Hp → Prop} (h : te σ H fun x H' => ∃ k, x = .bl k ∧ R k H') : tB te σ H R := h
theorem rd_exb {b : Bool} {R : Bool → Prop} (h : R b) : ∃ k, V.bl b = V.bl k ∧ R k := ⟨b, rfl, h⟩
theorem rd_not {R : Bool → Hp → Prop} (h : c σ H fun b H1 => R (!b) H1) : tNot c σ H R := h
theorem rd_and {R : Bool → Hp → Prop} (h : c σ H fun b H1 => if b = true then c' σ H1 R else R false H1) : tAnd c c' σ H R := h
theorem rd_or {R : Bool → Hp → Prop} (h : c σ H fun b H1 => if b = true then R true H1 else c' σ H1 R) : tOr c c' σ H R := h
theorem rd_andV (h : ta σ H fun x H1 => ∃ k, x = .bl k ∧ if k = true then tb σ H1 Q else Q (.bl false) H1) : tAndV ta tb σ H Q := h
theorem rd_orV (h : ta σ H fun x H1 => ∃ k, x = .bl k ∧ if k = true then Q (.bl true) H1 else tb σ H1 Q) : tOrV ta tb σ H Q := h
theorem rd_notV (h : ta σ H fun x H1 => ∃ k, x = .bl k ∧ Q (.bl (!k)) H1) : tNotV ta σ H Q := h
theorem rd_ifE (h : c σ H fun b H1 => if b = true then ta σ H1 Q else tb σ H1 Q) : tIf c ta tb σ H Q := h
theorem rd_yes {R : Bool → Hp → Prop} (h : R true H) : tYes σ H R := h
theorem rd_I0 {g : Int → Int → V} {i j : Int} (h : Q (g i j) H) : rI0 g (.int i) (.int j) H Q := ⟨i, j, rfl, rfl, h⟩
theorem rd_I {C : Int → Int → Prop} {g : Int → Int → V} {i j : Int} (hc : C i j) (h : Q (g i j) H) : rI C g (.int i) (.int j) H Q := ⟨i, j, rfl, rfl, hc, h⟩
theorem rd_U {g : Int → V} {i : Int} (h : Q (g i) H) : rU g (.int i) H Q := ⟨i, rfl, h⟩
theorem rd_EqI {i j : Int} (h : Q (.bl (decide (i = j))) H) : rEq (.int i) (.int j) H Q := ⟨rfl, by
  have e : decide (V.int i = V.int j) = decide (i = j) := by rw [Bool.eq_iff_iff]; simp
  rw [e]; exact h⟩
theorem rd_NeI {i j : Int} (h : Q (.bl (!decide (i = j))) H) : rNe (.int i) (.int j) H Q := ⟨rfl, by
  have e : decide (V.int i = V.int j) = decide (i = j) := by rw [Bool.eq_iff_iff]; simp
  rw [e]; exact h⟩
theorem rd_EqB {i j : Bool} (h : Q (.bl (i == j)) H) : rEq (.bl i) (.bl j) H Q := ⟨rfl, by rw [dec_bl]; exact h⟩
theorem rd_NeB {i j : Bool} (h : Q (.bl (!(i == j))) H) : rNe (.bl i) (.bl j) H Q := ⟨rfl, by rw [dec_bl]; exact h⟩
theorem rd_ixL {p : Addr} {xs : List V} {i : Int} {v : V} (e : SqL K H p xs) (a : atI xs i = some v) (h : Q v H) : rIxL K (.ref p) (.int i) H Q := ⟨p, xs, i, v, rfl, rfl, e, a, h⟩
theorem rd_ixT {p : Addr} {xs : List V} {i : Int} {v : V} (e : SqT K H p xs) (a : atI xs i = some v) (h : Q v H) : rIxT K (.ref p) (.int i) H Q := ⟨p, xs, i, v, rfl, rfl, e, a, h⟩
theorem rd_lenL {p : Addr} {xs : List V} (e : SqL K H p xs) (h : Q (.int xs.length) H) : rLen K [.ref p] H Q := ⟨p, xs, rfl, .inl e, h⟩
theorem rd_lenT {p : Addr} {xs : List V} (e : SqT K H p xs) (h : Q (.int xs.length) H) : rLen K [.ref p] H Q := ⟨p, xs, rfl, .inr e, h⟩
theorem rd_tupL {p : Addr} {xs : List V} (e : SqL K H p xs) (h : New H (.tup xs) Q) : rTupOf K [.ref p] H Q := ⟨p, xs, rfl, .inl ⟨e, h⟩⟩
theorem rd_isi {x : V} {n T : String} {b : Bool} (hk : kindV H x n) (hb : isiB n T = some b) (h : Q (.bl b) H) : rIsi [x, .ty T] H Q := ⟨x, n, T, b, rfl, hk, hb, h⟩
theorem rd_intB {k : Bool} (h : Q (.int (if k then 1 else 0)) H) : rInt1 [.bl k] H Q := .inr ⟨k, rfl, h⟩
theorem rd_max2 {i j : Int} (h : Q (.int (if j > i then j else i)) H) : rMax2 [.int i, .int j] H Q := ⟨i, j, rfl, h⟩
theorem rd_call {sp : Sp} {a : TA} {E : XK} (h : a σ H fun vs H1 => sp (vs ++ []) H1 Q E) : tCall sp [] E a σ H Q := h
theorem rd_BM {T : String} {r : V → List V → Hp → VK → Prop} {a : TA} (h : te σ H fun x H1 => tyV K T x H1 ∧ a σ H1 fun xs H2 => r x xs H2 Q) : tBM K T r te a σ H Q := h
theorem rd_tup {a : TA} (h : a σ H fun xs H1 => xs.length ≤ sizeLine ∧ New H1 (.tup xs) Q) : tTup a σ H Q := h
theorem rd_lst {a : TA} (h : a σ H fun xs H1 => xs.length ≤ sizeLine ∧ New H1 (.lst xs) Q) : tLst a σ H Q := h
theorem rd_sl {r : V → Option Int → Option Int → Hp → VK → Prop} {tl th : TO} (h : te σ H fun x H1 => tl σ H1 fun l H2 => th σ H2 fun v H3 => r x l v H3 Q) : tSl r te tl th σ H Q := h
theorem rd_noPart {R : Option Int → Hp → Prop} (h : R none H) : tNoPart σ H R := h
theorem rd_part {R : Option Int → Hp → Prop} (h : te σ H fun x H1 => ∃ i, x = .int i ∧ R (some i) H1) : tPart te σ H R := h
theorem rd_exi {i : Int} {R : Int → Prop} (h : R i) : ∃ k, V.int i = V.int k ∧ R k := ⟨i, rfl, h⟩
theorem rd_comp {n : Nat} {js : List Nat} {wi : TI} {g : TG} (h : wi σ H fun J H1 => CompBody J n js g c te σ H1 Q) : tComp n js wi g c te σ H Q := h
theorem rd_iL {R : It → Hp → Prop} (h : te σ H fun x H1 => rItL K x H1 R) : iList K te σ H R := h
theorem rd_iT {R : It → Hp → Prop} (h : te σ H fun x H1 => rItT K x H1 R) : iTup K te σ H R := h
theorem rd_iLx {p : Addr} {xs : List V} {R : It → Hp → Prop} (e : SqL K H p xs) (h : R (Itl K p) H) : rItL K (.ref p) H R := ⟨p, rfl, ⟨xs, e⟩, h⟩
theorem rd_iTx {p : Addr} {xs : List V} {R : It → Hp → Prop} (e : SqT K H p xs) (h : R (Itt K p) H) : rItT K (.ref p) H R := ⟨p, rfl, ⟨xs, e⟩, h⟩
theorem rd_i1 {a : TA} {R : It → Hp → Prop} (h : a σ H fun vs H1 => rIt1 vs H1 R) : iRng1 a σ H R := h
theorem rd_i1x {j : Int} {R : It → Hp → Prop} (h1 : -(2 ^ 62) ≤ j ∧ j < 2 ^ 62) (h : R (Itr 0 j.toNat) H) : rIt1 [.int j] H R := ⟨j, rfl, h1.1, h1.2, h⟩
theorem rd_i2 {a : TA} {R : It → Hp → Prop} (h : a σ H fun vs H1 => rIt2 vs H1 R) : iRng2 a σ H R := h
theorem rd_i2x {i j : Int} {R : It → Hp → Prop} (h1 : -(2 ^ 62) ≤ i ∧ i < 2 ^ 62 ∧ -(2 ^ 62) ≤ j ∧ j < 2 ^ 62) (h : R (Itr i (j - i).toNat) H) : rIt2 [.int i, .int j] H R := ⟨i, j, rfl, h1, h⟩
theorem rd_i3 {a : TA} {R : It → Hp → Prop} (h : a σ H fun vs H1 => rIt3 vs H1 R) : iRng3 a σ H R := h
theorem rd_i3x {i j c : Int} {R : It → Hp → Prop} (h1 : SmallR i j c) (h : R (ItrS i c (nRng i j c)) H) : rIt3 [.int i, .int j, .int c] H R := ⟨i, j, c, rfl, h1, h⟩
theorem rd_for {wi : TI} {g : TG} (h : wi σ H fun J H1 => ForBody J g t D σ H1) : tFor wi g t D σ H := h
theorem rd_append {l : Addr} {xs : List V} {y : V} (e : H l = some (.lst xs)) (hz : xs.length < sizeLine) (h : Q .non (upd H l (.lst (xs ++ [y])))) : rAppend (.ref l) [y] H Q := ⟨l, xs, y, rfl, rfl, e, hz, h⟩
theorem rd_tyL {p : Addr} {xs : List V} (e : SqL K H p xs) : tyV K "list" (.ref p) H := .inl ⟨rfl, xs, e⟩
theorem rd_sub {to ti : TE} {w : TSet} {v : V} {R : St → Hp → Prop} (h : to σ H fun o H1 => ti σ H1 fun i H2 => w o i v H2 fun H3 => R σ H3) : gSub to ti w v σ H R := h
theorem rd_setL {p : Addr} {xs : List V} {k : Int} {j : Nat} {v : V} {R : Hp → Prop} (e : H p = some (.lst xs)) (a : ixN xs.length k = some j) (h : R (upd H p (.lst (xs.set j v)))) : rSetL (.ref p) (.int k) v H R := ⟨p, xs, k, j, rfl, rfl, e, a, h⟩
theorem rd_gtup {n : Nat} {g : TGs} {a : Addr} {xs : List V} {R : St → Hp → Prop} (e : SqT K H a xs) (hl : xs.length = n) (h : g xs σ H R) : gTup K n g (.ref a) σ H R := ⟨a, xs, rfl, e, hl, h⟩
theorem rd_gcons {g : TG} {gs : TGs} {v : V} {r : List V} {R : St → Hp → Prop} (h : g v σ H fun σ' H' => gs r σ' H' R) : gCons g gs (v :: r) σ H R := ⟨v, r, rfl, h⟩
theorem rd_gnil {R : St → Hp → Prop} (h : R σ H) : gNil [] σ H R := ⟨rfl, h⟩
theorem rd_cat {l b : Addr} {xs zs : List V} (e1 : H l = some (.lst xs)) (e2 : H b = some (.lst zs)) (hz : xs.length + zs.length ≤ sizeLine) (h : New H (.lst (xs ++ zs)) Q) : rCat (.ref l) (.ref b) H Q := ⟨l, b, xs, zs, rfl, rfl, e1, e2, hz, h⟩
theorem rd_rep {l : Addr} {k : Int} {xs : List V} (e : H l = some (.lst xs)) (hk : 0 ≤ k ∧ k < 10 ^ 6) (hz : xs.length * k.toNat ≤ sizeLine) (h : New H (.lst (List.replicate k.toNat xs).flatten) Q) : rRep (.ref l) (.int k) H Q :=
  ⟨l, k, xs, rfl, rfl, e, by omega, by omega, hz, h⟩
theorem rd_slL {a : Addr} {xs : List V} {lo hi : Option Int} (e : SqL K H a xs) (h : New H (.lst (cutV xs lo hi)) Q) : rSlL K (.ref a) lo hi H Q := ⟨a, xs, rfl, e, h⟩
theorem rd_in {neg : Bool} {x : V} {p : Addr} {xs : List V} (e : SqL K H p xs ∨ SqT K H p xs) (f : flatV x = true) (fs : xs.all flatV = true) (h : Q (.bl (if neg then !inV x xs else inV x xs)) H) : rIn K neg x (.ref p) H Q := ⟨p, xs, rfl, e, f, fs, h⟩
theorem rd_tTru {R : Bool → Hp → Prop} (h : te σ H fun x H' => ∃ k, TruV K x H' k ∧ R k H') : tTru K te σ H R := h
theorem rd_new {o : HO} {R : VK} (h : ∀ p H', Ext H H' → H' p = some o → H p = none → R (.ref p) H') : New H o R := fun p hp =>
  h p _ (fun b u e => by rw [upd_ne (ne_of_none e hp)]; exact e) upd_same hp
theorem ext_upd {p : Addr} {o : HO} (hp : H p = none) : Ext H (upd H p o) := fun b u e => by rw [upd_ne (ne_of_none e hp)]; exact e
theorem SqL.ext {H' : Hp} {p : Addr} {xs : List V} (e : Ext H H') (h : SqL K H p xs) : SqL K H' p xs := by
  rcases h with (h | ⟨o, h⟩) | h
  · exact .inl (.inl (e _ _ h))
  · exact .inl (.inr ⟨o, e _ _ h⟩)
  · exact .inr h
end
theorem atI_of {α : Type} {xs : List α} {i : Int} {v : α} (h0 : 0 ≤ i) (h : xs[i.toNat]? = some v) : atI xs i = some v := by
  have := atI_nat h
  rwa [Int.toNat_of_nonneg h0] at this
theorem ixN_of {n : Nat} {i : Int} (h0 : 0 ≤ i) (h : i < n) : ixN n i = some i.toNat := by unfold ixN; rw [if_pos h0, if_pos h]
end L2
set_option Elab.async false
set_option linter.all false
set_option maxRecDepth 100000
set_option maxHeartbeats 4000000
namespace L2
open PySem PySem.Spec PyProof.Rows
noncomputable def flatD : V → PyData → Prop
  | .non, .none => True
  | .bl b, .bool c => b = c
  | .int i, .int j => i = j
  | .str x, .str y => x = y ∧ (PyData.str y).canLay0 = true
  | _, _ => False
noncomputable def RepD (H : Hp) : Nat → V → PyData → Prop
  | 0, x, d => flatD x d
  | n + 1, x, d => flatD x d ∨ ∃ a xs ds, x = .ref a ∧ ((H a = some (.tup xs) ∧ d = .tuple ds) ∨ (H a = some (.lst xs) ∧ d = .list ds)) ∧ Paired (RepD H n) xs ds
section
variable {X : Cx} {pins : List (Addr × Obj)} {σ : St} {H : Hp} {s : Shared}
theorem flatD.reads {x : V} {d : PyData} {u : Value} (h : flatD x d) (r : RelV x u) : ∃ as, Reads s.heap u d as := by
  cases x with
  | non => cases d <;> first | exact False.elim h | (cases r; exact ⟨_, .none⟩)
  | bl b => cases d <;> first | exact False.elim h | (cases (show b = _ from h); cases r; exact ⟨_, .bool _⟩)
  | int i => cases d <;> first | exact False.elim h | (cases (show i = _ from h); obtain ⟨t, rfl⟩ := r; exact ⟨_, .int _ t⟩)
  | str z => cases d <;> first | exact False.elim h | (cases (show z = _ ∧ _ from h).1; obtain ⟨t, rfl⟩ := r; exact ⟨_, .str _ t⟩)
  | _ => cases d <;> exact False.elim h
theorem flatD.lay {x : V} {d : PyData} (h : flatD x d) : d.canLay0 = true ∧ d.depth = 0 := by
  cases x <;> cases d <;> first | exact False.elim h | exact ⟨rfl, rfl⟩ | exact ⟨h.2, rfl⟩
theorem reads_all {R : V → PyData → Prop} (ih : ∀ {x : V} {d : PyData} {u : Value}, R x d → RelV x u → ∃ as, Reads s.heap u d as) : ∀ {xs : List V} {ds : List PyData} {us : List Value}, Paired R xs ds → Vals xs us → ∃ as, ReadsAll s.heap us ds as
  | _, _, _, .nil, .nil => ⟨_, .nil⟩
  | _, _, _, .cons h t, .cons r rt => by
    obtain ⟨as, ha⟩ := ih h r
    obtain ⟨bs, hb⟩ := reads_all ih t rt
    exact ⟨_, .cons ha hb⟩
theorem RepD.reads (I : Inv X pins σ H s) : ∀ (n : Nat) {x : V} {d : PyData} {u : Value}, RepD H n x d → RelV x u → ∃ as, Reads s.heap u d as
  | 0, _, _, _, h, r => flatD.reads h r
  | n + 1, x, d, u, h, r => by
    rcases h with h | ⟨a, xs, ds, rfl, hh, hp⟩
    · exact flatD.reads h r
    · cases r
      rcases hh with ⟨e, rfl⟩ | ⟨e, rfl⟩
      · obtain ⟨its, rv, ⟨o, ho, hc, k, hd⟩, _⟩ := I.tuple (SqT.of e)
        obtain ⟨as, ha⟩ := reads_all (fun {x d u} => RepD.reads I n) hp rv
        exact ⟨_, .tuple ho hc hd (by simpa using ha)⟩
      · obtain ⟨its, k, rv, ho, _⟩ := I.lst e
        obtain ⟨as, ha⟩ := reads_all (fun {x d u} => RepD.reads I n) hp rv
        exact ⟨_, .list ho rfl rfl (by simpa using ha)⟩
theorem lay_all {R : V → PyData → Prop} {m : Nat} (ih : ∀ {x : V} {d : PyData}, R x d → d.canLay0 = true ∧ d.depth ≤ m) : ∀ {xs : List V} {ds : List PyData}, Paired R xs ds → PyData.canLayAll0 ds = true ∧ PyData.depthAll ds ≤ m
  | _, _, .nil => ⟨rfl, Nat.zero_le _⟩
  | _, _, .cons h t => by
    obtain ⟨h1, h2⟩ := ih h
    obtain ⟨h3, h4⟩ := lay_all ih t
    refine ⟨?_, ?_⟩
    · simp only [PyData.canLayAll0, h1, h3, Bool.and_self]
    · simp only [PyData.depthAll]
      exact Nat.max_le.mpr ⟨h2, h4⟩
theorem RepD.lay : ∀ (n : Nat) {x : V} {d : PyData}, RepD H n x d → d.canLay0 = true ∧ d.depth ≤ n
  | 0, _, _, h => ⟨(flatD.lay h).1, Nat.le_of_eq (flatD.lay h).2⟩
  | n + 1, x, d, h => by
    rcases h with h | ⟨a, xs, ds, rfl, hh, hp⟩
    · exact ⟨(flatD.lay h).1, by rw [(flatD.lay h).2]; exact Nat.zero_le _⟩
    · obtain ⟨h1, h2⟩ := lay_all (fun {x d} => RepD.lay n) hp
      rcases hh with ⟨e, rfl⟩ | ⟨e, rfl⟩
      · exact ⟨h1, Nat.succ_le_succ h2⟩
      · exact ⟨h1, Nat.succ_le_succ h2⟩
noncomputable def rEqD (neg : Bool) : R2 := fun x y H Q => ∃ n m d e, RepD H n x d ∧ RepD H m y e ∧ n ≤ 50 ∧ Q (.bl (if neg then !PyData.eqv d e else PyData.eqv d e)) H
theorem op_eqD {k : Nat} (hr : Room k X.A) : OpR X (compareOp .Eq) (rEqD false) := by
  intro pins s σ H x y v u Q I rx ry h
  obtain ⟨n, m, d, e, h1, h2, hn, q⟩ := h
  obtain ⟨as, ra⟩ := RepD.reads I n h1 rx
  obtain ⟨bs, rb⟩ := RepD.reads I m h2 ry
  have l1 := RepD.lay n h1
  have l2 := RepD.lay m h2
  have hu := hr.units
  have hm : min d.depth e.depth ≤ 50 := Nat.le_trans (Nat.min_le_left _ _) (Nat.le_trans l1.2 hn)
  exact SeqAt.compareEq_reads ra rb l1.1 l2.1 (by omega) ⟨.bl _, H, I, rfl, q⟩
theorem op_neD {k : Nat} (hr : Room k X.A) : OpR X (compareOp .NotEq) (rEqD true) := by
  intro pins s σ H x y v u Q I rx ry h
  obtain ⟨n, m, d, e, h1, h2, hn, q⟩ := h
  obtain ⟨as, ra⟩ := RepD.reads I n h1 rx
  obtain ⟨bs, rb⟩ := RepD.reads I m h2 ry
  have l1 := RepD.lay n h1
  have l2 := RepD.lay m h2
  have hu := hr.units
  have hm : min d.depth e.depth ≤ 50 := Nat.le_trans (Nat.min_le_left _ _) (Nat.le_trans l1.2 hn)
  exact SeqAt.compareNe_reads ra rb l1.1 l2.1 (by omega) ⟨.bl _, H, I, rfl, q⟩
end
end L2
set_option Elab.async false
set_option linter.all false
set_option maxRecDepth 100000
set_option maxHeartbeats 4000000
namespace L2
open PySem PySem.Spec PyProof.Rows
end L2
set_option Elab.async false
set_option linter.all false
set_option maxRecDepth 100000
set_option maxHeartbeats 4000000
namespace L2
open PySem PySem.Spec PyProof.Rows
noncomputable def tWhileJ (c : TT) (tb : TS) : TS := fun D σ H => ∃ (W : Nat → St → Hp → Prop) (R : St → Hp → Prop), (∃ m, W m σ H) ∧ (∀ m σ H, W m σ H →
  c σ H fun b H1 => if b = true then ∃ N : St → Hp → Prop, (∀ σ' H', N σ' H' → ∃ m', m' < m ∧ W m' σ' H') ∧ tb ⟨N, D.rt, R, N⟩ σ H1 else R σ H1) ∧ ∀ σ H, R σ H → D.nx σ H
theorem ps_whileJ {X : Cx} {pos : Pos} {c : Expr} {body : List Stmt} {tc : TT} {tb : TS} (hp : PassesOwn (model X.prog X.w) X.A X.env X.xe) (hc : PT X c tc) (hb : PSs X body tb) : PS X (.While c body [] pos) (tWhileJ tc tb) := by
  intro pins s σ H D I h
  obtain ⟨W, R, w0, hs, hR⟩ := h
  refine thn (ps_while hp hc hb pins s σ H { D with nx := R } I ⟨W, w0, hs⟩) fun f s1 q => ?_
  cases f with
  | next =>
    obtain ⟨σ', H', I', q⟩ := q
    exact ⟨σ', H', I', hR σ' H' q⟩
  | ret v => exact q
  | brk => exact q
  | cont => exact q
section
variable {D : Ends} {σ : St} {H : Hp} {Q : VK} {te : TE} {t : TS} {c : TT}
theorem rd_while (W : Nat → St → Hp → Prop) (R : St → Hp → Prop) (m : Nat) (h0 : W m σ H) (hs : ∀ m σ H, W m σ H → c σ H fun b H1 => if b = true then ∃ N : St → Hp → Prop, (∀ σ' H', N σ' H' → ∃ m', m' < m ∧ W m' σ' H') ∧ t ⟨N, D.rt, R, N⟩ σ H1 else R σ H1) (k : ∀ σ H, R σ H → D.nx σ H) : tWhileJ c t D σ H := ⟨W, R, ⟨m, h0⟩, hs, k⟩
theorem rd_aug {i : Nat} {ti : TIp} {x : V} (e : σ[i]? = some (some x)) (h : te σ H fun y H1 => ti x y H1 fun z H2 => D.nx (σ.set i (some z)) H2) : tAug i te ti D σ H := ⟨x, e, h⟩
theorem rd_ipI {f : Int → Int → Int} {i j : Int} (h : Q (.int (f i j)) H) : ipI f (.int i) (.int j) H Q := ⟨i, j, rfl, rfl, h⟩
end
section
variable {prog : Program} {w : World} {A : Around} {E : Value → Shared → Prop} {s : Shared}
theorem next_tup {it t : Addr} {i : Nat} {ys : Array Value} {x : Value} {Q : Value → Shared → Prop} (gi : s.heap.IsTupleIter it t i) (gt : s.heap.IsTuple t ys) (gx : ys[i]? = some x)
    (q : ∀ h', h'.IsTupleIter it t (i + 1) → Heap.SameBut it s.heap h' → Q x { s with heap := h' }) : wpAny (model prog w) A (Builtin.SmallTypes.nextOf (.ref it)) Q E s := by
  obtain ⟨u, gu, gc, gd⟩ := id gi
  obtain ⟨v, gv, _, k, gk⟩ := gt
  unfold Builtin.SmallTypes.nextOf
  refine wpAny_bind (wpAny_callSpecial?_slot (name := Str.ofString "__next__") gi.typeIs F.slot_tuple_iterator_next (wpAny_call_entry F.slot_tuple_iterator_next gi.typeIs F.entry_tuple_iterator_next ?_ (F.args_tuple_iterator_next_1 _)))
  show wpAny _ _ (field (Value.ref it) 0 >>= _) _ _ s
  refine wpAny_bind (wpAny_field gu gd (x := Value.ref t) rfl ?_)
  show wpAny _ _ (if (Value.ref t == Value.none) = true then _ else _) _ _ s
  rw [if_neg (show ¬ (Value.ref t == Value.none) = true from Bool.false_ne_true)]
  show wpAny _ _ (field (Value.ref it) 1 >>= _) _ _ s
  refine wpAny_bind (wpAny_field gu gd (x := Value.int i 0) rfl ?_)
  show wpAny _ _ (seqItems? (Value.ref t) >>= _) _ _ s
  refine wpAny_bind (wpAny_seqItems gv gk ?_)
  simp only [Int.toNat_natCast, gx]
  refine wpAny_bind (wpAny_setField gu gd (by simp) (wpAny_pure ⟨x, rfl, wpAny_pure (q _ ?_ (Heap.SameBut.update ..))⟩))
  exact ⟨_, Heap.get?_update_self _ gu (Obj.isFreed_of_fields (Obj.data_mapFields gd _)), (Obj.cls_mapFields ..).trans gc, by rw [Obj.data_mapFields gd]; simp [rawInt]⟩
theorem stop_tup {it t : Addr} {i : Nat} {ys : Array Value} {Q : Value → Shared → Prop} (hA : A.handled = none) (gi : s.heap.IsTupleIter it t i) (gt : s.heap.IsTuple t ys) (gx : ys[i]? = none)
    (q : ∀ h' e, Heap.ExtBut it s.heap h' → (∃ o, h'.get? e = some o ∧ o.cls = .type "StopIteration") → E (.ref e) { s with heap := h' }) : wpAny (model prog w) A (Builtin.SmallTypes.nextOf (.ref it)) Q E s := by
  obtain ⟨u, gu, gc, gd⟩ := id gi
  obtain ⟨v, gv, _, k, gk⟩ := gt
  unfold Builtin.SmallTypes.nextOf
  refine wpAny_bind (wpAny_callSpecial?_slot (name := Str.ofString "__next__") gi.typeIs F.slot_tuple_iterator_next (wpAny_call_entry F.slot_tuple_iterator_next gi.typeIs F.entry_tuple_iterator_next ?_ (F.args_tuple_iterator_next_1 _)))
  show wpAny _ _ (field (Value.ref it) 0 >>= _) _ _ s
  refine wpAny_bind (wpAny_field gu gd (x := Value.ref t) rfl ?_)
  show wpAny _ _ (if (Value.ref t == Value.none) = true then _ else _) _ _ s
  rw [if_neg (show ¬ (Value.ref t == Value.none) = true from Bool.false_ne_true)]
  show wpAny _ _ (field (Value.ref it) 1 >>= _) _ _ s
  refine wpAny_bind (wpAny_field gu gd (x := Value.int i 0) rfl ?_)
  show wpAny _ _ (seqItems? (Value.ref t) >>= _) _ _ s
  refine wpAny_bind (wpAny_seqItems gv gk ?_)
  simp only [Int.toNat_natCast, gx]
  refine wpAny_bind (wpAny_rule (wpAny_bind (wpAny_setField gu gd (by simp) ?_)))
  show wpAny _ _ (newExc (Value.type "StopIteration") [] >>= _) _ _ _
  refine wpAny_bind ?_
  simp only [newExc, newTuple]
  refine wpAny_bind (wpAny_newObj_type (hd := by size_fits) ?_)
  refine wpAny_bind (m := firstArgMember _ _) (wpAny_of_eq (a := Value.none) (by first | rfl | (unfold firstArgMember; rfl)) ?_)
  refine wpAny_newObj_type (hd := by size_fits) ?_
  simp only [raiseNew]
  refine wpAny_bind (wpAny_handled ?_)
  first | rw [show Around.handled A.in1 = none from hA] | rw [hA]
  refine wpAny_bind (wpAny_pure (wpAny_throw ?_))
  exact q _ _ (((Heap.SameBut.update ..).extBut.push _).push _) ⟨_, Heap.get?_push_size _ rfl, rfl⟩
end
structure Sub (P : Program) (w : World) (K : PySem.W.Frag) (J : It) (it : Addr) (tn : Nat → Heap → Prop) : Prop where
  obj : ∀ i h, tn i h → ∃ o, h.get? it = some o ∧ ∀ v, o.data ≠ .cell v
  keep : ∀ i h h', tn i h → (∀ o, h.get? it = some o → h'.get? it = some o) → tn i h'
  item : ∀ (X : Cx), X.prog = P → X.w = w → X.K = K → ∀ (A : Around) (i : Nat) (pins : List (Addr × Obj)) (s : Shared) (σ : St) (H : Hp) (Q : Value → Shared → Prop) (E : Value → Shared → Prop), Inv X pins σ H s → FpOk X pins H it → tn i s.heap → J.go i H →
    (∀ x u h', Inv X pins σ H { s with heap := h' } → RelV x u → J.yld i H x H → tn (i + 1) h' → Heap.SameBut it s.heap h' → Q u { s with heap := h' }) → wpAny (model P w) A (Builtin.SmallTypes.nextOf (.ref it)) Q E s
  done : ∀ (X : Cx), X.prog = P → X.w = w → X.K = K → ∀ (A : Around), A.handled = none → ∀ (i : Nat) (pins : List (Addr × Obj)) (s : Shared) (σ : St) (H : Hp) (Q : Value → Shared → Prop) (E : Value → Shared → Prop), Inv X pins σ H s → FpOk X pins H it → tn i s.heap → J.stop i H →
    (∀ h' e, Heap.ExtBut it s.heap h' → (∃ o, h'.get? e = some o ∧ o.cls = .type "StopIteration") → E (.ref e) { s with heap := h' }) → wpAny (model P w) A (Builtin.SmallTypes.nextOf (.ref it)) Q E s
theorem sub_list {P : Program} {w : World} {K : PySem.W.Frag} (a it : Addr) : Sub P w K (Itl K a) it (fun i h => h.IsListIter it a i) where
  obj := fun i h st => by
    obtain ⟨o, e, c, d⟩ := st
    exact ⟨o, e, fun v z => by rw [d] at z; cases z⟩
  keep := fun i h h' st k => st.at k
  item := by
    intro X hP hw hK A i pins s σ H Q E I hf st hg hQ
    subst hP hw hK
    obtain ⟨xs, x, hq, hx⟩ := hg
    obtain ⟨its, rv, p, hz⟩ := I.list hq
    obtain ⟨u, hu, ru⟩ := rv.get hx
    obtain ⟨f0, f1, f2, f3, f4, f5⟩ := hf
    exact wpAny_nextOf_list_item st p.isList (x := u) (by simpa using hu) fun h' st' sb => hQ x u h' (I.turned (t' := s.toks) (it := it) (fun b o hb e => (sb.2 b hb).trans e) f0 f1 f3 f4 f5) ru ⟨rfl, fun ys hy => by rw [I.list_inj hy hq]; exact hx⟩ st' sb
  done := by
    intro X hP hw hK A hA i pins s σ H Q E I hf st hg hE
    subst hP hw hK
    obtain ⟨xs, hq, hx⟩ := hg
    obtain ⟨its, rv, p, hz⟩ := I.list hq
    have hl := rv.length
    exact wpAny_nextOf_list_end hA st p.isList (by simp; omega) hE
theorem sub_tup {P : Program} {w : World} {K : PySem.W.Frag} (a it : Addr) : Sub P w K (Itt K a) it (fun i h => h.IsTupleIter it a i) where
  obj := fun i h st => by
    obtain ⟨o, e, c, d⟩ := st
    exact ⟨o, e, fun v z => by rw [d] at z; cases z⟩
  keep := fun i h h' st k => st.at k
  item := by
    intro X hP hw hK A i pins s σ H Q E I hf st hg hQ
    subst hP hw hK
    obtain ⟨xs, x, hq, hx⟩ := hg
    obtain ⟨its, rv, p, hz⟩ := I.tuple hq
    obtain ⟨u, hu, ru⟩ := rv.get hx
    obtain ⟨f0, f1, f2, f3, f4, f5⟩ := hf
    exact next_tup st (show s.heap.IsTuple a its.toArray from p) (x := u) (by simpa using hu) fun h' st' sb => hQ x u h' (I.turned (t' := s.toks) (it := it) (fun b o hb e => (sb.2 b hb).trans e) f0 f1 f3 f4 f5) ru ⟨rfl, fun ys hy => by rw [I.tuple_inj hy hq]; exact hx⟩ st' sb
  done := by
    intro X hP hw hK A hA i pins s σ H Q E I hf st hg hE
    subst hP hw hK
    obtain ⟨xs, hq, hx⟩ := hg
    obtain ⟨its, rv, p, hz⟩ := I.tuple hq
    have hl := rv.length
    exact stop_tup hA st (show s.heap.IsTuple a its.toArray from p) (by simp; omega) hE
noncomputable def Itz (J1 J2 : It) : It := ⟨fun i H => J1.go i H ∧ J2.go i H, fun i H x H' => ∃ p u v, x = .ref p ∧ H p = none ∧ H' = upd H p (.tup [u, v]) ∧ J1.yld i H u H ∧ J2.yld i H v H, fun i H => J1.stop i H ∨ (J1.go i H ∧ J2.stop i H)⟩
structure Apart (z TI TO i1 i2 : Addr) : Prop where
  a : TI ≠ z
  b : TO ≠ z
  c : i1 ≠ z
  d : i2 ≠ z
  e : TI ≠ TO
  f : TI ≠ i1
  g : TI ≠ i2
  h : TO ≠ i1
  i : TO ≠ i2
  j : i1 ≠ i2
section
variable {X : Cx} {pins : List (Addr × Obj)} {σ : St} {H : Hp} {s : Shared}
theorem Inv.same {it : Addr} {k h' : Heap} (I : Inv X pins σ H { s with heap := k }) (f : FpOk X pins H it) (b : Heap.ExtBut it k h') : Inv X pins σ H { s with heap := h' } := by
  obtain ⟨f0, f1, f2, f3, f4, f5⟩ := f
  exact Inv.turned (s := { s with heap := k }) (t' := s.toks) (it := it) I (fun c o hb e => b c o hb e) f0 f1 f3 f4 f5
theorem zip_step {J1 J2 : It} {z TI TO i1 i2 : Addr} {t1 t2 : Nat → Heap → Prop} {A : Around} {E : Value → Shared → Prop} {a b : Value} {i : Nat} {Q : Value → Shared → Prop} (S1 : Sub X.prog X.w X.K J1 i1 t1) (S2 : Sub X.prog X.w X.K J2 i2 t2) (N : Apart z TI TO i1 i2)
    (I : Inv X pins σ H s) (hf : ∀ b ∈ [z, TI, TO, i1, i2], FpOk X pins H b) (gz : IsZip s.heap z TI TO .none) (gI : IsPair s.heap TI (.ref i1) (.ref i2)) (gO : IsPair s.heap TO a b) (g1 : t1 i s.heap) (g2 : t2 i s.heap) (go1 : J1.go i H) (go2 : J2.go i H)
    (q : ∀ x y h', Inv X pins σ (upd H s.heap.objs.size (.tup [x, y])) { s with heap := h' } → J1.yld i H x H → J2.yld i H y H → IsZip h' z TI TO (rawInt s.heap.objs.size) → IsPair h' TI (.ref i1) (.ref i2) → (∃ a b, IsPair h' TO a b) → t1 (i + 1) h' → t2 (i + 1) h' → Q (.ref s.heap.objs.size) { s with heap := h' }) :
    wpAny (model X.prog X.w) A (Builtin.«zip.__next__» ⟨[.ref z], []⟩) (fun fin s' => ∃ v, fin = .done (.ret v) ∧ Q v s') E s := by
  have fz := hf z (by simp)
  have fO := hf TO (by simp)
  have f1 := hf i1 (by simp)
  have f2 := hf i2 (by simp)
  show wpAny _ _ (field (Value.ref z) 2 >>= _) _ _ _
  refine wpAny_bind (wpAny_field gz rfl (x := Value.bool false) rfl ?_)
  show wpAny _ _ (field (Value.ref z) 3 >>= _) _ _ _
  refine wpAny_bind (wpAny_field gz rfl (x := Value.ref TI) rfl ?_)
  refine wpAny_bind (wpAny_seqItems gI rfl ?_)
  show wpAny _ _ (Builtin.SmallTypes.ownedTupleIsFree (Value.ref z) >>= _) _ _ _
  refine wpAny_bind ?_
  unfold Builtin.SmallTypes.ownedTupleIsFree
  refine wpAny_bind (wpAny_field gz rfl (x := Value.none) rfl (wpAny_pure ?_))
  simp only [if_true]
  refine wpAny_bind (wpAny_rule ?_)
  refine wpAny_bind (wpAny_field gz rfl (x := Value.ref TO) rfl ?_)
  refine wpAny_bind (wpAny_setField_rec gz (by simp) fun k1 gz1 b1 => ?_)
  replace gz1 : IsZip k1 z TI TO .ellipsis := gz1
  have s1 := b1.1
  replace b1 := b1.extBut
  have I1 : Inv X pins σ H { s with heap := k1 } := Inv.same (show Inv X pins σ H { s with heap := s.heap } from I) fz b1
  refine wpAny_bind ?_
  simp only [List.zipIdx_cons, List.zipIdx_nil, List.forIn_cons, List.forIn_nil]
  refine wpAny_bind (wpAny_bind (wpAny_onRaise ?_))
  show wpAny _ _ (Builtin.SmallTypes.nextOf (Value.ref i1) >>= _) _ _ _
  refine wpAny_bind (S1.item X rfl rfl rfl _ i pins _ σ H _ _ I1 f1 (S1.keep i _ _ g1 fun o e => b1 _ _ N.c e) go1 fun x ux k2 I2 rx yx t12 b2 => wpAny_pure ?_)
  replace I2 : Inv X pins σ H { s with heap := k2 } := I2
  have s2 := b2.1
  replace b2 := b2.extBut
  have gO2 : IsPair k2 TO a b := b2 _ _ N.h (b1 _ _ N.b gO)
  refine wpAny_bind (wpAny_seqItems gO2 rfl ?_)
  refine wpAny_bind (wpAny_updateSeq_pair gO2 fun k3 gO3 b3 => ?_)
  replace gO3 : IsPair k3 TO ux b := gO3
  have s3 := b3.1
  replace b3 := b3.extBut
  have I3 : Inv X pins σ H { s with heap := k3 } := Inv.same I2 fO b3
  refine wpAny_bind (wpAny_letGo (wpAny_pure ?_))
  refine wpAny_bind (wpAny_bind (wpAny_onRaise ?_))
  show wpAny _ _ (Builtin.SmallTypes.nextOf (Value.ref i2) >>= _) _ _ _
  refine wpAny_bind (S2.item X rfl rfl rfl _ i pins _ σ H _ _ I3 f2 (S2.keep i _ _ g2 fun o e => b3 _ _ (Ne.symm N.i) (b2 _ _ (Ne.symm N.j) (b1 _ _ N.d e))) go2 fun y uy k4 I4 ry yy t24 b4 => wpAny_pure ?_)
  replace I4 : Inv X pins σ H { s with heap := k4 } := I4
  have s4 := b4.1
  replace b4 := b4.extBut
  have gO4 : IsPair k4 TO ux b := b4 _ _ N.i gO3
  refine wpAny_bind (wpAny_seqItems gO4 rfl ?_)
  refine wpAny_bind (wpAny_updateSeq_pair gO4 fun k5 gO5 b5 => ?_)
  replace gO5 : IsPair k5 TO ux uy := gO5
  have s5 := b5.1
  replace b5 := b5.extBut
  have I5 : Inv X pins σ H { s with heap := k5 } := Inv.same I4 fO b5
  refine wpAny_bind (wpAny_letGo (wpAny_pure (wpAny_pure ?_)))
  refine wpAny_bind (wpAny_seqItems gO5 rfl ?_)
  refine wpAny_bind (wpAny_newTuple ?_)
  have sz : k5.objs.size = s.heap.objs.size := by rw [s5, s4, s3, s2, s1]
  have gz5 : IsZip k5 z TI TO .ellipsis := b5 _ _ (Ne.symm N.b) (b4 _ _ (Ne.symm N.d) (b3 _ _ (Ne.symm N.b) (b2 _ _ (Ne.symm N.c) gz1)))
  have gI5 : IsPair k5 TI (.ref i1) (.ref i2) := b5 _ _ N.e (b4 _ _ N.g (b3 _ _ N.e (b2 _ _ N.f (b1 _ _ N.a gI))))
  have t15 : t1 (i + 1) k5 := S1.keep _ _ _ (S1.keep _ _ _ (S1.keep _ _ _ t12 fun o e => b3 _ _ (Ne.symm N.h) e) fun o e => b4 _ _ N.j e) fun o e => b5 _ _ (Ne.symm N.h) e
  have t25 : t2 (i + 1) k5 := S2.keep _ _ _ t24 fun o e => b5 _ _ (Ne.symm N.i) e
  have lz : z < k5.objs.size := Heap.lt_size gz5
  have I6 : Inv X pins σ (upd H k5.objs.size (.tup [x, y])) { s with heap := k5.push { cls := .type "tuple", data := .seq #[ux, uy] } } :=
    I5.laid (t' := s.toks) (o := .tup [x, y]) (fun b ob e => Heap.get?_push_of_some _ e) (Nat.le_refl _) ⟨by show 2 ≤ sizeLine; decide, [ux, uy], .cons rx (.cons ry .nil), IsTup.new _ _⟩
  have fz6 : FpOk X pins (upd H k5.objs.size (.tup [x, y])) z := by
    obtain ⟨c0, c1, c2, c3, c4, c5⟩ := fz
    exact ⟨by rw [upd_ne (Nat.ne_of_lt lz)]; exact c0, c1, c2, c3, c4, c5⟩
  show wpAny _ _ (Builtin.SmallTypes.ownedTupleHandOut (Value.ref z) (Value.ref k5.objs.size) >>= _) _ _ _
  refine wpAny_bind ?_
  unfold Builtin.SmallTypes.ownedTupleHandOut
  have gz6 : IsZip (k5.push { cls := .type "tuple", data := .seq #[ux, uy] }) z TI TO .ellipsis := Heap.get?_push_of_some _ gz5
  refine wpAny_bind (wpAny_setField_rec gz6 (by simp) fun k7 gz7 b7 => ?_)
  replace gz7 : IsZip k7 z TI TO (rawInt k5.objs.size) := gz7
  replace b7 := b7.extBut
  have I7 : Inv X pins σ (upd H k5.objs.size (.tup [x, y])) { s with heap := k7 } := Inv.same I6 fz6 b7
  refine wpAny_setField_rec gz7 (by simp) fun k8 gz8 b8 => ?_
  replace gz8 : IsZip k8 z TI TO (rawInt k5.objs.size) := gz8
  replace b8 := b8.extBut
  have I8 : Inv X pins σ (upd H k5.objs.size (.tup [x, y])) { s with heap := k8 } := Inv.same I7 fz6 b8
  have up : ∀ b o, b ≠ z → k5.get? b = some o → k8.get? b = some o := fun b o ne e => b8 _ _ ne (b7 _ _ ne (Heap.get?_push_of_some _ e))
  rw [sz] at I8 gz8
  refine wpAny_pure ⟨_, rfl, ?_⟩
  show Q (.ref k5.objs.size) _
  rw [sz]
  exact q x y k8 I8 yx yy gz8 (up _ _ N.a gI5) ⟨_, _, up _ _ N.b gO5⟩ (S1.keep _ _ _ t15 fun o e => up _ o N.c e) (S2.keep _ _ _ t25 fun o e => up _ o N.d e)
theorem zip_stop {J1 J2 : It} {z TI TO i1 i2 : Addr} {t1 t2 : Nat → Heap → Prop} {A : Around} {E : Value → Shared → Prop} {a b : Value} {i : Nat} {Q : Fin → Shared → Prop} (hA : A.handled = none) (S1 : Sub X.prog X.w X.K J1 i1 t1) (S2 : Sub X.prog X.w X.K J2 i2 t2) (N : Apart z TI TO i1 i2)
    (I : Inv X pins σ H s) (hf : ∀ b ∈ [z, TI, TO, i1, i2], FpOk X pins H b) (gz : IsZip s.heap z TI TO .none) (gI : IsPair s.heap TI (.ref i1) (.ref i2)) (gO : IsPair s.heap TO a b) (g1 : t1 i s.heap) (g2 : t2 i s.heap) (st : J1.stop i H ∨ (J1.go i H ∧ J2.stop i H))
    (q : ∀ h' e, Inv X pins σ H { s with heap := h' } → (∃ o, h'.get? e = some o ∧ o.cls = .type "StopIteration") → E (.ref e) { s with heap := h' }) :
    wpAny (model X.prog X.w) A (Builtin.«zip.__next__» ⟨[.ref z], []⟩) Q E s := by
  have fz := hf z (by simp)
  have fO := hf TO (by simp)
  have f1 := hf i1 (by simp)
  have f2 := hf i2 (by simp)
  show wpAny _ _ (field (Value.ref z) 2 >>= _) _ _ _
  refine wpAny_bind (wpAny_field gz rfl (x := Value.bool false) rfl ?_)
  show wpAny _ _ (field (Value.ref z) 3 >>= _) _ _ _
  refine wpAny_bind (wpAny_field gz rfl (x := Value.ref TI) rfl ?_)
  refine wpAny_bind (wpAny_seqItems gI rfl ?_)
  show wpAny _ _ (Builtin.SmallTypes.ownedTupleIsFree (Value.ref z) >>= _) _ _ _
  refine wpAny_bind ?_
  unfold Builtin.SmallTypes.ownedTupleIsFree
  refine wpAny_bind (wpAny_field gz rfl (x := Value.none) rfl (wpAny_pure ?_))
  simp only [if_true]
  refine wpAny_bind (wpAny_rule ?_)
  refine wpAny_bind (wpAny_field gz rfl (x := Value.ref TO) rfl ?_)
  refine wpAny_bind (wpAny_setField_rec gz (by simp) fun k1 gz1 b1 => ?_)
  replace gz1 : IsZip k1 z TI TO .ellipsis := gz1
  replace b1 := b1.extBut
  have I1 : Inv X pins σ H { s with heap := k1 } := Inv.same (show Inv X pins σ H { s with heap := s.heap } from I) fz b1
  refine wpAny_bind ?_
  simp only [List.zipIdx_cons, List.zipIdx_nil, List.forIn_cons, List.forIn_nil]
  refine wpAny_bind (wpAny_bind (wpAny_onRaise ?_))
  show wpAny _ _ (Builtin.SmallTypes.nextOf (Value.ref i1) >>= _) _ _ _
  have t11 : t1 i k1 := S1.keep i _ _ g1 fun o e => b1 _ _ N.c e
  rcases st with st | ⟨go, st⟩
  · refine wpAny_bind (S1.done X rfl rfl rfl _ hA i pins _ σ H _ _ I1 f1 t11 st fun k2 e b2 he => ?_)
    obtain ⟨oe, hoe, hce⟩ := he
    have gz2 : IsZip k2 z TI TO .ellipsis := b2 _ _ (Ne.symm N.c) gz1
    have I2 : Inv X pins σ H { s with heap := k2 } := Inv.same I1 f1 b2
    have ne : e ≠ z := fun x => by subst x; rw [gz2] at hoe; cases hoe; simp at hce
    exact wpAny_setField_rec gz2 (by simp) fun k3 _ b3 => q k3 e (Inv.same I2 fz b3.extBut) ⟨oe, b3.extBut _ _ ne hoe, hce⟩
  · refine wpAny_bind (S1.item X rfl rfl rfl _ i pins _ σ H _ _ I1 f1 t11 go fun x ux k2 I2 rx yx t12 b2 => wpAny_pure ?_)
    replace I2 : Inv X pins σ H { s with heap := k2 } := I2
    replace b2 := b2.extBut
    have gO2 : IsPair k2 TO a b := b2 _ _ N.h (b1 _ _ N.b gO)
    refine wpAny_bind (wpAny_seqItems gO2 rfl ?_)
    refine wpAny_bind (wpAny_updateSeq_pair gO2 fun k3 gO3 b3 => ?_)
    replace b3 := b3.extBut
    have I3 : Inv X pins σ H { s with heap := k3 } := Inv.same I2 fO b3
    refine wpAny_bind (wpAny_letGo (wpAny_pure ?_))
    refine wpAny_bind (wpAny_bind (wpAny_onRaise ?_))
    show wpAny _ _ (Builtin.SmallTypes.nextOf (Value.ref i2) >>= _) _ _ _
    refine wpAny_bind (S2.done X rfl rfl rfl _ hA i pins _ σ H _ _ I3 f2 (S2.keep i _ _ g2 fun o e => b3 _ _ (Ne.symm N.i) (b2 _ _ (Ne.symm N.j) (b1 _ _ N.d e))) st fun k4 e b4 he => ?_)
    obtain ⟨oe, hoe, hce⟩ := he
    have gz4 : IsZip k4 z TI TO .ellipsis := b4 _ _ (Ne.symm N.d) (b3 _ _ (Ne.symm N.b) (b2 _ _ (Ne.symm N.c) gz1))
    have I4 : Inv X pins σ H { s with heap := k4 } := Inv.same I3 f2 b4
    have ne : e ≠ z := fun x => by subst x; rw [gz4] at hoe; cases hoe; simp at hce
    exact wpAny_setField_rec gz4 (by simp) fun k5 _ b5 => q k5 e (Inv.same I4 fz b5.extBut) ⟨oe, b5.extBut _ _ ne hoe, hce⟩
end
theorem turn_zip {P : Program} {w : World} {K : PySem.W.Frag} {elts : List Expr} {kk : Nat} {ps : Pos} {J1 J2 : It} {z TI TO i1 i2 : Addr} {t1 t2 : Nat → Heap → Prop} (S1 : Sub P w K J1 i1 t1) (S2 : Sub P w K J2 i2 t2) (N : Apart z TI TO i1 i2) :
    Turn P w K (.Tuple elts kk ps) (Itz J1 J2) [z, TI, TO, i1, i2] z (fun i h => IsZip h z TI TO .none ∧ IsPair h TI (.ref i1) (.ref i2) ∧ (∃ a b, IsPair h TO a b) ∧ t1 i h ∧ t2 i h) where
  mem := by simp
  obj := fun i h st b hb => by
    obtain ⟨gz, gI, ⟨a, c, gO⟩, g1, g2⟩ := st
    simp only [List.mem_cons, List.not_mem_nil, or_false] at hb
    rcases hb with rfl | rfl | rfl | rfl | rfl
    · exact ⟨_, gz, fun v e => by cases (show Data.fields _ = Data.cell v from e)⟩
    · exact ⟨_, gI, fun v e => by cases (show Data.seq _ _ = Data.cell v from e)⟩
    · exact ⟨_, gO, fun v e => by cases (show Data.seq _ _ = Data.cell v from e)⟩
    · exact S1.obj _ _ g1
    · exact S2.obj _ _ g2
  keep := fun i h h' st k => by
    obtain ⟨gz, gI, ⟨a, c, gO⟩, g1, g2⟩ := st
    exact ⟨k z (by simp) _ gz, k TI (by simp) _ gI, ⟨a, c, k TO (by simp) _ gO⟩, S1.keep _ _ _ g1 fun o e => k i1 (by simp) o e, S2.keep _ _ _ g2 fun o e => k i2 (by simp) o e⟩
  item := by
    intro X hP hw hK hc i pins s σ H E I hf st hg
    subst hP hw hK
    obtain ⟨gz, gI, ⟨a, c, gO⟩, g1, g2⟩ := st
    have gT : s.TypeIs (.ref z) "zip" := ⟨_, gz, rfl⟩
    unfold pyNext
    refine wpAny_bind (wpAny_attempt (wpAny_callSpecial?_slot (name := Str.ofString "__next__") gT F.slot_zip_next (wpAny_call_entry F.slot_zip_next gT F.entry_zip_next
      (zip_step S1 S2 N I hf gz gI gO g1 g2 hg.1 hg.2 fun x y h' I' yx yy gz' gI' gO' g1' g2' => wpAny_pure ⟨_, rfl, ?_⟩) (F.args_zip_next_1 _))))
    have lt : ∀ b ∈ [z, TI, TO, i1, i2], b ≠ s.heap.objs.size := fun b hb => by
      obtain ⟨f0, f1, f2, f3, f4, f5⟩ := hf b hb
      simp only [List.mem_cons, List.not_mem_nil, or_false] at hb
      rcases hb with rfl | rfl | rfl | rfl | rfl
      · exact Nat.ne_of_lt (Heap.lt_size gz)
      · exact Nat.ne_of_lt (Heap.lt_size gI)
      · exact Nat.ne_of_lt (Heap.lt_size gO)
      · obtain ⟨o, e, _⟩ := S1.obj _ _ g1; exact Nat.ne_of_lt (Heap.lt_size e)
      · obtain ⟨o, e, _⟩ := S2.obj _ _ g2; exact Nat.ne_of_lt (Heap.lt_size e)
    have fz : FpOk X pins (upd H s.heap.objs.size (.tup [x, y])) z := by
      obtain ⟨c0, c1, c2, c3, c4, c5⟩ := hf z (by simp)
      exact ⟨by rw [upd_ne (lt z (by simp))]; exact c0, c1, c2, c3, c4, c5⟩
    obtain ⟨a', c', gO'⟩ := gO'
    refine wpAny_letOwnedTupleGo_zip (s := { s with heap := h' }) gz' fun k gk bk => ?_
    refine ⟨.ref s.heap.objs.size, upd H s.heap.objs.size (.tup [x, y]), Inv.same I' fz bk.extBut, rfl, ⟨_, x, y, rfl, I.hok.fresh (Nat.le_refl _), rfl, yx, yy⟩,
      ⟨gk, bk.extBut _ _ N.a gI', ⟨_, _, bk.extBut _ _ N.b gO'⟩, S1.keep _ _ _ g1' fun o e => bk.extBut _ _ N.c e, S2.keep _ _ _ g2' fun o e => bk.extBut _ _ N.d e⟩, fun b hb => ?_⟩
    rw [upd_ne (lt b hb)]
    exact (hf b hb).1
  done := by
    intro X hP hw hK hc i pins s σ H E I hf st hg
    subst hP hw hK
    obtain ⟨gz, gI, ⟨a, c, gO⟩, g1, g2⟩ := st
    have gT : s.TypeIs (.ref z) "zip" := ⟨_, gz, rfl⟩
    unfold pyNext
    refine wpAny_bind (wpAny_attempt (wpAny_callSpecial?_slot (name := Str.ofString "__next__") gT F.slot_zip_next (wpAny_call_entry F.slot_zip_next gT F.entry_zip_next
      (zip_stop (I.ok.hd hc) S1 S2 N I hf gz gI gO g1 g2 hg fun h' e I' he => ?_) (F.args_zip_next_1 _))))
    obtain ⟨o, ho, hc'⟩ := he
    refine wpAny_bind (wpAny_isInstance (s := { s with heap := h' }) (T := "StopIteration") (b := true) ⟨o, ho, hc'⟩ isSubtype_stop ?_)
    exact wpAny_pure ⟨rfl, I'⟩
  self := fun _ _ _ _ _ st h => wpAny_pyIter_zip st.1 h
noncomputable abbrev zT1 (h : Heap) (a : Addr) : Heap := h.push { cls := .type "tuple_iterator", data := .fields #[.ref a, .int 0 0] }
noncomputable abbrev zT2 (h : Heap) (a b : Addr) : Heap := (zT1 h a).push { cls := .type "tuple_iterator", data := .fields #[.ref b, .int 0 0] }
noncomputable abbrev zT3 (h : Heap) (a b : Addr) : Heap := (zT2 h a b).push { cls := .type "tuple", data := .seq #[.ref h.objs.size, .ref (zT1 h a).objs.size] }
noncomputable abbrev zT4 (h : Heap) (a b : Addr) : Heap := (zT3 h a b).push { cls := .type "tuple", data := .seq #[.none, .none] }
noncomputable abbrev zT5 (h : Heap) (a b : Addr) : Heap := (zT4 h a b).push { cls := .type "zip", data := .fields #[.none, .bool false, .bool false, .ref (zT2 h a b).objs.size, .ref (zT3 h a b).objs.size] }
theorem zipT_new (a b : Addr) (xs ys : Array Value) : Meets (Builtin.«zip.__new__» ⟨[.type "zip", .ref a, .ref b], []⟩) (fun _ R s => s.heap.IsTuple a xs ∧ s.heap.IsTuple b ys ∧ R (.ok (.ret (.ref (zT4 s.heap a b).objs.size))) { s with heap := zT5 s.heap a b }) :=
  .of_wp fun prog w A R s q => by
    obtain ⟨hp, g, d, tk, os⟩ := s; obtain ⟨ga, gb, q⟩ := q
    have hsub := sub_zip
    have gA : Heap.IsTuple (Shared.heap ⟨hp, g, d, tk, os⟩) a xs := ga
    have gB : Heap.IsTuple (Shared.heap ⟨hp.push { cls := .type "tuple_iterator", data := .fields #[.ref a, .int 0 0] }, g, d, tk, os⟩) b ys := Heap.IsTuple.push gb _
    wp_walk using wpAny_pyIter_tuple gA, wpAny_pyIter_tuple gB
    exact ⟨_, rfl, q⟩
theorem call_zipT {prog : Program} {w : World} {A : Around} {E : Value → Shared → Prop} {s : Shared} {a b : Addr} {xs ys : Array Value} {Q : Value → Shared → Prop} (ga : s.heap.IsTuple a xs) (gb : s.heap.IsTuple b ys)
    (q : ∀ h', IsZip h' (s.heap.objs.size + 4) (s.heap.objs.size + 2) (s.heap.objs.size + 3) .none → IsPair h' (s.heap.objs.size + 2) (.ref s.heap.objs.size) (.ref (s.heap.objs.size + 1)) → IsPair h' (s.heap.objs.size + 3) .none .none →
      h'.IsTupleIter s.heap.objs.size a 0 → h'.IsTupleIter (s.heap.objs.size + 1) b 0 → (∀ c o, s.heap.get? c = some o → h'.get? c = some o) → Q (.ref (s.heap.objs.size + 4)) { s with heap := h' }) :
    wpAny (model prog w) A (call (.type "zip") [.ref a, .ref b]) Q E s := by
  refine callType_new F.called_zip (by decide) (F.typeCall_zip_2 _ _) (F.newCall_zip_2 _ _) (fun ob => F.args_object_init_3 ob _ _) F.entry_zip_new (zipT_new a b xs ys) ⟨ga, gb, ?_⟩
  have n1 : (zT1 s.heap a).objs.size = s.heap.objs.size + 1 := Heap.size_push ..
  have n2 : (zT2 s.heap a b).objs.size = s.heap.objs.size + 2 := by rw [Heap.size_push, n1]
  have n3 : (zT3 s.heap a b).objs.size = s.heap.objs.size + 3 := by rw [Heap.size_push, n2]
  have n4 : (zT4 s.heap a b).objs.size = s.heap.objs.size + 4 := by rw [Heap.size_push, n3]
  have k5 : (zT5 s.heap a b).get? (zT4 s.heap a b).objs.size = some _ := Heap.get?_push_size _ rfl
  have k4 : (zT5 s.heap a b).get? (zT3 s.heap a b).objs.size = some _ := Heap.get?_push_of_some _ (Heap.get?_push_size _ rfl)
  have k3 : (zT5 s.heap a b).get? (zT2 s.heap a b).objs.size = some _ := Heap.get?_push_of_some _ (Heap.get?_push_of_some _ (Heap.get?_push_size _ rfl))
  have k2 : (zT5 s.heap a b).get? (zT1 s.heap a).objs.size = some _ := Heap.get?_push_of_some _ (Heap.get?_push_of_some _ (Heap.get?_push_of_some _ (Heap.get?_push_size _ rfl)))
  have k1 : (zT5 s.heap a b).get? s.heap.objs.size = some _ := Heap.get?_push_of_some _ (Heap.get?_push_of_some _ (Heap.get?_push_of_some _ (Heap.get?_push_of_some _ (Heap.get?_push_size _ rfl))))
  show _ ∧ _
  rw [n2, n3, n4] at k5
  rw [n1, n2] at k3
  rw [n3] at k4
  rw [n1] at k2
  rw [n4]
  exact ⟨⟨_, k5, rfl⟩, q _ k5 k3 k4 ⟨_, k1, rfl, rfl⟩ ⟨_, k2, rfl, rfl⟩ fun c o x => Heap.get?_push_of_some _ (Heap.get?_push_of_some _ (Heap.get?_push_of_some _ (Heap.get?_push_of_some _ (Heap.get?_push_of_some _ x))))⟩
section
variable {K : PySem.W.Frag} {σ : St} {H : Hp} {Q : VK}
noncomputable def rZip (K : PySem.W.Frag) : List V → Hp → (It → Hp → Prop) → Prop := fun vs H R => ∃ a b xs ys, vs = [.ref a, .ref b] ∧ ((SqT K H a xs ∧ SqT K H b ys ∧ R (Itz (Itt K a) (Itt K b)) H) ∨ (SqL K H a xs ∧ SqL K H b ys ∧ R (Itz (Itl K a) (Itl K b)) H))
noncomputable def iZip (K : PySem.W.Frag) (ta : TA) : TI := fun σ H R => ta σ H fun vs H1 => rZip K vs H1 R
theorem pi_zip {X : Cx} {elts : List Expr} {kk : Nat} {ps : Pos} (K : PySem.W.Frag) {a b : Expr} {ta : TA} {p pos : Pos} (hg : Gl X "zip") (hm : X.mg "zip" = none) (ha : PA X [a, b] ta) (hK : X.K = K := by rfl) (hs : starEach [a, b] X.env = [(false, eval a X.env), (false, eval b X.env)] := by rfl) (hs2 : starEach [b] X.env = [(false, eval b X.env)] := by rfl) :
    PI X (.Tuple elts kk ps) (.Call (.Name "zip" p) [a, b] [] pos) (iZip K ta) := by
  subst hK
  intro pins s σ H R I h
  refine Call_ (ld_blt I hg hm PyProof.Rows.boot_zip (PyProof.Rows.callWith_type1 (thn (ha pos pins s σ H _ I h) fun us s1 ⟨vs, H1, I1, r1, q1⟩ => ?_) (by rw [hs, hs2]) (by rw [hs2]; rfl)))
  obtain ⟨l, m, xs, ys, e, q1⟩ := q1
  subst e
  cases r1 with
  | cons r rr =>
    cases rr with
    | cons r' rr =>
      cases rr
      cases r
      cases r'
      have mk : ∀ {J1 J2 : It} {t1 t2 : Nat → Heap → Prop}, Sub X.prog X.w X.K J1 s1.heap.objs.size t1 → Sub X.prog X.w X.K J2 (s1.heap.objs.size + 1) t2 → ∀ h', IsZip h' (s1.heap.objs.size + 4) (s1.heap.objs.size + 2) (s1.heap.objs.size + 3) .none → IsPair h' (s1.heap.objs.size + 2) (.ref s1.heap.objs.size) (.ref (s1.heap.objs.size + 1)) →
          IsPair h' (s1.heap.objs.size + 3) .none .none → t1 0 h' → t2 0 h' → (∀ c o, s1.heap.get? c = some o → h'.get? c = some o) → R (Itz J1 J2) H1 → wpAny (model X.prog X.w) X.A (pyIter (.ref (s1.heap.objs.size + 4))) (PIE X pins σ (.Tuple elts kk ps) R) X.xe { s1 with heap := h' } := by
        intro J1 J2 t1 t2 S1 S2 h' gz gI gO g1 g2 k q
        refine wpAny_pyIter_zip (s := { s1 with heap := h' }) gz ?_
        have N : Apart (s1.heap.objs.size + 4) (s1.heap.objs.size + 2) (s1.heap.objs.size + 3) s1.heap.objs.size (s1.heap.objs.size + 1) := by
          constructor <;> (intro h; have h' : @Eq Nat _ _ := h; omega)
        refine ⟨s1.heap.objs.size + 4, [s1.heap.objs.size + 4, s1.heap.objs.size + 2, s1.heap.objs.size + 3, s1.heap.objs.size, s1.heap.objs.size + 1], _, _, H1, rfl, I1.kept (t' := s1.toks) k, turn_zip S1 S2 N, ⟨gz, gI, ⟨_, _, gO⟩, g1, g2⟩, fun b hb => ?_, q⟩
        have le : @LE.le Nat _ s1.heap.objs.size b := by
          simp only [List.mem_cons, List.not_mem_nil, or_false] at hb
          rcases hb with rfl | rfl | rfl | rfl | rfl
          · exact Nat.le_add_right _ _
          · exact Nat.le_add_right _ _
          · exact Nat.le_add_right _ _
          · exact Nat.le_refl _
          · exact Nat.le_add_right _ _
        exact I1.fpOk le (I1.hok.fresh le)
      rcases q1 with ⟨ga, gb, q⟩ | ⟨ga, gb, q⟩
      · obtain ⟨its, _, p1, _⟩ := I1.tuple ga
        obtain ⟨its2, _, p2, _⟩ := I1.tuple gb
        exact call_zipT (show s1.heap.IsTuple l its.toArray from p1) (show s1.heap.IsTuple m its2.toArray from p2) fun h' gz gI gO g1 g2 k => mk (sub_tup l _) (sub_tup m _) h' gz gI gO g1 g2 k q
      · obtain ⟨its, _, p1, _⟩ := I1.list ga
        obtain ⟨its2, _, p2, _⟩ := I1.list gb
        exact call_zip_2 p1.isList p2.isList fun h' gz gI gO g1 g2 _ k => mk (sub_list l _) (sub_list m _) h' gz gI gO g1 g2 k q
theorem rd_zip {a : TA} {R : It → Hp → Prop} (h : a σ H fun vs H1 => rZip K vs H1 R) : iZip K a σ H R := h
theorem rd_zipL {a b : Addr} {xs ys : List V} {R : It → Hp → Prop} (ha : SqL K H a xs) (hb : SqL K H b ys) (h : R (Itz (Itl K a) (Itl K b)) H) : rZip K [.ref a, .ref b] H R := ⟨a, b, xs, ys, rfl, .inr ⟨ha, hb, h⟩⟩
theorem comp_zipT {a b : Addr} {xs ys : List V} {n : Nat} {js : List Nat} {g : TG} {tc : TT} {te : TE} (Pv : Nat → List V → Hp → Prop) (hz : xs.length ≤ sizeLine) (h0 : Pv 0 [] H) (hl : ∀ i zs H, Pv i zs H → SqT K H a xs ∧ SqT K H b ys ∧ zs.length ≤ i)
    (hs : ∀ i u v zs H p H', xs[i]? = some u → ys[i]? = some v → Pv i zs H → Ext H H' → H' p = some (.tup [u, v]) → H p = none → g (.ref p) (capt n js σ) H' fun σ2 H3 => tc σ2 H3 fun b H4 => if b = true then te σ2 H4 fun v H5 => Pv (i + 1) (zs ++ [v]) H5 else Pv (i + 1) zs H4)
    (hd : ∀ zs H p, Pv (min xs.length ys.length) zs H → H p = none → Q (.ref p) (upd H p (.lst zs))) : CompBody (Itz (Itt K a) (Itt K b)) n js g tc te σ H Q := by
  refine ⟨fun i m zs H => m = min xs.length ys.length - i ∧ i ≤ min xs.length ys.length ∧ Pv i zs H, ⟨min xs.length ys.length, by simp, Nat.zero_le _, h0⟩, ?_⟩
  rintro i m zs H ⟨rfl, hi, p⟩
  obtain ⟨qa, qb, ql⟩ := hl i zs H p
  by_cases hlt : i < min xs.length ys.length
  · have hx : i < xs.length := by omega
    have hy : i < ys.length := by omega
    refine .inr ⟨⟨⟨xs, xs[i], qa, by simp [hx]⟩, ⟨ys, ys[i], qb, by simp [hy]⟩⟩, by omega, Pv (i + 1), fun zs' H' p' => ⟨min xs.length ys.length - (i + 1), by omega, rfl, hlt, p'⟩, fun x H' y => ?_⟩
    obtain ⟨pp, u, v, rfl, hn, rfl, yu, yv⟩ := y
    exact hs i u v zs H pp _ (yu.2 xs qa) (yv.2 ys qb) p (ext_upd hn) upd_same hn
  · have e : i = min xs.length ys.length := by omega
    refine .inl ⟨?_, fun p' hp => hd zs H p' (e ▸ p) hp⟩
    by_cases h : xs.length ≤ i
    · exact .inl ⟨xs, qa, h⟩
    · exact .inr ⟨⟨xs, xs[i]'(by omega), qa, List.getElem?_eq_getElem (by omega)⟩, ⟨ys, qb, by omega⟩⟩
theorem comp_zipL {a b : Addr} {xs ys : List V} {n : Nat} {js : List Nat} {g : TG} {tc : TT} {te : TE} (Pv : Nat → List V → Hp → Prop) (hz : xs.length ≤ sizeLine) (h0 : Pv 0 [] H) (hl : ∀ i zs H, Pv i zs H → SqL K H a xs ∧ SqL K H b ys ∧ zs.length ≤ i)
    (hs : ∀ i u v zs H p H', xs[i]? = some u → ys[i]? = some v → Pv i zs H → Ext H H' → H' p = some (.tup [u, v]) → H p = none → g (.ref p) (capt n js σ) H' fun σ2 H3 => tc σ2 H3 fun b H4 => if b = true then te σ2 H4 fun v H5 => Pv (i + 1) (zs ++ [v]) H5 else Pv (i + 1) zs H4)
    (hd : ∀ zs H p, Pv (min xs.length ys.length) zs H → H p = none → Q (.ref p) (upd H p (.lst zs))) : CompBody (Itz (Itl K a) (Itl K b)) n js g tc te σ H Q := by
  refine ⟨fun i m zs H => m = min xs.length ys.length - i ∧ i ≤ min xs.length ys.length ∧ Pv i zs H, ⟨min xs.length ys.length, by simp, Nat.zero_le _, h0⟩, ?_⟩
  rintro i m zs H ⟨rfl, hi, p⟩
  obtain ⟨qa, qb, ql⟩ := hl i zs H p
  by_cases hlt : i < min xs.length ys.length
  · have hx : i < xs.length := by omega
    have hy : i < ys.length := by omega
    refine .inr ⟨⟨⟨xs, xs[i], qa, by simp [hx]⟩, ⟨ys, ys[i], qb, by simp [hy]⟩⟩, by omega, Pv (i + 1), fun zs' H' p' => ⟨min xs.length ys.length - (i + 1), by omega, rfl, hlt, p'⟩, fun x H' y => ?_⟩
    obtain ⟨pp, u, v, rfl, hn, rfl, yu, yv⟩ := y
    exact hs i u v zs H pp _ (yu.2 xs qa) (yv.2 ys qb) p (ext_upd hn) upd_same hn
  · have e : i = min xs.length ys.length := by omega
    refine .inl ⟨?_, fun p' hp => hd zs H p' (e ▸ p) hp⟩
    by_cases h : xs.length ≤ i
    · exact .inl ⟨xs, qa, h⟩
    · exact .inr ⟨⟨xs, xs[i]'(by omega), qa, List.getElem?_eq_getElem (by omega)⟩, ⟨ys, qb, by omega⟩⟩
end
theorem tup_whole {prog : Program} {w : World} {A : Around} {E : Value → Shared → Prop} {s : Shared} {t sl : Addr} {ys : Array Value} {vl vu : Value} {lo hi : Option Int} {Q : Value → Shared → Prop} (gt : IsTup s.heap t ys) (gs : s.heap.IsSliceOf sl vl vu .none) (pl : IsPart vl lo) (pu : IsPart vu hi)
    (gw : HT.sIx ys.size 0 lo = 0 ∧ HT.sIx ys.size ys.size hi = ys.size) (q : Q (.ref t) s) : wpAny (model prog w) A (getItem (.ref t) (.ref sl)) Q E s := by
  obtain ⟨u, gu, gc, gd⟩ := id gs
  have gT : s.TypeIs (.ref sl) "slice" := ⟨u, gu, gc⟩
  unfold getItem
  try with_reducible refine wpAny_holding ?_
  first | refine wpAny_bind (wpAny_pure ?_) | skip
  refine wpAny_bind (wpAny_sequenceKey gt.typeIs (by decide) ?_)
  refine wpAny_bind (wpAny_callSpecial?_slot (name := Str.ofString "__getitem__") gt.typeIs PyProof.Rows.slot_tuple_getitem (wpAny_call_entry PyProof.Rows.slot_tuple_getitem gt.typeIs entry_tuple_getitem ?_ (args_tuple_getitem _ _)))
  show wpAny _ _ (Builtin.Tuple.tupleItemsOf (Value.ref t) >>= _) _ _ s
  refine wpAny_bind (tupleItemsOf_ gt ?_)
  refine wpAny_bind (wpAny_typeOf gT ?_)
  rw [if_pos (by decide)]
  refine wpAny_bind (HT.sliceApplied_gen gs pl pu ?_)
  show wpAny _ _ (if (((HT.sIx ys.size 0 lo : Nat) : Int) == 0 && (1 : Int) == 1 && (HT.sIx ys.size ys.size hi - HT.sIx ys.size 0 lo) == ys.size) = true then _ else _) _ _ s
  rw [if_pos (by rw [gw.1, gw.2]; simp)]
  show wpAny _ _ (Builtin.Tuple.tupleIsExact (Value.ref t) >>= _) _ _ s
  unfold Builtin.Tuple.tupleIsExact
  refine wpAny_bind (wpAny_bind (wpAny_typeOf gt.typeIs (wpAny_pure ?_)))
  rw [if_pos (by decide)]
  refine wpAny_bind (wpAny_rule ?_)
  exact wpAny_pure ⟨_, rfl, wpAny_pure q⟩
noncomputable def rSlT1 : V → Option Int → Option Int → Hp → VK → Prop := fun x lo hi H Q => ∃ a xs, x = .ref a ∧ H a = some (.tup xs) ∧ ∀ p H', Ext H H' → H' p = some (.tup (cutV xs lo hi)) → Q (.ref p) H'
theorem sl_tup1 {X : Cx} : SlR X rSlT1 := by
  intro pins s σ H x v vl vu lo hi sl Q I rx hs pl pu h
  obtain ⟨a, xs, rfl, hx, q⟩ := h
  by_cases gw : HT.sIx xs.length 0 lo = 0 ∧ HT.sIx xs.length xs.length hi = xs.length
  · cases rx
    obtain ⟨its, r, ht, hz⟩ := I.tuple (SqT.of hx)
    have hlen : its.toArray.size = xs.length := by rw [List.size_toArray]; exact r.length.symm
    refine ⟨"tuple", _, PyProof.Rows.slot_tuple_getitem.lookup, ht.typeIs, ?_⟩
    refine tup_whole ht hs pl pu (by rw [hlen]; exact gw) ⟨.ref a, H, I, rfl, q a H (Ext.rfl' H) ?_⟩
    have : cutV xs lo hi = xs := by
      unfold cutV
      rw [gw.1, gw.2, List.drop_zero, Nat.sub_zero, List.take_length]
    rw [this]
    exact hx
  · exact sl_tup pins s σ H (.ref a) v vl vu lo hi sl Q I rx hs pl pu ⟨a, xs, rfl, SqT.of hx, gw, fun p hp => q p _ (ext_upd hp) upd_same⟩
theorem rd_slT1 {H : Hp} {Q : VK} {a : Addr} {xs : List V} {lo hi : Option Int} (e : H a = some (.tup xs)) (h : ∀ p H', Ext H H' → H' p = some (.tup (cutV xs lo hi)) → Q (.ref p) H') : rSlT1 (.ref a) lo hi H Q := ⟨a, xs, rfl, e, h⟩
noncomputable def rCatT1 : R2 := fun x y H Q => ∃ a b xs ys, x = .ref a ∧ y = .ref b ∧ H a = some (.tup xs) ∧ H b = some (.tup ys) ∧ xs.length + ys.length ≤ sizeLine ∧ ∀ p H', Ext H H' → H' p = some (.tup (xs ++ ys)) → Q (.ref p) H'
theorem op_catT1 {X : Cx} : OpR X (binaryOp .Add) rCatT1 := by
  intro pins s σ H x y v u Q I rx ry h
  obtain ⟨a, b, xs, ys, rfl, rfl, ha, hb, hz, q⟩ := h
  cases rx
  cases ry
  by_cases hx : xs = []
  · subst hx
    obtain ⟨its, r1, p1, _⟩ := I.tuple (SqT.of ha)
    obtain ⟨its2, r2, p2, _⟩ := I.tuple (SqT.of hb)
    have e := r1.nil_iff.mpr rfl
    subst e
    obtain ⟨⟨cls, dd, data, sl⟩, ho, hc, n, hd⟩ := id p1
    obtain ⟨⟨cls2, dd2, data2, sl2⟩, ho2, hc2, n2, hd2⟩ := id p2
    simp only at hc hd hc2 hd2
    subst hc hd hc2 hd2
    refine concat_meets ⟨_, ho, rfl⟩ ⟨_, ho2, rfl⟩ noFill_tuple_add seq_tuple_add PySem.F.slot_tuple_add PySem.F.entry_tuple_add (PySem.F.args_tuple_add_2 _ _)
      (tuple_addW0 a b _ _ n n2 dd dd2 sl sl2 (by simp)) ⟨ho, ho2, ⟨.ref b, H, I, rfl, q b H (fun _ _ h => h) (by simpa using hb)⟩⟩
  · refine op_catT pins s σ H (.ref a) (.ref b) _ _ Q I rfl rfl ⟨a, b, xs, ys, rfl, rfl, SqT.of ha, SqT.of hb, hx, hz, fun hy => ?_, fun hy p hp => ?_⟩
    · subst hy
      exact q a H (fun _ _ h => h) (by simpa using ha)
    · exact q p _ (ext_upd hp) upd_same
theorem rd_catT1 {H : Hp} {Q : VK} {a b : Addr} {xs ys : List V} (ha : H a = some (.tup xs)) (hb : H b = some (.tup ys)) (hz : xs.length + ys.length ≤ sizeLine) (h : ∀ p H', Ext H H' → H' p = some (.tup (xs ++ ys)) → Q (.ref p) H') : rCatT1 (.ref a) (.ref b) H Q := ⟨a, b, xs, ys, rfl, rfl, ha, hb, hz, h⟩
theorem rd_listT {K : PySem.W.Frag} {H : Hp} {Q : VK} {p : Addr} {ys : List V} (e : SqT K H p ys) (h : New H (.lst ys) Q) : rListOf K [.ref p] H Q := ⟨p, ys, rfl, .inr e, h⟩
end L2
set_option Elab.async false
set_option linter.all false
set_option maxRecDepth 100000
set_option maxHeartbeats 4000000
namespace L2
open PySem PySem.Spec PyProof.Rows
mutual
inductive LitE : Expr → TE → Prop
  | non {j pos} : LitE (.Constant .none j pos) (tC .non)
  | bl {b j pos} : LitE (.Constant (.bool b) j pos) (tC (.bl b))
  | int {i j pos} : LitE (.Constant (.int i) j pos) (tC (.int i))
  | str {x j pos} : LitE (.Constant (.str x) j pos) (tC (.str x))
  | tup {es ta k pos} : LitsE es ta → LitE (.Tuple es k pos) (tTup ta)
inductive LitsE : List Expr → TA → Prop
  | nil : LitsE [] tNil
  | cons {e te es ta} : LitE e te → LitsE es ta → LitsE (e :: es) (tCons te ta)
end
theorem LitE.star {e : Expr} {te : TE} (h : LitE e te) (es : List Expr) (env : Env) : starEach (e :: es) env = (false, eval e env) :: starEach es env := by
  cases h <;> rfl
theorem LitsE.pa {X : Cx} {es : List Expr} {ta : TA} (h : LitsE es ta) : PA X es ta :=
  LitsE.rec (motive_1 := fun e te _ => PE X e te) (motive_2 := fun es ta _ => PA X es ta) pe_non pe_bl pe_int pe_str (fun _ ih => pe_tup ih) pa_nil (fun h _ ih1 ih2 => pa_cons ih1 ih2 (h.star _ _)) h
theorem ps_lits {X : Cx} {i : Nat} {x : Str} {es : List Expr} {ta : TA} {p1 pos pos' : Pos} (hN : X.N.Nodup) (hi : X.N[i]? = some x) (hx : Loc X.env.scope x) (hE : LitsE es ta)
    (hsw : swapsWith (.List es p1) (some (.Name x pos')) pos.line X.env = pure false) (hf : X.fn x = true ∨ X.env.scope.names.lookup x = some .local) :
    PS X (.Assign [.Name x pos'] (.List es p1) pos) (tAsg (tLst ta) (gName i)) :=
  ps_set hN hi hx (pe_lst hE.pa) hsw hf
end L2
set_option Elab.async false
set_option linter.all false
set_option maxRecDepth 100000
set_option maxHeartbeats 4000000
namespace L2
open PySem PySem.Spec PyProof.Rows
noncomputable def codX (c : Addr) (q : Str) : HO := .ext fun h => h.CodeRec (.ref c) q
noncomputable def lamX (f c : Addr) (q : Str) (params : Arguments) (body : Expr) (scope : Scope) : HO := .ext fun h => ∃ pm ctv, h.get? f = some (PySem.W.kla_obj "<lambda>" q params body scope [] pm c ctv)
theorem codX_ok {P : Program} {w : World} {H : Hp} {h : Heap} {c : Addr} {q : Str} (r : h.CodeRec (.ref c) q) : ObjOk P w H h c (codX c q) := by
  refine ⟨r, ?_, fun h1 h2 r1 k => ?_⟩
  · obtain ⟨c', o, vs, t, e, g, _⟩ := r
    cases e
    exact ⟨o, g⟩
  · obtain ⟨c', o, vs, t, e, g, d⟩ := r1
    cases e
    exact ⟨c, o, vs, t, rfl, k o g, d⟩
theorem lamX_ok {P : Program} {w : World} {H : Hp} {h : Heap} {f c : Addr} {q : Str} {params : Arguments} {body : Expr} {scope : Scope} {pm ctv : Value} (r : h.get? f = some (PySem.W.kla_obj "<lambda>" q params body scope [] pm c ctv)) : ObjOk P w H h f (lamX f c q params body scope) :=
  ⟨⟨pm, ctv, r⟩, ⟨_, r⟩, fun h1 h2 ⟨a, b, g⟩ k => ⟨a, b, k _ g⟩⟩
section
variable {X : Cx} {pins : List (Addr × Obj)} {σ : St} {H : Hp} {s : Shared}
theorem Inv.lam {P c f : Addr} {ps more : Array Value} {q : Str} {params : Arguments} {body : Expr} {scope : Scope} {pm ctv : Value} {h' : Heap} {tk : Nat} (I : Inv X pins σ H s) (hP : H P = some (.tbl ps)) (b : Heap.ExtBut P s.heap h') (hc : s.heap.objs.size ≤ c) (hcf : c < f) (gP : h'.get? P = some { cls := .none, data := .fields (ps ++ more) })
    (gc : h'.CodeRec (.ref c) q) (gf : h'.get? f = some (PySem.W.kla_obj "<lambda>" q params body scope [] pm c ctv)) :
    Inv X pins σ (upd (upd (upd H P (.tbl (ps ++ more))) c (codX c q)) f (lamX f c q params body scope)) { s with heap := h', toks := tk } := by
  have hf : @LE.le Nat _ s.heap.objs.size f := Nat.le_trans hc (Nat.le_of_lt hcf)
  have nc : H c = none := I.hok.fresh hc
  have nf : H f = none := I.hok.fresh hf
  have cf : f ≠ c := Nat.ne_of_gt hcf
  have Pc : c ≠ P := fun z => by rw [z, hP] at nc; cases nc
  have Pf : f ≠ P := fun z => by rw [z, hP] at nf; cases nf
  have old : ∀ b o, H b = some o → b ≠ P → upd (upd (upd H P (.tbl (ps ++ more))) c (codX c q)) f (lamX f c q params body scope) b = some o := fun b o e n => by
    rw [upd_ne (ne_of_none e nf), upd_ne (ne_of_none e nc), upd_ne n]; exact e
  have nP : ∀ b, H b = none → b ≠ P := fun b e z => by rw [z, hP] at e; cases e
  refine I.un ⟨fun b' o e n _ _ => b b' o (nP b' n) e, fun b' o e n _ _ => ⟨o.slots, b b' o (nP b' n) e⟩, fun b' o e n _ => ?_, fun b' o e _ => ?_, fun b' xs e => old b' _ e (fun z => by rw [z, hP] at e; cases e), fun b' o u e => old b' _ e (fun z => by rw [z, hP] at e; cases e), fun b' qs e => ?_⟩ fun b' u e => ?_
  · have lt : @LT.lt Nat _ b' s.heap.objs.size := Heap.lt_size e
    rw [upd_ne (Nat.ne_of_lt (Nat.lt_of_lt_of_le lt hf)), upd_ne (Nat.ne_of_lt (Nat.lt_of_lt_of_le lt hc)), upd_ne (nP b' n)]; exact n
  · by_cases z : b' = P
    · rw [z]; exact ⟨_, gP⟩
    · exact ⟨o, b b' o z e⟩
  · by_cases z : b' = P
    · subst z
      rw [hP] at e
      cases e
      exact ⟨more, by rw [upd_ne (Ne.symm Pf), upd_ne (Ne.symm Pc), upd_same]⟩
    · exact ⟨#[], by rw [old b' _ e z]; simp⟩
  · by_cases z : b' = f
    · subst z
      rw [upd_same] at e
      cases e
      exact lamX_ok gf
    · rw [upd_ne z] at e
      by_cases z2 : b' = c
      · subst z2
        rw [upd_same] at e
        cases e
        exact codX_ok gc
      · rw [upd_ne z2] at e
        by_cases z3 : b' = P
        · subst z3
          rw [upd_same] at e
          cases e
          exact gP
        · rw [upd_ne z3] at e
          refine (I.hok b' u e).stay (fun d v hd g => b d v ?_ g) (fun d hd => old d _ hd (fun y => by rw [y, hP] at hd; cases hd)) fun d xs hd => old d _ hd (fun y => by rw [y, hP] at hd; cases hd)
          rcases hd with rfl | hd
          · exact z3
          · exact fun y => by rw [y, hP] at hd; cases hd
end
noncomputable def rLam (P : Addr) (pos : Pos) (q : Str) (params : Arguments) (body : Expr) (scope : Scope) (H : Hp) (Q : VK) : Prop :=
  (H P = some (.tbl #[]) ∧ ∀ f c, H c = none → H f = none → c ≠ P → f ≠ P → f ≠ c → Q (.ref f) (upd (upd (upd H P (.tbl #[rawInt pos.line, rawInt pos.col, .ref c])) c (codX c q)) f (lamX f c q params body scope))) ∨
  ∃ c, H P = some (.tbl #[rawInt pos.line, rawInt pos.col, .ref c]) ∧ H c = some (codX c q) ∧ ∀ f, H f = none → Q (.ref f) (upd H f (lamX f c q params body scope))
noncomputable def tLam (P : Addr) (pos : Pos) (q : Str) (params : Arguments) (body : Expr) (scope : Scope) : TE := fun _ H Q => rLam P pos q params body scope H Q
theorem pe_lam {X : Cx} {params : Arguments} {body : Expr} {scope : Scope} {pos : Pos} {c P : Addr} (hcode : X.env.code = .ref c) (hgl : X.env.globals = mainGlobals) (C : PySem.W.CodeHd X.base c P) (hB : X.base.BuiltinsAt X.mg P) (hgP : mainGlobals ≠ P) (hfree : ∀ x ∈ scope.names, x.2 ≠ .free)
    (hd0 : params.defaults = []) (hk0 : params.kw_defaults = []) : PE X (.Lambda params body scope pos) (tLam P pos (X.env.qual ++ "<lambda>") params body scope) := by
  intro pins s σ H Q I h
  rw [arm_eval_Lambda, PySem.defaultsOf_eq, hk0, hd0]
  refine wpAny_bind (wpAny_pure (wpAny_bind (wpAny_holding (wpAny_pure ?_))))
  have hcl : closureFor scope X.env = pure [] := by
    simp only [closureFor]
    rw [forIn_yield_id [] (fun x hx c => by
      obtain ⟨n, kind⟩ := x
      have : (kind == NameKind.free) = false := by simpa using hfree _ hx
      simp only [this, Bool.false_eq_true, if_false])]
    rfl
  have C' : PySem.W.CodeHd s.heap c P := C.keeps fun b o e => (I.bs b o e).1
  have hg : s.heap.Ns mainGlobals X.mg := by
    obtain ⟨o, es, ep, e, r⟩ := I.ok.mod.glob
    exact ⟨o, es, ep, (I.bs _ _ e).1, r⟩
  have hb : s.heap.BuiltinsAt X.mg P := by
    obtain ⟨bm, o, a1, a2, a3, a4, a5, a6⟩ := hB
    exact ⟨bm, o, a1, a2, a3, a4, (I.bs _ _ a5).1, a6⟩
  rcases h with ⟨hP, q⟩ | ⟨c', hP, hc', q⟩
  · have gP : s.heap.get? P = some (PySem.W.tabObj #[]) := I.hok P _ hP
    refine PySem.W.kla_makeFunction hcl hgl hg hcode C' gP trivial rfl hgP hb fun c' ctv h' tk hx hge hlt hrec htb => ?_
    have nc : H c' = none := I.hok.fresh hge
    have hf : @LE.le Nat _ s.heap.objs.size h'.objs.size := Nat.le_trans hge (Nat.le_of_lt hlt)
    have nf : H h'.objs.size = none := I.hok.fresh hf
    have lP : @LT.lt Nat _ P s.heap.objs.size := Heap.lt_size gP
    have J := Inv.lam (tk := tk) (f := h'.objs.size) (h' := h'.push (PySem.W.kla_obj "<lambda>" (X.env.qual ++ "<lambda>") params body scope [] ((X.mg "__name__").getD .none) c' ctv)) (more := #[rawInt pos.line, rawInt pos.col, .ref c']) I hP (fun b o n e => Heap.get?_push_of_some _ (hx b o n e)) hge hlt (Heap.get?_push_of_some _ htb) (hrec.push _) (Heap.get?_push_size _ rfl)
    rw [Array.empty_append] at J
    exact ⟨.ref h'.objs.size, _, J, rfl, q _ c' nc nf (Nat.ne_of_gt (Nat.lt_of_lt_of_le lP hge)) (Nat.ne_of_gt (Nat.lt_of_lt_of_le lP hf)) (Nat.ne_of_gt hlt)⟩
  · have gP : s.heap.get? P = some (PySem.W.tabObj #[rawInt pos.line, rawInt pos.col, .ref c']) := I.hok P _ hP
    refine PySem.W.kla_makeFunctionHit (cv := .ref c') hcl hgl hg hcode C' gP trivial (by simp [codeAmong, rawInt]) hb fun ctv h' tk hx hge => ?_
    exact ⟨.ref h'.objs.size, _, I.laid (t' := tk) (o := lamX h'.objs.size c' (X.env.qual ++ "<lambda>") params body scope) (fun b o e => Heap.get?_push_of_some _ (hx b o e)) hge (lamX_ok (Heap.get?_push_size _ rfl)), rfl, q _ (I.hok.fresh hge)⟩
inductive LamB : Expr → (Bool → Bool → Bool) → Prop
  | and {p1 p2 p3} : LamB (.BoolOp .And [.Name "p" p1, .Name "q" p2] p3) fun x y => x && y
  | or {p1 p2 p3} : LamB (.BoolOp .Or [.Name "p" p1, .Name "q" p2] p3) fun x y => x || y
  | less {p1 p2 p3 p4} : LamB (.BoolOp .And [.Name "p" p1, .UnaryOp .Not (.Name "q" p2) p3] p4) fun x y => x && !y
  | ne {p1 p2 p3} : LamB (.Compare (.Name "p" p1) [.NotEq] [.Name "q" p2] p3) fun x y => !(x == y)
structure LamS (params : Arguments) (scope : Scope) : Prop where
  sc : FnScope (["p", "q"] : List Str) (["p", "q"] : List Str) scope
  vp : scope.names.lookup ("p" : Str) = some .local
  vq : scope.names.lookup ("q" : Str) = some .local
  bind : ∀ (q : Str) (body : Expr) (pm cv ctv u v : Value), bindArgs (PySem.W.kla_fn "<lambda>" q params body scope [] pm cv ctv) ⟨[u, v], []⟩ = pure [(("p" : Str), u), (("q" : Str), v)]
noncomputable def IsLam (H : Hp) (f : Addr) (g : Bool → Bool → Bool) : Prop := ∃ c q params body scope, H f = some (lamX f c q params body scope) ∧ H c = some (codX c q) ∧ LamB body g ∧ LamS params scope
theorem lam_body {Y : Cx} {body : Expr} {g : Bool → Bool → Bool} (hN : Y.N = (["p", "q"] : List Str)) (vp : Y.env.scope.names.lookup ("p" : Str) = some .local) (vq : Y.env.scope.names.lookup ("q" : Str) = some .local) (b : LamB body g) (x y : Bool) :
    ∃ te, PE Y body te ∧ ∀ (H : Hp) (Q : VK), Q (.bl (g x y)) H → te [some (.bl x), some (.bl y)] H Q := by
  have e0 : Y.N[0]? = some ("p" : Str) := by rw [hN]; rfl
  have e1 : Y.N[1]? = some ("q" : Str) := by rw [hN]; rfl
  have P0 : ∀ {p : Pos}, PE Y (.Name "p" p) (tVar 0) := fun {p} => pe_var e0 (.inl vp)
  have P1 : ∀ {p : Pos}, PE Y (.Name "q" p) (tVar 1) := fun {p} => pe_var e1 (.inl vq)
  cases b with
  | and =>
    refine ⟨_, pe_and P0 (pe_one P1), fun H Q q => ?_⟩
    refine rd_andV (rd_var rfl (rd_exb ?_))
    cases x with
    | true => exact iteT (rd_var rfl q)
    | false => exact iteF q
  | or =>
    refine ⟨_, pe_or P0 (pe_one P1), fun H Q q => ?_⟩
    refine rd_orV (rd_var rfl (rd_exb ?_))
    cases x with
    | true => exact iteT q
    | false => exact iteF (rd_var rfl q)
  | less =>
    refine ⟨_, pe_and P0 (pe_one (pe_not P1)), fun H Q q => ?_⟩
    refine rd_andV (rd_var rfl (rd_exb ?_))
    cases x with
    | true => exact iteT (rd_notV (rd_var rfl (rd_exb q)))
    | false => exact iteF q
  | ne =>
    refine ⟨_, pe_cmpR op_ne P0 P1 (nomark _), fun H Q q => ?_⟩
    exact rd_op (rd_var rfl (rd_var rfl (rd_NeB q)))
section
variable {X : Cx} {pins : List (Addr × Obj)} {σ : St} {H : Hp} {s : Shared}
theorem lam_call {k : Nat} {f : Addr} {g : Bool → Bool → Bool} {x y : Bool} {Q : VK} (I : Inv X pins σ H s) (h : IsLam H f g) (hr : Room (k + 1) X.A) (q : Q (.bl (g x y)) H) : wpAny (model X.prog X.w) X.A (call (.ref f) [.bool x, .bool y]) (EP X pins σ Q) X.xe s := by
  obtain ⟨c, qn, params, body, scope, hf, hc, hB, S⟩ := h
  obtain ⟨⟨pm, ctv, gf⟩, _⟩ := I.hok f _ hf
  obtain ⟨gc, _⟩ := I.hok c _ hc
  have e0 := I.env0
  have lim : s.heap.NoLimit := e0.mod.nolimit.keeps fun b o e => (e0.bs b o e).1
  have r : Vals [V.bl x, V.bl y] [Value.bool x, Value.bool y] := .cons rfl (.cons rfl .nil)
  have run : codeAny (model X.prog X.w) X.A (.call (.ref f) ⟨[.bool x, .bool y], []⟩) (CR CX0 X.stack X.prog X.w H s Q E0) s := by
    refine PySem.W.kla_callFunE hr.depth gf rfl S.sc.co S.sc.gen rfl gc ?_
    rw [S.bind]
    refine wpAny_pure ?_
    refine wpAny_newFunctionEnv_cells S.sc.kind (fun z hz => ?_) fun env he s1 z => ?_
    · simp only [List.mem_cons, List.not_mem_nil, or_false] at hz
      rcases hz with rfl | rfl
      · exact .inl S.vp
      · exact .inl S.vq
    subst he
    refine ⟨lim.keeps z.toInCall.keep, PySem.W.kla_codeExpr ?_⟩
    have J : Inv (cxOf CX0 X.prog X.w X.K X.mg X.base ["p", "q"] qn scope f (.ref c) X.A X.stack s H E0) [] (start ["p", "q"] [V.bl x, V.bl y]) H s1 := inv_start S.sc hr.hd e0 rfl r z
    obtain ⟨te, ht, hq⟩ := lam_body (Y := cxOf CX0 X.prog X.w X.K X.mg X.base ["p", "q"] qn scope f (.ref c) X.A X.stack s H E0) rfl S.vp S.vq hB x y
    refine wpAny_mono (ht [] s1 (start ["p", "q"] [V.bl x, V.bl y]) H _ J (hq H Q q)) (fun u s' ⟨v, H', J', rv, q'⟩ => ?_) fun e s' hs => hs
    exact ⟨v, H', J'.os, J'.bare, J'.base, J'.hok, rv, q'⟩
  refine wpAny_call (codeAny_mono run fun r s' hq => ?_)
  cases r with
  | error e => exact False.elim hq
  | ok fl =>
    cases fl with
    | ret u => exact I.after hq
    | next => exact False.elim hq
    | brk => exact False.elim hq
    | cont => exact False.elim hq
end
noncomputable def rCalV : V → List V → Hp → VK → Prop := fun fv vs H Q => ∃ f g x y, fv = .ref f ∧ vs = [.bl x, .bl y] ∧ IsLam H f g ∧ Q (.bl (g x y)) H
noncomputable def tCalV (tf : TE) (ta : TA) : TE := fun σ H Q => tf σ H fun fv H1 => (∃ f g, fv = .ref f ∧ IsLam H1 f g) ∧ ta σ H1 fun vs H2 => rCalV fv vs H2 Q
theorem pe_calV {X : Cx} {k : Nat} {x : Str} {p pos : Pos} {e : Expr} {es : List Expr} {tf : TE} {ta : TA} (hr : Room (k + 1) X.A) (hf : PE X (.Name x p) tf) (ha : PA X (e :: es) ta)
    (he : starEach (e :: es) X.env = (false, eval e X.env) :: starEach es X.env := by rfl) (hpl : (backTo pos (starEach es X.env)).any (·.1) = false := by rfl) : PE X (.Call (.Name x p) (e :: es) [] pos) (tCalV tf ta) := by
  intro pins s σ H Q I h
  refine wpAny_Call_Name_kw (thn (hf pins s σ H _ I h) fun fv s1 ⟨v, H1, I1, r1, ⟨f, g, ev, hl⟩, q1⟩ => ?_)
  subst ev
  cases r1
  have fnAt : ∀ {σ : St} {H : Hp} {s : Shared} {g}, Inv X pins σ H s → IsLam H f g → PySem.W.FnAt f s.heap := fun {σ H s g} J hl => by
    obtain ⟨c, qn, params, body, scope, hf, _⟩ := hl
    obtain ⟨⟨pm, ctv, gf⟩, _⟩ := J.hok f _ hf
    exact ⟨_, _, _, _, gf⟩
  refine PySem.W.callWith_F (first := []) (fnAt I1 hl) (thn (ha pos pins s1 σ H1 _ I1 q1) fun us s2 ⟨vs, H2, I2, r2, q2⟩ => ?_) he hpl
  obtain ⟨f', g', x', y', ef, rfl, hl', q⟩ := q2
  cases ef
  obtain ⟨u1, u2, rfl, ru1, ru2⟩ : ∃ u1 u2, us = [u1, u2] ∧ RelV (.bl x') u1 ∧ RelV (.bl y') u2 := by
    cases r2 with
    | cons a b =>
      cases b with
      | cons c d => cases d; exact ⟨_, _, rfl, a, c⟩
  cases ru1
  cases ru2
  exact ⟨fnAt I2 hl', lam_call I2 hl' hr q⟩
theorem rd_lam {P : Addr} {pos : Pos} {q : Str} {params : Arguments} {body : Expr} {scope : Scope} {σ : St} {H : Hp} {Q : VK} (h : rLam P pos q params body scope H Q) : tLam P pos q params body scope σ H Q := h
theorem rd_calV {tf : TE} {ta : TA} {σ : St} {H : Hp} {Q : VK} (h : tf σ H fun fv H1 => (∃ f g, fv = .ref f ∧ IsLam H1 f g) ∧ ta σ H1 fun vs H2 => rCalV fv vs H2 Q) : tCalV tf ta σ H Q := h
end L2
set_option Elab.async false
set_option linter.all false
set_option maxRecDepth 100000
set_option maxHeartbeats 4000000
namespace L2
open PySem PySem.Spec PyProof.Rows
structure Tab (K : PySem.W.Frag) (mg : Str → Option Value) (base : Heap) (x : Str) (c T : Addr) : Prop where
  tin : PySem.W.tabIn K x = some (c, T)
  hd : PySem.W.CodeHd base c T
  blt : base.BuiltinsAt mg T
  gl : mainGlobals ≠ T
  kin : K.In base
  ns : base.Ns mainGlobals mg
section
variable {P : Program} {w : World} {K : PySem.W.Frag} {mg : Str → Option Value} {base : Heap}
theorem tabIn_code {x : Str} {c T f : Addr} {o : Obj} {fd : FuncData} (ht : PySem.W.tabIn K x = some (c, T)) (KX : K.In base) (G : base.Ns mainGlobals mg) (hm : mg x = some (.ref f)) (lk : K.lookup f = some o) (hd : o.data = .func fd) : fd.code = .ref c := by
  unfold PySem.W.tabIn at ht
  split at ht
  · rename_i f' hf
    have e1 := PySem.W.mg_of KX G hf
    rw [hm] at e1
    cases e1
    split at ht
    · rename_i hfo
      rw [lk] at hfo
      cases hfo
      cases hd
      split at ht
      · rename_i c2 hc
        split at ht
        · split at ht
          · cases ht; exact hc
          · cases ht
        · cases ht
      · cases ht
    · cases ht
  · cases ht
end
noncomputable def OnlyT (tabs : List (Addr × Addr)) (H : Hp) : Prop := ∀ q ∈ tabs, H q.2 = some (.tbl #[])
theorem law_callT {P : Program} {w : World} {K : PySem.W.Frag} {mg mb : Str → Option Value} {k : Nat} {fa a : Addr} {fd : FuncData} {x : Str} {sp : Sp} {s₁ : Shared} {vs : List Value} {ns : List Int} {tabs : List (Addr × Addr)}
    (KX : K.In s₁.heap) (hK : PySem.W.noTabs K = true) (hT : PySem.W.TabsAt tabs s₁.heap) (hns : s₁.heap.Ns mainGlobals mg) (hb : s₁.heap.Ns builtinsNs mb) (hbb : ∀ x : Str, x ≠ "__name__" → mb x = bootBuiltins x) (hlim : s₁.heap.NoLimit)
    (hbm : ∃ bm ob, mg "__builtins__" = some (.ref bm) ∧ bm ≠ builtinsNs ∧ s₁.heap.get? bm = some ob ∧ ob.cls = .type "module" ∧ ob.dict = some builtinsNs ∧ ob.data = .plain) (hg : s₁.gens = #[])
    (ha : s₁.heap.get? a = some { cls := .type "list", data := .seq vs.toArray }) (hi : IntsAre vs ns) (hl : ns.length ≤ sizeLine) (hr : Room k callerA)
    (F : ∀ base : Heap, K.In base → base.Ns mainGlobals mg → (∀ q ∈ tabs, PySem.W.CodeHd base q.1 q.2 ∧ base.BuiltinsAt mg q.2 ∧ mainGlobals ≠ q.2) → FnOk P w K mg base CX0 k fa fd [x] sp) (hbind : ∀ (s : Shared) (u : Value), BindsTo s fd ⟨[u], []⟩ [(x, u)])
    (hsp : ∀ H : Hp, OnlyT tabs H → SqL K H a (ns.map V.int) → sp [.ref a] H (fun v _ => v = .bl true) fun _ _ _ => False) :
    codeAny (model P w) callerA (.call (.ref fa) ⟨[.ref a], []⟩) (fun r s' => r = .ok (.ret (.bool true)) ∧ OldK s₁.heap s'.heap ∧ s'.os = s₁.os ∧ AllBare s'.gens) s₁ := by
  have rv := vals_ints hi
  have lenV := hi.length
  have na : ∀ q ∈ tabs, a ≠ q.2 := fun q hq z => by
    have := (hT q hq).2
    rw [← z, ha] at this
    cases this
  have noT : ∀ {b : Addr} {o : Obj}, s₁.heap.get? b = some o → o ≠ PySem.W.tabObj #[] → b ∉ tabs.map (·.2) := fun {b o} e n hm => by
    obtain ⟨q, hq, rfl⟩ := List.mem_map.mp hm
    have := (hT q hq).2
    rw [e] at this
    exact n (Option.some.inj this)
  have core : ∀ H : Hp, OnlyT tabs H → SqL K H a (ns.map V.int) → HOk P w H s₁.heap → (∀ b, H b ≠ none → b = a ∨ b ∈ tabs.map (·.2)) → (H a ≠ none → K.lookup a = none ∧ ∃ o xs, H a = some (.frz o (.lst xs))) →
      codeAny (model P w) callerA (.call (.ref fa) ⟨[.ref a], []⟩) (fun r s' => r = .ok (.ret (.bool true)) ∧ OldK s₁.heap s'.heap ∧ s'.os = s₁.os ∧ AllBare s'.gens) s₁ := by
    intro H hO hS hok hA hKa
    have free : ∀ {b : Addr} {o : Obj}, s₁.heap.get? b = some o → o ≠ PySem.W.tabObj #[] → b ≠ a → H b = none := fun {b o} e n nb => by
      cases q : H b with
      | none => rfl
      | some u =>
        rcases hA b (by rw [q]; simp) with z | z
        · exact absurd z nb
        · exact absurd z (noT e n)
    have nsK : ∀ {b : Addr} {m : Str → Option Value}, s₁.heap.Ns b m → (hidT s₁.heap H).Ns b m := fun {b m} ⟨o, es, ep, e, d, r⟩ => ⟨o, es, ep, hidT_get e (free e (fun z => by rw [z] at d; cases d) fun z => by rw [z, ha] at e; cases e; cases (show Data.seq vs.toArray _ = Data.dict es ep from d)), d, r⟩
    have hKb : K.In (hidT s₁.heap H) := fun b o e => hidT_get (KX b o e) (by
      by_cases z : b = a
      · subst z
        cases q : H b with
        | none => rfl
        | some u =>
          have := (hKa (by rw [q]; simp)).1
          rw [this] at e
          cases e
      · refine free (KX b o e) (fun z2 => ?_) z
        have h2 := List.all_eq_true.mp hK (b, o) (PySem.W.mem_of_lookupK e)
        subst z2
        exact absurd (show false = true from h2) Bool.false_ne_true)
    have hM : Mod K mg (hidT s₁.heap H) := ⟨hKb, nsK hns, ⟨mb, nsK hb, hbb⟩, let ⟨mc, h1, h2⟩ := hlim; ⟨mc, nsK h1, h2⟩⟩
    have e0 : Env0 P w K mg (hidT s₁.heap H) callerA [] s₁ H := ⟨rfl, hM, fun b o e => of_hidT e, Nat.le_of_eq (hidT_size _ _), trivial, fun b hb => absurd (show b ∈ ([] : List Addr) from hb) (by simp), hok, .of_eq hg⟩
    have tabsB : ∀ q ∈ tabs, PySem.W.CodeHd (hidT s₁.heap H) q.1 q.2 ∧ (hidT s₁.heap H).BuiltinsAt mg q.2 ∧ mainGlobals ≠ q.2 := fun q hq => by
      refine ⟨?_, ?_, ?_⟩
      · obtain ⟨o, us, file, tf, flags, tg, inF, text, tt, e, hc, r⟩ := (hT q hq).1
        exact ⟨o, us, file, tf, flags, tg, inF, text, tt, hidT_get e (free e (fun z => by rw [z] at hc; cases hc) fun z => by rw [z, ha] at e; cases e; simp at hc), hc, r⟩
      · obtain ⟨bm, ob, a1, a2, a3, a4, a5⟩ := hbm
        refine ⟨bm, ob, a1, a2, fun z => ?_, fun z => ?_, hidT_get a3 (free a3 (fun z => by rw [z] at a4; cases a4) fun z => by rw [z, ha] at a3; cases a3; simp at a4), a4, a5⟩
        · obtain ⟨o, es, ep, e, d, _⟩ := hns
          rw [← z, a3] at e
          cases e
          rw [a5.2] at d
          cases d
        · have := (hT q hq).2
          rw [← z, a3] at this
          cases this
          cases a4
      · intro z
        obtain ⟨o, es, ep, e, d, _⟩ := hns
        have := (hT q hq).2
        rw [← z, e] at this
        cases this
        cases d
    refine codeAny_mono ((F _ hKb (nsK hns) tabsB).run callerA [] s₁ H ⟨[.ref a], []⟩ [.ref a] [.ref a] _ _ hr e0 (hbind s₁ (.ref a)) (.cons rfl .nil) (hsp H hO hS)) fun r s' h => ?_
    cases r with
    | error e => exact False.elim h
    | ok fl =>
      cases fl with
      | next => exact False.elim h
      | brk => exact False.elim h
      | cont => exact False.elim h
      | ret u =>
        obtain ⟨v, H', os, bare, un, hok', r', q⟩ := h
        have q' : v = .bl true := q
        subst q'
        obtain rfl : u = Value.bool true := r'
        have keep : ∀ b o, s₁.heap.get? b = some o → b ∉ tabs.map (·.2) → s'.heap.get? b = some o := fun b o e nt => by
          cases q : H b with
          | none => exact un.keep b o e q (by intro z; exact absurd (show b ∈ ([] : List Addr) from z) (by simp)) (by simp)
          | some u =>
            rcases hA b (by rw [q]; simp) with z | z
            · subst z
              obtain ⟨_, ob, xs, z⟩ := hKa (by rw [q]; simp)
              have z2 := un.frzs b ob _ z
              obtain ⟨e1, _⟩ := hok b _ z
              obtain ⟨e2, _⟩ := hok' b _ z2
              rw [e] at e1; cases e1
              exact e2
            · exact absurd z nt
        have grown : ∀ q ∈ tabs, ∃ more, s'.heap.get? q.2 = some (PySem.W.tabObj (#[] ++ more)) := fun q hq => by
          obtain ⟨more, e⟩ := un.tbls q.2 _ (hO q hq)
          exact ⟨more, hok' q.2 _ e⟩
        refine ⟨rfl, ⟨fun b o e => ?_, fun b o e => ?_⟩, os, bare⟩
        · by_cases hm : b ∈ tabs.map (·.2)
          · obtain ⟨q, hq, rfl⟩ := List.mem_map.mp hm
            obtain ⟨more, g⟩ := grown q hq
            have e2 := (hT q hq).2
            rw [e] at e2
            cases e2
            exact .inr (.inl ⟨((hT q hq).1.tab (hT q hq).2).isCodeTable, rfl, #[], more, rfl, g⟩)
          · exact .inl (keep b o e hm)
        · by_cases hm : b ∈ tabs.map (·.2)
          · obtain ⟨q, hq, rfl⟩ := List.mem_map.mp hm
            obtain ⟨more, g⟩ := grown q hq
            exact ⟨_, g⟩
          · exact ⟨o, keep b o e hm⟩
  have hTok : ∀ (H : Hp) b, b ∈ tabs.map (·.2) → ObjOk P w H s₁.heap b (.tbl #[]) := fun H b hm => by
    obtain ⟨q, hq, rfl⟩ := List.mem_map.mp hm
    exact (hT q hq).2
  cases hk : K.lookup a with
  | some o =>
    have e := KX a o hk
    rw [ha] at e
    cases e
    have at_ : ∀ b, (if b ∈ tabs.map (·.2) then some (HO.tbl #[]) else none) = (none : Option HO) ∨ b ∈ tabs.map (·.2) := fun b => by
      by_cases hb : b ∈ tabs.map (·.2)
      · exact .inr hb
      · exact .inl (if_neg hb)
    have nota : a ∉ tabs.map (·.2) := fun hm => by
      obtain ⟨q, hq, e⟩ := List.mem_map.mp hm
      exact na q hq e.symm
    refine core (fun b => if b ∈ tabs.map (·.2) then some (.tbl #[]) else none) (fun q hq => if_pos (List.mem_map.mpr ⟨q, hq, rfl⟩)) (.inr ⟨_, vs.toArray, _, hk, rfl, rfl, rfl, by rw [List.size_toArray, lenV]; exact hl, by simpa using rv⟩) (fun b u z => ?_) (fun b z => ?_) fun z => absurd (if_neg nota) z
    · by_cases hb : b ∈ tabs.map (·.2)
      · have z' := (if_pos hb).symm.trans z
        cases z'
        exact hTok _ b hb
      · have z' := (if_neg hb).symm.trans z
        cases z'
    · rcases at_ b with h | h
      · exact absurd h z
      · exact .inr h
  | none =>
    have nota : a ∉ tabs.map (·.2) := fun hm => by
      obtain ⟨q, hq, e⟩ := List.mem_map.mp hm
      exact na q hq e.symm
    refine core (fun b => if b = a then some (.frz { cls := .type "list", data := .seq vs.toArray } (.lst (ns.map V.int))) else if b ∈ tabs.map (·.2) then some (.tbl #[]) else none) (fun q hq => ?_) (.inl (.inr ⟨{ cls := .type "list", data := .seq vs.toArray }, if_pos rfl⟩)) (fun b u z => ?_) (fun b z => ?_) fun _ => ⟨hk, _, _, if_pos rfl⟩
    · show (if q.2 = a then _ else _) = _
      rw [if_neg (Ne.symm (na q hq)), if_pos (List.mem_map.mpr ⟨q, hq, rfl⟩)]
    · by_cases hb : b = a
      · have z' := (if_pos hb).symm.trans z
        cases z'
        subst hb
        exact ⟨ha, by rw [List.length_map]; exact hl, vs, _, rv, ha⟩
      · have z' := (if_neg hb).symm.trans z
        by_cases hb2 : b ∈ tabs.map (·.2)
        · have z2 := (if_pos hb2).symm.trans z'
          cases z2
          exact hTok _ b hb2
        · have z2 := (if_neg hb2).symm.trans z'
          cases z2
    · by_cases hb : b = a
      · exact .inl hb
      · by_cases hb2 : b ∈ tabs.map (·.2)
        · exact .inr hb2
        · exact absurd ((if_neg hb).trans (if_neg hb2)) z
theorem walk_ofT {l : PySem.W.OpenLaw} {n k : Nat} {q : Program} {loose : List Str} {XP : (Str → Option Value) → Heap → Prop} {YP : World → Heap → Prop} {d : DefRec} {K : Params → PySem.W.Frag} {sp : World → Sp} {x : Str} (xs : List Str)
    (hn : l.most = some n) (hn2 : n ≤ sizeLine) (hdf : d.params.defaults = []) (hr : Room k callerA)
    (hY : ∀ (w : World) (h : Heap), YP w h → (K w.params).In h) (hK : ∀ w : World, PySem.W.noTabs (K w.params) = true) (hrec : ∀ y ∈ xs, ((recsOf q).find? (fun e => e.name == y)).isSome = true) (htab : ∀ (w : World), ∀ y ∈ xs, (PySem.W.tabIn (K w.params) y).isSome = true)
    (F : ∀ (w : World) (mg : Str → Option Value) (fa : Addr) (h : Heap), (K w.params).In h → h.Ns mainGlobals mg → mg d.name = some (.ref fa) →
      ∃ fd : FuncData, (∀ (s : Shared) (u : Value), BindsTo s fd ⟨[u], []⟩ [(x, u)]) ∧
        ∀ base : Heap, (K w.params).In base → base.Ns mainGlobals mg → (∀ y ∈ xs, ∃ c T, Tab (K w.params) mg base y c T) → FnOk l.prog w (K w.params) mg base CX0 k fa fd [x] (sp w))
    (hsp : ∀ (w : World) (H : Hp) (a : Addr) (ns : List Int), ns.length ≤ n → (∀ y ∈ xs, ∀ c T, PySem.W.tabIn (K w.params) y = some (c, T) → H T = some (.tbl #[])) → SqL (K w.params) H a (ns.map V.int) → sp w [.ref a] H (fun v _ => v = .bl true) fun _ _ _ => False) :
    PySem.W.WalkO q loose XP YP l.row.toRowW d [] (fun f vs => PySem.call f vs) := by
  refine Att.attach_call hn hdf fun w s₀ s₁ mg mb fa o pm cd doc a vs ns G Y ho hd hcd hmg hobj hints hlen hg => ?_
  have KX := hY w _ Y
  obtain ⟨fd, hb, hF⟩ := F w mg fa _ KX G.T.g hmg
  have hT : PySem.W.TabsAt (xs.filterMap (PySem.W.tabIn (K w.params))) s₁.heap := fun p hp => by
    obtain ⟨y, hy, e⟩ := List.mem_filterMap.mp hp
    obtain ⟨dr, er⟩ := Option.isSome_iff_exists.mp (hrec y hy)
    exact PySem.W.tab_of G.T KX er e
  refine law_callT KX (hK w) hT G.T.g G.T.b G.T.builtins G.T.nolimit G.T.bmain hg hobj hints (Nat.le_trans hlen hn2) hr (fun base kb nb tb => hF base kb nb fun y hy => ?_) hb fun H hO hS => hsp w H a ns hlen (fun y hy c T e => hO (c, T) (List.mem_filterMap.mpr ⟨y, hy, e⟩)) hS
  obtain ⟨⟨c, T⟩, e⟩ := Option.isSome_iff_exists.mp (htab w y hy)
  obtain ⟨h1, h2, h3⟩ := tb (c, T) (List.mem_filterMap.mpr ⟨y, hy, e⟩)
  exact ⟨c, T, e, h1, h2, h3, kb, nb⟩
end L2
set_option Elab.async false
set_option linter.all false
set_option maxRecDepth 100000
set_option maxHeartbeats 4000000
namespace L2
open PySem PySem.Spec PyProof.Rows
section
variable {prog : Program} {w : World} {A : Around} {E : Value → Shared → Prop}
end
section
variable {X : Cx} {pos : Pos}
end
theorem rd_par {i j : Nat} {ta : TA} {D : Ends} {σ : St} {H : Hp} (h : ta σ H fun vs H1 => ∃ v w, vs = [v, w] ∧ D.nx ((σ.set i (some v)).set j (some w)) H1) : tPar i j ta D σ H := h
theorem rd_par2 {v w : V} {R : V → V → Prop} (h : R v w) : ∃ a b, [v, w] = [a, b] ∧ R a b := ⟨v, w, rfl, h⟩
noncomputable def Et (H H' : Hp) : Prop := ∀ b o, H b = some o → (∀ ps, o ≠ .tbl ps) → H' b = some o
theorem Ext.et {H H' : Hp} (e : Ext H H') : Et H H' := fun b o h _ => e b o h
theorem Et.trans {H H1 H2 : Hp} (a : Et H H1) (b : Et H1 H2) : Et H H2 := fun x o h n => b x o (a x o h n) n
theorem IsLam.ext {H H' : Hp} (e : Ext H H') {f : Addr} {g : Bool → Bool → Bool} (h : IsLam H f g) : IsLam H' f g := by
  obtain ⟨c, q, params, body, scope, h1, h2, r⟩ := h
  exact ⟨c, q, params, body, scope, e _ _ h1, e _ _ h2, r⟩
noncomputable def TabOk (K : PySem.W.Frag) (x q : Str) (line col : Nat) (H : Hp) : Prop := ∀ c T, PySem.W.tabIn K x = some (c, T) →
  H T = some (.tbl #[]) ∨ ∃ c', H T = some (.tbl #[rawInt line, rawInt col, .ref c']) ∧ H c' = some (codX c' q)
theorem TabOk.ext {K : PySem.W.Frag} {x q : Str} {line col : Nat} {H H' : Hp} (e : Ext H H') (h : TabOk K x q line col H) : TabOk K x q line col H' := fun c T ht => by
  rcases h c T ht with h | ⟨c', h1, h2⟩
  · exact .inl (e _ _ h)
  · exact .inr ⟨c', e _ _ h1, e _ _ h2⟩
theorem rd_lamT2 {K : PySem.W.Frag} {x q : Str} {params : Arguments} {body : Expr} {scope : Scope} {H : Hp} {Q : VK} {c T : Addr} {pos : Pos} (ht : TabOk K x q pos.line pos.col H) (e : PySem.W.tabIn K x = some (c, T))
    (h : ∀ f c' H', Et H H' → TabOk K x q pos.line pos.col H' → (∀ y q2 l2 k2, (∀ c2 T2, PySem.W.tabIn K y = some (c2, T2) → T2 ≠ T) → TabOk K y q2 l2 k2 H → TabOk K y q2 l2 k2 H') → H' f = some (lamX f c' q params body scope) → H' c' = some (codX c' q) → Q (.ref f) H') : rLam T pos q params body scope H Q := by
  rcases ht c T e with hT | ⟨c', hT, hc'⟩
  · refine .inl ⟨hT, fun f c' nc nf cT fT fc => ?_⟩
    have old : ∀ b o, H b = some o → b ≠ T → upd (upd (upd H T (.tbl #[rawInt pos.line, rawInt pos.col, .ref c'])) c' (codX c' q)) f (lamX f c' q params body scope) b = some o := fun b o hb n => by
      rw [upd_ne (ne_of_none hb nf), upd_ne (ne_of_none hb nc), upd_ne n]
      exact hb
    refine h f c' _ (fun b o hb n => old b o hb fun z => by rw [z, hT] at hb; cases hb; exact n _ rfl) (fun c2 T2 e2 => .inr ⟨c', ?_, ?_⟩) (fun y q2 l2 k2 hn hy c2 T2 e2 => ?_) upd_same ?_
    · rw [e] at e2
      cases e2
      rw [upd_ne (Ne.symm fT), upd_ne (Ne.symm cT), upd_same]
    · rw [upd_ne (Ne.symm fc), upd_same]
    · rcases hy c2 T2 e2 with g | ⟨c3, g1, g2⟩
      · exact .inl (old _ _ g (hn c2 T2 e2))
      · exact .inr ⟨c3, old _ _ g1 (hn c2 T2 e2), old _ _ g2 fun z => by rw [z, hT] at g2; cases g2⟩
    · rw [upd_ne (Ne.symm fc), upd_same]
  · refine .inr ⟨c', hT, hc', fun f nf => ?_⟩
    have ex : Ext H (upd H f (lamX f c' q params body scope)) := ext_upd nf
    exact h f c' _ ex.et (TabOk.ext ex ht) (fun y q2 l2 k2 _ hy => hy.ext ex) upd_same (ex _ _ hc')
end L2
set_option Elab.async false
set_option linter.all false
set_option maxRecDepth 100000
set_option maxHeartbeats 4000000
namespace L2
open PySem PySem.Spec PyProof.Rows
section
variable {κ : Type} [DecidableEq κ]
end
section
variable {P : Program} {w : World} {H : Hp} {h : Heap} {a : Addr}
end
section
variable {X : Cx} {pins : List (Addr × Obj)} {σ : St} {H : Hp} {s : Shared} {a : Addr} {y v : V} {u r : Value} {o : Option V} {A : Around} {E : Value → Shared → Prop}
end
section
variable {X : Cx} {pins : List (Addr × Obj)} {σ : St} {H : Hp} {s : Shared} {a : Addr} {kvs : List (Key × V)} {k : Key} {u : Value} {A : Around} {E : Value → Shared → Prop}
end
section
variable {X : Cx} {o i e value : Expr} {pos pos' tpos : Pos} {td ty tv : TE}
end
section
variable {X : Cx} {pos : Pos}
end
section
variable {X : Cx} {pins : List (Addr × Obj)} {σ : St} {H : Hp} {s : Shared} {a : Addr} {y d : V} {u r : Value} {o : Option V} {A : Around} {E : Value → Shared → Prop}
end
section
variable {X : Cx} {o e f : Expr} {apos cpos : Pos} {td ty tx : TE}
end
section
variable {X : Cx} {pins : List (Addr × Obj)} {σ : St} {H : Hp} {s : Shared} {a : Addr} {kvs : List (Key × V)} {A : Around} {E : Value → Shared → Prop}
end
section
variable {X : Cx} {pins : List (Addr × Obj)} {σ : St} {H : Hp} {s : Shared} {a : Addr} {y : V} {u : Value} {A : Around} {E : Value → Shared → Prop}
end
end L2
namespace L2
open PySem PySem.Spec PyProof.Rows
section
variable {X : Cx}
end
section
variable {κ : Type} [DecidableEq κ]
end
end L2
set_option Elab.async false
set_option linter.all false
set_option maxRecDepth 100000
set_option maxHeartbeats 4000000
namespace L2
open PySem PySem.Spec PyProof.Rows
theorem ObjOk.obj {P : Program} {w : World} {H : Hp} {h : Heap} {a : Addr} {o : HO} (x : ObjOk P w H h a o) : ∃ ob, h.get? a = some ob := by
  cases o with
  | lst xs => obtain ⟨_, _, _, _, e⟩ := x; exact ⟨_, e⟩
  | tup xs => obtain ⟨_, _, _, ob, e, _⟩ := x; exact ⟨_, e⟩
  | dK kvs => obtain ⟨_, _, _, _, ob, es, ep, e, _⟩ := x; exact ⟨_, e⟩
  | dT kvs => obtain ⟨_, _, _, _, ob, es, ep, e, _⟩ := x; exact ⟨_, e⟩
  | set S n => obtain ⟨ob, es, ep, t, e, _⟩ := x; exact ⟨_, e⟩
  | ins C dx fs => obtain ⟨_, _, _, e, _⟩ := x; exact ⟨_, e⟩
  | own y => exact x
  | xd fs => obtain ⟨mA, hn, _⟩ := x; obtain ⟨ob, es, ep, e, _⟩ := hn; exact ⟨_, e⟩
  | rng lo hi => obtain ⟨_, _, _, e⟩ := x; exact ⟨_, e⟩
  | frz ob u => exact ⟨_, x.1⟩
  | tbl ps => exact ⟨_, x⟩
  | met f y => exact ⟨_, x⟩
  | ext φ => exact x.2.1
structure Fly (P : Program) (w : World) (outer : List Env) (H : Hp) (s : Shared) (x : Addr) (cls : Value) (H' : Hp) (s' : Shared) : Prop where
  os : s'.os = s.os
  bare : AllBare s'.gens
  un : Un (frs outer) [] H H' s.heap s'.heap
  hok : HOk P w H' s'.heap
  new : H' x = none
  fly : ∃ B a0, Heap.FlyingW B outer x cls a0 s'.heap ∧ (∀ b o, s'.heap.get? b = some o → H' b ≠ none → B.get? b = some o) ∧
    ∀ b o o', s.heap.get? b = some o → b ∉ frs outer → s'.heap.get? b = some o' → B.get? b = some o'
noncomputable def CXE (P : Program) (w : World) : CXT := fun outer H s E e s' => ∃ x cls H', e = .ref x ∧ E cls none H' ∧ Fly P w outer H s x cls H' s'
section
variable {P : Program} {w : World} {K : PySem.W.Frag} {mg : Str → Option Value} {base : Heap} {N : List Str} {qual : Str} {scope : Scope} {f : Addr} {cd : Value} {A : Around} {outer : List Env} {s₀ : Shared} {H₀ : Hp} {E : XK}
theorem frs_mem {l : List Env} {env : Env} {a : Addr} (h : env ∈ l) (e : env.frame = some a) : a ∈ frs l := List.mem_filterMap.mpr ⟨env, h, e⟩
theorem fly_made {pins : List (Addr × Obj)} {σ : St} {H : Hp} {s : Shared} {h1 : Heap} {tk : Nat} {e : Addr} {cls : Value} {args : List Value} (I : Inv (cxOf (CXE P w) P w K mg base N qual scope f cd A outer s₀ H₀ E) pins σ H s)
    (hx : Heap.MadeExcOf s.heap h1 e cls args) (hE : E cls none H) : (cxOf (CXE P w) P w K mg base N qual scope f cd A outer s₀ H₀ E).xe (.ref e) { s with heap := h1, toks := tk } := by
  have stk : (cxOf (CXE P w) P w K mg base N qual scope f cd A outer s₀ H₀ E).stack = envOfC qual scope s₀.heap.objs.size f cd :: outer := rfl
  have hL : ∀ b ∈ frs (envOfC qual scope s₀.heap.objs.size f cd :: outer), b ∈ frs outer ∨ b = s₀.heap.objs.size := fun b hb => by
    have := I.stkSub b hb
    rcases List.mem_cons.mp this with z | z
    · exact .inr z
    · exact .inl z
  have hfr : ∀ env ∈ (envOfC qual scope s₀.heap.objs.size f cd :: outer), ∀ a, env.frame = some a → a ∈ frs (envOfC qual scope s₀.heap.objs.size f cd :: outer) := fun env he a ha => frs_mem he ha
  have hff := PySem.W.funFrames_hide I.stack hfr
  have low : ∀ b o, s₀.heap.get? b = some o → b ∉ frs outer → b ∉ frs (envOfC qual scope s₀.heap.objs.size f cd :: outer) := fun b o hb hn hm => by
    rcases hL b hm with z | z
    · exact hn z
    · exact absurd (Heap.lt_size hb) (by rw [z]; exact Nat.lt_irrefl _)
  refine wpAny_leaves_madeW (base := PySem.W.hideAll s.heap (frs (envOfC qual scope s₀.heap.objs.size f cd :: outer))) (h := s.heap) I.ok.frames rfl (fun b o q => PySem.W.of_hideAll _ q) hff hx fun h' t x1 x2 x3 x4 => ?_
  have up : ∀ b ∈ frs (envOfC qual scope s₀.heap.objs.size f cd :: outer), ∀ o, s.heap.get? b = some o → ∃ sl, h'.get? b = some { o with slots := sl } := fun b hb o ho => by
    obtain ⟨_, o', ho', hd⟩ := hff.mem hb
    rw [ho] at ho'
    cases ho'
    exact x4 b o (hx.keeps b o ho) hd
  have stay : ∀ b o, b ∉ frs (envOfC qual scope s₀.heap.objs.size f cd :: outer) → s.heap.get? b = some o → h'.get? b = some o := fun b o hn ho => x1.1 b o (PySem.W.hideAll_get _ ho hn)
  have trk : ∀ b, H b ≠ none → b ∉ frs (envOfC qual scope s₀.heap.objs.size f cd :: outer) := fun b hb hm => hb (I.stkFree b hm)
  have U := I.base
  have hnew : H e = none := by
    cases hq : H e with
    | none => rfl
    | some u =>
      obtain ⟨ob, z⟩ := (I.hok e u hq).obj
      rw [hx.new] at z
      cases z
  refine ⟨e, cls, H, rfl, hE, I.os, I.bare, ⟨fun b o q n hb _ => stay b o (low b o q hb) (U.keep b o q n hb (by intro z; cases z)), fun b o q n hb _ => ?_, fun b o q n _ => U.free b o q n (by intro z; cases z), fun b o q _ => ?_, U.tups, U.frzs, U.tbls⟩, fun a o q => ?_, hnew, _, _, x1, fun b o q hb => ?_, fun b o o' q hb q' => ?_⟩
  · obtain ⟨sl, e1⟩ := U.slot b o q n hb (by intro z; cases z)
    obtain ⟨sl', e2⟩ := up b (by show b ∈ List.filterMap _ (_ :: _); exact List.mem_cons_of_mem _ hb) _ e1
    exact ⟨sl', e2⟩
  · obtain ⟨o1, e1⟩ := U.there b o q (by intro z; cases z)
    by_cases hb : b ∈ frs (envOfC qual scope s₀.heap.objs.size f cd :: outer)
    · obtain ⟨sl, e2⟩ := up b hb _ e1
      exact ⟨_, e2⟩
    · exact ⟨_, stay b _ hb e1⟩
  · refine (I.hok a o q).stay (fun b u hb z => stay b u (trk b ?_) z) (fun _ z => z) fun _ _ z => z
    rcases hb with rfl | hb
    · rw [q]; intro z; cases z
    · rw [hb]; intro z; cases z
  · obtain ⟨o1, e1⟩ : ∃ o1, s.heap.get? b = some o1 := by
      cases hq : H b with
      | none => exact absurd hq hb
      | some u => exact (I.hok b u hq).obj
    have := stay b o1 (trk b hb) e1
    rw [q] at this
    cases this
    exact PySem.W.hideAll_get _ e1 (trk b hb)
  · obtain ⟨o1, e1⟩ := U.there b o q (by intro z; cases z)
    have hn := low b o q hb
    have := stay b o1 hn e1
    rw [q'] at this
    cases this
    exact PySem.W.hideAll_get _ e1 hn
theorem fly_on {E' : XK} (hEE : ∀ cls H, E' cls none H → E cls none H) : Passes (CXE P w) (cxOf (CXE P w) P w K mg base N qual scope f cd A outer s₀ H₀ E) E' := by
  intro pins σ H s e s' I h
  obtain ⟨x, cls, H', rfl, hE, F⟩ := h
  obtain ⟨B, a0, fl, f1, f2⟩ := F.fly
  have hL : ∀ b ∈ frs (envOfC qual scope s₀.heap.objs.size f cd :: outer), b ∈ frs outer ∨ b = s₀.heap.objs.size := fun b hb => by
    rcases List.mem_cons.mp (I.stkSub b hb) with z | z
    · exact .inr z
    · exact .inl z
  have low : ∀ b o, s₀.heap.get? b = some o → b ∉ frs outer → b ∉ frs (envOfC qual scope s₀.heap.objs.size f cd :: outer) := fun b o hb hn hm => by
    rcases hL b hm with z | z
    · exact hn z
    · exact absurd (Heap.lt_size hb) (by rw [z]; exact Nat.lt_irrefl _)
  have U := I.base
  have no : ∀ b : Addr, b ∉ ([] : List Addr) := fun b z => by cases z
  refine wpAny_leaves_onW I.ok.frames rfl fl fun h' x1 x2 => ?_
  have two : ∀ b o, s₀.heap.get? b = some o → ∃ o1 o2, s.heap.get? b = some o1 ∧ s'.heap.get? b = some o2 := fun b o q => by
    obtain ⟨o1, e1⟩ := U.there b o q (no b)
    obtain ⟨o2, e2⟩ := F.un.there b o1 e1 (no b)
    exact ⟨o1, o2, e1, e2⟩
  have stay : ∀ b o o2, s₀.heap.get? b = some o → b ∉ frs outer → s'.heap.get? b = some o2 → B.get? b = some o2 := fun b o o2 q hb q2 => by
    obtain ⟨o1, o2', e1, e2⟩ := two b o q
    exact f2 b o1 o2 e1 (low b o q hb) q2
  have hff := fl.2.2.1
  refine ⟨x, cls, H', rfl, hEE _ _ hE, F.os.trans I.os, F.bare, ⟨fun b o q n hb _ => ?_, fun b o q n hb _ => ?_, fun b o q n _ => ?_, fun b o q _ => ?_, fun b xs q => F.un.tups b xs (U.tups b xs q), fun b o u q => F.un.frzs b o u (U.frzs b o u q), fun b ps q => ?_⟩, fun a o q => ?_, F.new, B, a0, x1, fun b o q hb => ?_, fun b o o' q hb q' => ?_⟩
  · have e1 := U.keep b o q n hb (no b)
    have e2 := F.un.keep b o e1 (U.free b o q n (no b)) (low b o q hb) (no b)
    exact x1.1 b o (stay b o o q hb e2)
  · obtain ⟨sl, e1⟩ := U.slot b o q n hb (no b)
    have hb' : b ∈ frs (envOfC qual scope s₀.heap.objs.size f cd :: outer) := by show b ∈ List.filterMap _ (_ :: _); exact List.mem_cons_of_mem _ hb
    obtain ⟨sl2, e2⟩ := F.un.slot b _ e1 (U.free b o q n (no b)) hb' (no b)
    obtain ⟨_, o', ho', hd⟩ := hff.mem hb'
    rw [e2] at ho'
    cases ho'
    obtain ⟨sl3, e3⟩ := x2 b _ e2 hd
    exact ⟨sl3, e3⟩
  · obtain ⟨o1, e1⟩ := U.there b o q (no b)
    exact F.un.free b o1 e1 (U.free b o q n (no b)) (no b)
  · obtain ⟨o1, o2, e1, e2⟩ := two b o q
    by_cases hb : b ∈ frs outer
    · have hb' : b ∈ frs (envOfC qual scope s₀.heap.objs.size f cd :: outer) := by show b ∈ List.filterMap _ (_ :: _); exact List.mem_cons_of_mem _ hb
      obtain ⟨_, o', ho', hd⟩ := hff.mem hb'
      obtain ⟨sl3, e3⟩ := x2 b _ ho' hd
      exact ⟨_, e3⟩
    · exact ⟨_, x1.1 b o2 (stay b o o2 q hb e2)⟩
  · obtain ⟨m1, e1⟩ := U.tbls b ps q
    obtain ⟨m2, e2⟩ := F.un.tbls b _ e1
    exact ⟨m1 ++ m2, by rw [e2, Array.append_assoc]⟩
  · refine (F.hok a o q).stay (fun b u hb z => x1.1 b u (f1 b u z ?_)) (fun _ z => z) fun _ _ z => z
    rcases hb with rfl | hb
    · rw [q]; intro z; cases z
    · rw [hb]; intro z; cases z
  · obtain ⟨o1, e1⟩ : ∃ o1, s'.heap.get? b = some o1 := by
      cases hq : H' b with
      | none => exact absurd hq hb
      | some u => exact (F.hok b u hq).obj
    have e2 := f1 b o1 e1 hb
    have := x1.1 b o1 e2
    rw [q] at this
    cases this
    exact e2
  · obtain ⟨o1, o2, e1, e2⟩ := two b o q
    have e3 := stay b o o2 q hb e2
    have := x1.1 b o2 e3
    rw [q'] at this
    cases this
    exact e3
end
end L2
set_option Elab.async false
set_option linter.all false
set_option maxRecDepth 100000
set_option maxHeartbeats 4000000
namespace L2
open PySem PySem.Spec PyProof.Rows
section
variable {prog : Program} {w : World} {A : Around} {E : Value → Shared → Prop} {K : PySem.W.Frag} {x D : Addr} {ox : Obj} {s : Shared}
structure InstC (h : Heap) (x : Addr) (ox : Obj) (D : Addr) : Prop where
  at_ : h.get? x = some ox
  cls : ox.cls = .ref D
theorem InstC.type {M : Model} {h : Heap} {y C : Addr} {oy : Obj} (I : InstC h y oy C) : PySem.W.Looks M h (typeOf (.ref y)) (.ref C) := by
  have z : PySem.W.Looks M h (typeOf (.ref y)) oy.cls := (PySem.W.Looks.ld I.at_).andThen .now
  rwa [I.cls] at z
theorem xc_find {M : Model} {h : Heap} (X : K.In h) (ha : PySem.W.findIn K (.ref D) "__class__" = some (some (.builtin "object.__class__"))) (hg : PySem.W.specialIn K (.builtin "object.__class__") "__get__" = some (some (.builtin "getset_descriptor.__get__")))
    (ht : PySem.W.takesIn K (.builtin "object.__class__") = some true) : PySem.W.Looks M h (Builtin.ObjectAttr.find (.ref x) (.ref D) "__class__") (.bind (.builtin "getset_descriptor.__get__") (.builtin "object.__class__")) := by
  have L1 := PySem.W.looks_findIn (M := M) X ha
  have L2 : PySem.W.Looks M h (Builtin.ObjectAttr.getOf (some (.builtin "object.__class__"))) (some (.builtin "getset_descriptor.__get__")) := PySem.W.looks_specialIn X hg
  have L3 := PySem.W.looks_takesIn (M := M) X ht
  refine L1.andThen (L2.andThen ?_)
  refine PySem.W.Looks.andThen (a := some (.builtin "getset_descriptor.__get__", .builtin "object.__class__")) (L3.andThen ?_) (PySem.W.Looks.tag .now)
  rw [if_pos rfl]
  exact .now
theorem xc_get {tp : Value} {R : Result → Shared → Prop} (X : K.In s.heap) (I : InstC s.heap x ox D) (hm : PySem.W.mroIn K D (.type "object") = some true) (hq : R (.ok (.ret (.ref D))) s) :
    codeAny (model prog w) A (.call (.builtin "getset_descriptor.__get__") ⟨[.builtin "object.__class__", .ref x, tp], []⟩) R s := by
  obtain ⟨hh, g, d, t, os⟩ := s
  have T0 := I.type (M := model prog w)
  have T1 := PySem.W.looks_mroIn (M := model prog w) X hm
  refine codeAny_call_builtin PySem.W.KF.slot_gs.plain PySem.W.KF.entry_gs (PySem.W.KF.slot_gs.check _ _ _ _ _ _ _ _ PySem.W.KF.type_class (PySem.W.KF.args_gs _ _ _) ?_)
  unfold Builtin.«getset_descriptor.__get__» Builtin.Getset_descriptor.descrGet; rw [PySem.W.dga_obj]
  refine wpAny_bind (wpAny_pure ?_); unfold Builtin.Getset_descriptor.descrGetter Builtin.Getset_descriptor.descrCheckInstance Builtin.Getset_descriptor.descrNameAndClass isInstance
  simp only [PySem.W.KF.owner_class]; repeat lk
  refine ⟨Code.quiet_builtin _ (by decide +kernel), codeAny_builtin PySem.W.KF.entry_class ?_⟩
  unfold Builtin.«object.__class__» shownTypeOf; repeat lk
  exact hq
theorem xc_entry {tk : Tok} {Q : Fin → Shared → Prop} (X : K.In s.heap) (I : InstC s.heap x ox D) (ha : PySem.W.findIn K (.ref D) "__class__" = some (some (.builtin "object.__class__"))) (hg : PySem.W.specialIn K (.builtin "object.__class__") "__get__" = some (some (.builtin "getset_descriptor.__get__")))
    (ht : PySem.W.takesIn K (.builtin "object.__class__") = some true) (hm : PySem.W.mroIn K D (.type "object") = some true)
    (hq : Q (.done (.ret (.ref D))) s) : wpAny (model prog w) A (Builtin.«object.__getattribute__» ⟨[.ref x, .str "__class__" tk], []⟩) Q E s := by
  obtain ⟨hh, g, d, t, os⟩ := s
  have L0 := I.type (M := model prog w)
  have L1 := xc_find (M := model prog w) (x := x) X ha hg ht
  unfold Builtin.«object.__getattribute__»
  refine wpAny_bind (wpAny_pure (wpAny_bind (wpAny_pure (wpAny_bind (L0.at (wpAny_bind (L1.at ?_)))))))
  show wpAny _ _ (holding [Value.builtin "object.__class__"] (call (Value.builtin "getset_descriptor.__get__") [.builtin "object.__class__", .ref x, .ref D]) >>= ret) _ _ _
  exact wpAny_bind (wpAny_holding (wpAny_call (xc_get (s := ⟨hh, g, d, t, os⟩) X I hm (wpAny_pure hq))))
theorem xc_check {nameV : Value} {M : Model} {Q : Unit → Shared → Prop} (X : K.In s.heap) (I : InstC s.heap x ox D) (hs : PySem.W.subIn K (.ref D) (.type "BaseException") = some true) (hq : Q () s) :
    wpAny M A (checkBuiltinCall "BaseException.__getattribute__" ⟨[.ref x, nameV], []⟩) Q E s := by
  have k1 : builtinKind "BaseException.__getattribute__" = some .slot := by decide +kernel
  have k2 : splitId "BaseException.__getattribute__" = some ("BaseException", "__getattribute__") := by decide +kernel
  have k3 := PySem.F.args_bexc_ga (.ref x) nameV
  have LI : PySem.W.Looks M s.heap (isInstance (.ref x) (.type "BaseException")) true := (I.type (M := M)).andThen (PySem.W.looks_subIn X hs)
  obtain ⟨hh, g, d, t, os⟩ := s
  simp only [checkBuiltinCall, k1, k2]
  refine wpAny_bind (LI.at ?_)
  repeat (any_goals (first | assumption | wp_step))
structure ExcK (K : PySem.W.Frag) (D : Addr) : Prop where
  lk : ∃ c d cd sl, K.lookup D = some ⟨c, d, .cls cd, sl⟩
  ga : PySem.W.findIn K (.ref D) "__getattribute__" = some (some (.builtin "BaseException.__getattribute__"))
  gt : PySem.W.findIn K (.ref D) "__getattr__" = some none
  sb : PySem.W.subIn K (.ref D) (.type "BaseException") = some true
  cf : PySem.W.findIn K (.ref D) "__class__" = some (some (.builtin "object.__class__"))
  cg : PySem.W.specialIn K (.builtin "object.__class__") "__get__" = some (some (.builtin "getset_descriptor.__get__"))
  ct : PySem.W.takesIn K (.builtin "object.__class__") = some true
  mo : PySem.W.mroIn K D (.type "object") = some true
theorem xc_attr {Q : Option Value → Shared → Prop} (X : K.In s.heap) (I : InstC s.heap x ox D) (F : ExcK K D)
    (h : Q (some (.ref D)) { s with toks := s.toks + 1 }) : wpAny (model prog w) A (getAttr? (.ref x) "__class__") Q E s := by
  obtain ⟨hh, g, d, t, os⟩ := s
  have L0 := I.type (M := model prog w)
  have L1 := PySem.W.looks_findIn (M := model prog w) X F.ga
  have L2 := PySem.W.looks_findIn (M := model prog w) X F.gt
  unfold getAttr? getAttrBy? getAttrBy
  refine wpAny_bind (wpAny_mkText (wpAny_bind (wpAny_attempt (wpAny_holding (wpAny_bind (L0.at (wpAny_bind (L1.at ?_))))))))
  repeat (any_goals (first | assumption | wp_step | lk))
  refine codeAny_call_builtin (PySem.F.excAttr_ValueError).ga.plain PySem.F.entry_bexc_ga (xc_check (s := ⟨hh, g, d, t + 1, os⟩) X I F.sb (xc_entry (s := ⟨hh, g, d, t + 1, os⟩) X I F.cf F.cg F.ct F.mo ?_))
  repeat (any_goals (first | assumption | wp_step | lk))
theorem kitx_exc (F : ExcK K D) : PySem.W.KitX K (.ref x) (.ref D) (fun h => InstC h x ox D) where
  ty := fun _ _ _ I => I.type
  it := fun M h X _ => by
    obtain ⟨c, d, cd, sl, ho⟩ := F.lk
    intro A' Q' E' s' k q
    unfold isType loadHead
    exact wpAny_bind (wpAny_loadPart (k _ _ (X _ _ ho)) (wpAny_pure q))
  ne := fun h tp dd its n sl X htp => by
    obtain ⟨c, d, cd, sl', ho⟩ := F.lk
    rw [Bool.eq_false_iff]
    intro q
    cases (show D = tp from Value.ref.inj (eq_of_beq q))
    have z := X _ _ ho
    rw [htp] at z
    cases z
  ca := fun X I k => xc_attr X I F k
end
noncomputable abbrev inH (X : Cx) (x : Addr) (oe : Obj) : Cx := { X with A := X.A.mark (some (.ref x)), calm := false, pn := (x, oe) :: X.pn, xe := fun _ _ => False }
noncomputable abbrev inM (X : Cx) (x : Addr) : Cx := { X with A := X.A.mark (some (.ref x)), calm := false, xe := fun _ _ => False }
section
variable {X : Cx} {pins : List (Addr × Obj)} {σ : St} {H : Hp} {s : Shared} {x : Addr} {oe : Obj}
theorem Cx.Ok.marked (ok : X.Ok) (x : Addr) : (inM X x).Ok :=
  ⟨ok.mod, ok.kind, ok.glob, ok.blt, ok.above, ok.inj, ok.has, ok.cab, (fun z => Bool.noConfusion z), ok.frames, ok.stk, ok.exf, ok.bs, ok.bsz, ok.noex, ok.exfs, ok.funs, ok.frf⟩
theorem Inv.marked (I : Inv X pins σ H s) (x : Addr) : Inv (inM X x) pins σ H s := ⟨I.ok.marked x, I.os, I.bare, I.base, I.loc, I.cell, I.free, I.freeC, I.pin, I.hok, I.len⟩
theorem Inv.pinH (I : Inv X pins σ H s) (h1 : s.heap.get? x = some oe) (h2 : H x = none) (h3 : x ≠ X.env.locals) (h4 : x ∉ X.fs) (h5 : ∀ v, oe.data ≠ .cell v) : Inv (inH X x oe) pins σ H s :=
  ⟨⟨I.ok.mod, I.ok.kind, I.ok.glob, I.ok.blt, I.ok.above, I.ok.inj, I.ok.has, I.ok.cab, (fun z => Bool.noConfusion z), I.ok.frames, I.ok.stk, I.ok.exf, I.ok.bs, I.ok.bsz, I.ok.noex, I.ok.exfs, I.ok.funs, I.ok.frf⟩, I.os, I.bare, I.base, I.loc, I.cell, I.free, I.freeC,
    fun p hp => by
      rcases List.mem_cons.mp hp with rfl | hp
      · exact ⟨h1, h2, h3, h4, h5⟩
      · exact I.pin p hp, I.hok, I.len⟩
theorem Inv.unpinH (ok : X.Ok) (I : Inv (inH X x oe) pins σ H s) : Inv X pins σ H s := ⟨ok, I.os, I.bare, I.base, I.loc, I.cell, I.free, I.freeC, fun p hp => I.pin p (List.mem_cons_of_mem _ hp), I.hok, I.len⟩
noncomputable def rIsiX (K : PySem.W.Frag) (x D : Addr) : List V → Hp → VK → Prop := fun xs H Q => ∃ b : Bool, ((∃ C, xs = [.ref x, .ref C] ∧ PySem.W.kitOne K (.ref D) (.ref C) = some b) ∨ (∃ T, xs = [.ref x, .ty T] ∧ PySem.W.kitOne K (.ref D) (.type T) = some b) ∨
  ∃ (p : Addr) (Cs : List Addr), xs = [.ref x, .ref p] ∧ H p = some (.tup (Cs.map V.ref)) ∧ PySem.W.kitAny K (.ref D) (Cs.map Value.ref) = some b) ∧ Q (.bl b) H
theorem vals_refs : ∀ {Cs : List Addr} {us : List Value}, Vals (Cs.map V.ref) us → us = Cs.map Value.ref
  | [], _, r => by cases r; rfl
  | _ :: _, _, r => by
    cases r with
    | cons r t => cases r; rw [vals_refs t]; rfl
theorem call_isiX {D : Addr} (F : ExcK X.K D) (hc : oe.cls = .ref D) : CallR (inH X x oe) (.builtin "isinstance") (rIsiX X.K x D) := by
  intro pins s σ H xs us Q I r h
  obtain ⟨b, h, q⟩ := h
  have p := (I.pin (x, oe) (List.mem_append_left _ List.mem_cons_self)).1
  have J : InstC s.heap x oe D := ⟨p, hc⟩
  rcases h with ⟨C, rfl, hk⟩ | ⟨T, rfl, hk⟩ | ⟨tp, Cs, rfl, ht, hk⟩
  · obtain ⟨u, w', rfl, r1, r2⟩ := vals2 r
    cases (show u = Value.ref x from r1)
    cases (show w' = Value.ref C from r2)
    exact PySem.W.kia_one (kitx_exc F) I.kIn J hk (fun z => nomatch z) fun tk => ⟨.bl b, H, I.tok tk, rfl, q⟩
  · obtain ⟨u, w', rfl, r1, r2⟩ := vals2 r
    cases (show u = Value.ref x from r1)
    cases (show w' = Value.type T from r2)
    exact PySem.W.kia_one (kitx_exc F) I.kIn J hk (fun z => nomatch z) fun tk => ⟨.bl b, H, I.tok tk, rfl, q⟩
  · obtain ⟨u, w', rfl, r1, r2⟩ := vals2 r
    cases (show u = Value.ref x from r1)
    cases (show w' = Value.ref tp from r2)
    obtain ⟨its, rv, ⟨⟨cls, dd, data, sl⟩, ho, hcl, n, hdt⟩, _⟩ := I.tuple (SqT.of ht)
    simp only at hcl hdt
    subst hcl hdt
    rw [vals_refs rv] at ho
    exact PySem.W.kia_tup (kitx_exc F) I.kIn J ho hk (fun z => nomatch z) fun tk => ⟨.bl b, H, I.tok tk, rfl, q⟩
end
noncomputable def tRaise (cls : Value) (E : XK) (t : TA) : TS := fun _ σ H => t σ H fun vs H1 => vs.length ≤ sizeLine ∧ E cls none H1
theorem own_mk {K : PySem.W.Frag} {h : Heap} {mg : Str → Option Value} {x : Str} {C : Addr} {bm : List Value} {nid : String} (X : K.In h) (G : h.Ns mainGlobals mg) (e : PySem.W.nsIn K mainGlobals x = some (some (.ref C))) (q : PySem.W.excIn K C bm nid = true) : OwnCls x C bm nid mg h := by
  constructor
  · exact PySem.W.mg_of X G e
  · unfold PySem.W.excIn at q
    cases hl : K.lookup C with
    | none => rw [hl] at q; cases q
    | some o =>
      rw [hl] at q
      obtain ⟨cl, dd, data, sl⟩ := o
      split at q
      · rename_i hh
        cases hh
        split at q
        · rename_i _ cd _ _ C' bm' k0 k1 k2 k3 n k5 hm hs
          simp only [Bool.and_eq_true, beq_iff_eq, Bool.not_eq_true'] at q
          obtain ⟨⟨⟨⟨⟨rfl, rfl⟩, d0⟩, t0⟩, o0⟩, i0⟩ := q
          obtain ⟨nm, bs, mro, ns, qn, hd, sn, sub, ab, col, del⟩ := cd
          try dsimp only at hm d0 o0 i0
          subst hm d0
          obtain ⟨l⟩ := sl
          simp only at hs
          subst hs
          exact ⟨_, _, _, _, _, _, _, _, _, _, _, _, _, _, _, _, _, X _ _ hl, .of_isNs (PySem.W.isNs_of_in X o0), PySem.W.nsMap_none_of_in X o0 i0, PySem.W.tail_of_in X t0⟩
        · cases q
      · cases q
section
variable {P : Program} {w : World} {K : PySem.W.Frag} {mg : Str → Option Value} {base : Heap} {N : List Str} {qual : Str} {scope : Scope} {f : Addr} {cd : Value} {A : Around} {outer : List Env} {s₀ : Shared} {H₀ : Hp} {E : XK}
theorem ps_raise {x : Str} {C : Addr} {B nid iid : String} {bm : List Value} {np cpos pos : Pos} {e : Expr} {es : List Expr} {t : TA} (O : OwnCls x C bm nid mg base) (FB : ExcBaseFacts B nid iid bm)
    (ha : PA (cxOf (CXE P w) P w K mg base N qual scope f cd A outer s₀ H₀ E) (e :: es) t) (hg : Gl (cxOf (CXE P w) P w K mg base N qual scope f cd A outer s₀ H₀ E) x := by rfl) (hd : (x == ("__debug__" : Str)) = false := by decide)
    (he : starEach (e :: es) (cxOf (CXE P w) P w K mg base N qual scope f cd A outer s₀ H₀ E).env = (false, eval e (cxOf (CXE P w) P w K mg base N qual scope f cd A outer s₀ H₀ E).env) :: starEach es (cxOf (CXE P w) P w K mg base N qual scope f cd A outer s₀ H₀ E).env := by rfl)
    (hpl : (backTo cpos (starEach es (cxOf (CXE P w) P w K mg base N qual scope f cd A outer s₀ H₀ E).env)).any (·.1) = false := by rfl) :
    PS (cxOf (CXE P w) P w K mg base N qual scope f cd A outer s₀ H₀ E) (.Raise (some (.Call (.Name x np) (e :: es) [] cpos)) none pos) (tRaise (.ref C) E t) := by
  intro pins s σ H D I h
  obtain ⟨tl, Nn, nm, q, bs, hdct, sn, sub, ab, col, dd, k0, k1, k2, k3, k5, mN, hC, hN, hni, T⟩ := O.obj
  refine wpAny_Raise_call_subT (newId := nid) (k5 := k5) (k3 := k3) (k2 := k2) (k1 := k1) (k0 := k0) (dd := dd) (col := col) (ab := ab) (sub := sub) (sn := sn) (hdct := hdct) (bs := bs) (q := q) (nm := nm) (C := C) (N := Nn) (bm := tl) FB (mN := mN) (T.hasType FB.hasBase) (I.ok.hd rfl) (by rw [he]; show (false || (backTo cpos (starEach es _)).any (·.1)) = false; rw [hpl]; rfl) hni (ld_glob I hg O.bound ⟨rfl, ?_⟩ hd)
  rw [he]
  have ha' := ha cpos pins s σ H _ I h
  rw [he] at ha'
  exact Calls.evalArgs_plain (thn ha' fun us s1 ⟨vs, H1, I1, r, z, q⟩ => ⟨rfl, by rw [← r.length]; exact z, I1.bk _ _ hC, hN.keeps I1.bk, T.keeps I1.bk, fun h' e hx => fly_made (tk := s1.toks) I1 hx q⟩)
end
noncomputable def tFs (a : Str) (te : TE) : TE := fun σ H Q => te σ H fun v H1 => ∃ i : Int, v = .int i ∧ i.natAbs.log2 < 1920 ∧ (Str.empty ++ a ++ (toString i : Str)).length ≤ sizeLine ∧ ∀ z, Q (.str z) H1
theorem pe_fstr {X : Cx} {a : Str} {j : Nat} {e : Expr} {te : TE} {p1 p2 pos : Pos} (he : PE X e te) (hz : (Str.empty ++ a).length ≤ sizeLine := by decide +kernel) : PE X (.JoinedStr [.Constant (.str a) j p1, .FormattedValue e (-1) none p2] pos) (tFs a te) := by
  intro pins s σ H Q I h
  refine JoinedStr_many (joinParts_cons (thn ((pe_str : PE X (.Constant (.str a) j p1) (tC (.str a))) pins s σ H (fun v H1 => v = V.str a ∧ H1 = H) I ⟨rfl, rfl⟩) fun v s1 ⟨x, H1, I1, r1, q1, q2⟩ => ?_))
  subst q1 q2
  obtain ⟨t, rfl⟩ := r1
  refine ⟨hz, joinParts_cons (FormattedValue_plain (thn (he pins s1 σ H1 _ I1 h) fun v s2 ⟨y, H2, I2, r2, i, e2, hl, hz2, q⟩ => ?_))⟩
  subst e2
  obtain ⟨t2, rfl⟩ := r2
  refine formatField_int_small hl ⟨hz2, joinParts_nil ⟨.str _, H2, I2.tok _, ⟨_, rfl⟩, q _⟩ hz2⟩
theorem goes_ok {X : Cx} {pins : List (Addr × Obj)} {σ : St} {H : Hp} {s : Shared} {M : Model} {A : Around} {E : Value → Shared → Prop} {i : Nat} {x : Str} {pos : Pos} {Q : Unit → Shared → Prop} (I : Inv X pins σ H s) (hN : X.N.Nodup) (hi : X.N[i]? = some x) (hk : X.env.kindOf x = some .local)
    (h : ∀ s', Inv X pins (σ.set i none) H s' → Q () s') : wpAny M A (do bindName X.env x .none; unbindBehindTheSuite X.env x pos) Q E s := by
  obtain ⟨m, hn, hl⟩ := id I.loc
  have hiσ : i < σ.length := by rw [I.len]; exact (List.getElem?_eq_some_iff.mp hi).1
  have cne := I.cne
  refine wpAny_nameGoes_keeps hk hn (by rw [I.ok.kind]; rfl) fun h' v hn' hs => ?_
  obtain ⟨oL, _, _, hoL, _⟩ := id hn
  have low : ∀ {b : Addr} {o : Obj}, X.s₀.heap.get? b = some o → b ≠ X.env.locals := fun e => Nat.ne_of_lt (Nat.lt_of_lt_of_le (Heap.lt_size e) I.ok.above)
  refine h _ ⟨I.ok, I.os, I.bare, ⟨fun b o e n hb hx => (hs.2 b (low e)).trans (I.base.keep b o e n hb hx), fun b o e n hb hx => ?_, I.base.free, fun b o e hx => ?_, I.base.tups, I.base.frzs, I.base.tbls⟩, ⟨_, hn', fun j y v' e1 e2 e3 => ?_⟩, fun y c e => ?_, I.free, I.freeC, fun p hp => ?_, fun b ob e => ?_, by simpa using I.len⟩
  · obtain ⟨sl, e1⟩ := I.base.slot b o e n hb hx
    exact ⟨sl, (hs.2 b (low e)).trans e1⟩
  · obtain ⟨o', e1⟩ := I.base.there b o e hx
    exact ⟨o', (hs.2 b (low e)).trans e1⟩
  · by_cases hj : j = i
    · subst hj
      rw [List.getElem?_set_self hiσ] at e2
      cases e2
    · rw [List.getElem?_set_ne (Ne.symm hj)] at e2
      obtain ⟨u', r', q⟩ := hl j y v' e1 e2 e3
      refine ⟨u', r', ?_⟩
      rcases q with ⟨k, e⟩ | ⟨k, c, e, z⟩
      · refine .inl ⟨k, ?_⟩
        have : y ≠ x := fun e => hj (nodup_ix hN e1 (e ▸ hi))
        simp [this, e]
      · exact .inr ⟨k, c, e, z.sameBut hs (cne y c e)⟩
  · obtain ⟨w', z⟩ := I.cell y c e
    exact ⟨w', z.sameBut hs (cne y c e)⟩
  · obtain ⟨e, n, ne, nf, d⟩ := I.pin p hp
    exact ⟨(hs.2 p.1 ne).trans e, n, ne, nf, d⟩
  · refine (I.hok b ob e).stay (fun c w' hc q => (hs.2 c ?_).trans q) (fun _ q => q) fun _ _ q => q
    rintro rfl
    rcases hc with rfl | hc
    · rw [I.free] at e; cases e
    · rw [I.free] at hc; cases hc
section
noncomputable def PB (Y : Cx) (st : Stmt) (t : Ends → (St → XK) → St → Hp → Prop) : Prop :=
  ∀ (pins : List (Addr × Obj)) (s : Shared) (σ : St) (H : Hp) (D : Ends) (E : St → XK), Inv Y.nox pins σ H s → t D E σ H →
    wpAny (model Y.prog Y.w) Y.A (exec st Y.env) (SP Y.nox pins D) (fun e s' => ∃ σ1 H1 s1, Inv Y.nox pins σ1 H1 s1 ∧ CXE Y.prog Y.w Y.stack H1 s1 (E σ1) e s') s
noncomputable def PBs (Y : Cx) (st : List Stmt) (t : Ends → (St → XK) → St → Hp → Prop) : Prop :=
  ∀ (pins : List (Addr × Obj)) (s : Shared) (σ : St) (H : Hp) (D : Ends) (E : St → XK), Inv Y.nox pins σ H s → t D E σ H →
    wpAny (model Y.prog Y.w) Y.A (execs st Y.env) (SP Y.nox pins D) (fun e s' => ∃ σ1 H1 s1, Inv Y.nox pins σ1 H1 s1 ∧ CXE Y.prog Y.w Y.stack H1 s1 (E σ1) e s') s
noncomputable def bNext : Ends → (St → XK) → St → Hp → Prop := fun D _ σ H => D.nx σ H
theorem pbs_nil {Y : Cx} : PBs Y [] bNext := fun _ _ σ H _ _ I h => wpAny_execs_nil ⟨σ, H, I, h⟩
noncomputable def bSeq (t u : Ends → (St → XK) → St → Hp → Prop) : Ends → (St → XK) → St → Hp → Prop := fun D E σ H => t ⟨u D E, D.rt, D.bk, D.ct⟩ E σ H
theorem pbs_cons {Y : Cx} {st : Stmt} {rest : List Stmt} {t u : Ends → (St → XK) → St → Hp → Prop} (h1 : PB Y st t) (h2 : PBs Y rest u) : PBs Y (st :: rest) (bSeq t u) := by
  intro pins s σ H D E I h
  refine wpAny_execs_cons (thn (h1 pins s σ H ⟨u D E, D.rt, D.bk, D.ct⟩ E I h) fun f s1 q => ?_)
  cases f with
  | next =>
    obtain ⟨σ', H', I', q⟩ := q
    exact h2 pins s1 σ' H' D E I' q
  | brk => exact q
  | cont => exact q
  | ret v => exact q
noncomputable def bIf (c : TT) (t u : Ends → (St → XK) → St → Hp → Prop) : Ends → (St → XK) → St → Hp → Prop := fun D E σ H => c σ H fun b H1 => if b = true then t D E σ H1 else u D E σ H1
theorem pb_if {Y : Cx} {c : Expr} {a b : List Stmt} {tc : TT} {t u : Ends → (St → XK) → St → Hp → Prop} {pos : Pos} (hc : PT Y.nox c tc) (ha : PBs Y a t) (hb : PBs Y b u) : PB Y (.If c a b pos) (bIf tc t u) := by
  intro pins s σ H D E I h
  refine wpAny_If (wpAny_mono (hc pins s σ H _ I h) (fun k s1 ⟨H1, I1, q⟩ => ?_) fun _ _ z => z.elim)
  cases k with
  | true => exact ha pins s1 σ H1 D E I1 (by simpa using q)
  | false => exact hb pins s1 σ H1 D E I1 (by simpa using q)
noncomputable def bCall (sp : Sp) (t : TA) : Ends → (St → XK) → St → Hp → Prop := fun D E σ H => t σ H fun vs H1 => sp vs H1 (fun _ H2 => D.nx σ H2) (E σ)
end
structure CalX (P : Program) (w : World) (K : PySem.W.Frag) (mg : Str → Option Value) (base : Heap) (x : Str) (k : Nat) (ps : List Str) (sp : Sp) : Prop where
  ex : ∃ (f : Addr) (fd : FuncData), mg x = some (.ref f) ∧ PySem.W.keepIn K (.ref f) = true ∧ Binds K fd ps [] ∧ FnOk P w K mg base (CXE P w) k f fd ps sp
theorem pb_call {Y : Cx} {x : Str} {k j : Nat} {ps : List Str} {sp : Sp} {e : Expr} {es : List Expr} {t : TA} {p pos pos2 : Pos} (C : CalX Y.prog Y.w Y.K Y.mg Y.base x j ps sp) (hr : Room k Y.A) (ha : PA Y.nox (e :: es) t) (hjk : j ≤ k := by decide) (hg : Gl Y x := by rfl) (hdb : (x == ("__debug__" : Str)) = false := by decide)
    (he : starEach (e :: es) Y.env = (false, eval e Y.env) :: starEach es Y.env := by rfl) (hpl : (backTo pos (starEach es Y.env)).any (·.1) = false := by rfl) (hs : swapsWith (.Call (.Name x p) (e :: es) [] pos) none pos2.line Y.env = pure false := by rfl) :
    PB Y (.Expr (.Call (.Name x p) (e :: es) [] pos) pos2) (bCall sp t) := by
  intro pins s σ H D E I h
  obtain ⟨f, fd, hm, hk, hb, F⟩ := C.ex
  refine wpAny_Expr_any (wpAny_Call_Name_kw (ld_glob (X := Y.nox) I hg hm ?_ hdb)) I.quiet hs
  refine PySem.W.callWith_K (h₀ := Y.base) I.ok.mod.kin hk (wpAny_mono (ha pos pins s σ H _ I h) (fun us s1 ⟨vs, H1, I1, r, q⟩ => ⟨I1.kIn, ?_⟩) fun _ _ z => z.elim) he hpl
  have hl : us.length = ps.length := by rw [← r.length]; exact F.len _ _ _ _ q
  have hb' := hb s1 us I1.kIn (by rw [List.append_nil]; exact hl)
  rw [List.append_nil] at hb'
  refine wpAny_call (codeAny_mono (F.run Y.A Y.stack s1 H1 ⟨us, []⟩ us vs _ (E σ) (hr.mono hjk) I1.env0 hb' r q) fun r s' hq => ?_)
  cases r with
  | error e => exact ⟨σ, H1, s1, I1, hq⟩
  | ok fl =>
    cases fl with
    | ret u =>
      obtain ⟨v, H2, I2, _, q2⟩ := I1.after hq
      exact ⟨σ, H2, I2, q2⟩
    | next => exact False.elim hq
    | brk => exact False.elim hq
    | cont => exact False.elim hq
theorem Fly.lands {P : Program} {w : World} {l : List Env} {H : Hp} {s : Shared} {x : Addr} {cls a0 : Value} {H' : Hp} {s' : Shared} {B h5 : Heap} (F : Fly P w l H s x cls H' s') (fl : Heap.FlyingW B l x cls a0 s'.heap) (f1 : ∀ b o, s'.heap.get? b = some o → H' b ≠ none → B.get? b = some o)
    (f2 : ∀ b o o', s.heap.get? b = some o → b ∉ frs l → s'.heap.get? b = some o' → B.get? b = some o') (fl5 : Heap.FlyingW B l x cls a0 h5) (sm : s'.heap.UpToSlots h5) : Un (frs l) [] H H' s.heap h5 ∧ HOk P w H' h5 := by
  have no : ∀ b : Addr, b ∉ ([] : List Addr) := fun b z => by cases z
  have hff := fl.2.2.1
  have up : ∀ b ∈ frs l, ∀ o, s'.heap.get? b = some o → ∃ sl, h5.get? b = some { o with slots := sl } := fun b hb o ho => by
    obtain ⟨_, o', ho', hd⟩ := hff.mem hb
    rw [ho] at ho'
    cases ho'
    exact sm b o ho hd
  refine ⟨⟨fun b o q n hb _ => fl5.1 b o (f2 b o o q hb (F.un.keep b o q n hb (no b))), fun b o q n hb _ => ?_, F.un.free, fun b o q _ => ?_, F.un.tups, F.un.frzs, F.un.tbls⟩, fun a o q => ?_⟩
  · obtain ⟨sl, e1⟩ := F.un.slot b o q n hb (no b)
    obtain ⟨sl', e2⟩ := up b hb _ e1
    exact ⟨sl', e2⟩
  · obtain ⟨o2, e2⟩ := F.un.there b o q (no b)
    by_cases hb : b ∈ frs l
    · obtain ⟨sl, e3⟩ := up b hb _ e2
      exact ⟨_, e3⟩
    · exact ⟨_, fl5.1 b o2 (f2 b o o2 q hb e2)⟩
  · refine (F.hok a o q).stay (fun b u hb z => fl5.1 b u (f1 b u z ?_)) (fun _ z => z) fun _ _ z => z
    rcases hb with rfl | hb
    · rw [q]; intro z; cases z
    · rw [hb]; intro z; cases z
noncomputable def tTry (K : PySem.W.Frag) (C : Addr) (i : Nat) (tb : Ends → (St → XK) → St → Hp → Prop) (ts : Addr → Addr → TS) : TS := fun D σ H =>
  tb D (fun σ1 cls _ H1 => ∃ Dx, cls = .ref Dx ∧ PySem.W.exmOne K (.ref Dx) (.ref C) = some true ∧ ExcK K Dx ∧ ∀ x, H1 x = none →
    ts x Dx ⟨fun σ' H' => D.nx (σ'.set i none) H', D.rt, fun σ' H' => D.bk (σ'.set i none) H', fun σ' H' => D.ct (σ'.set i none) H'⟩ (σ1.set i (some (.ref x))) H1) σ H
theorem ps_try {Y : Cx} {i : Nat} {c n : Str} {C : Addr} {body : List Stmt} {b0 : Stmt} {suite : List Stmt} {np hpos pos : Pos} {tb : Ends → (St → XK) → St → Hp → Prop} {ts : Addr → Addr → TS}
    (hstk : Y.stack = Y.env :: Y.outer) (hfrm : Y.env.frame = some Y.env.locals) (hN : Y.N.Nodup) (hi : Y.N[i]? = some n) (hk : Y.env.kindOf n = some .local) (hx : Y.env.scope.names.lookup n = some .local) (hm : Y.mg c = some (.ref C)) (hg : Gl Y c) (hd : (c == ("__debug__" : Str)) = false)
    (hb : PBs Y body tb) (hs : ∀ (x : Addr) (oe : Obj) (Dx : Addr), ExcK Y.K Dx → oe.cls = .ref Dx → PSs (inH Y x oe) (b0 :: suite) (ts x Dx)) :
    PS Y.nox (.Try body [.ExceptHandler (some (.Name c np)) (some n) (b0 :: suite) hpos] [] [] pos) (tTry Y.K C i tb ts) := by
  intro pins s σ H D I h
  refine wpAny_Try_except (wpAny_mono (hb pins s σ H _ _ I h) (fun f s1 q => ?_) fun e s1 q => ?_)
  · cases f with
    | next => exact wpAny_execs_nil q
    | brk => exact q
    | cont => exact q
    | ret v => exact q
  obtain ⟨σ1, H1, s2, I1, x, cls, H', rfl, ⟨Dx, rfl, hex, hK, hts⟩, F⟩ := q
  obtain ⟨B, a0, fl, f1, f2⟩ := F.fly
  have ok : Y.nox.Ok := I1.ok
  have hfr : Y.A.frames = some (Y.env :: Y.outer) := by rw [← hstk]; exact ok.frames
  have fl' : Heap.FlyingW B (Y.env :: Y.outer) x (.ref Dx) a0 s1.heap := by rw [← hstk]; exact fl
  refine wpAny_looks_onW hfr hfrm fl' fun h4 hd4 sm4 => wpAny_landsW hd4 fun h5 fl5 sm5 => ?_
  have sm45 : s1.heap.UpToSlots h5 := sm4.trans sm5
  have lnd : ∀ h6, Heap.FlyingW B (Y.env :: Y.outer) x (.ref Dx) a0 h6 → s1.heap.UpToSlots h6 → ∀ g tk dr, g = s1.gens → Inv Y.nox pins σ1 H' ⟨h6, g, dr, tk, s1.os⟩ := fun h6 fl6 sm6 g tk dr eg => by
    obtain ⟨un, hok⟩ := F.lands fl f1 f2 (by rw [hstk]; exact fl6) sm6
    exact I1.call' (s' := ⟨h6, g, dr, tk, s1.os⟩) F.os un hok (by rw [eg]; exact F.bare) (fun b z => by cases z)
  have I5 := lnd h5 fl5 sm45 s1.gens s1.toks s1.drawn rfl
  have ty5 : PySem.W.Looks (model Y.prog Y.w) h5 (typeOf (.ref x)) (.ref Dx) := by
    obtain ⟨ob, hob, hc⟩ := fl5.there
    exact InstC.type ⟨hob, hc⟩
  refine wpAny_handleBy_cons (codeAny_handlers_test ?_) (by intro q; cases q)
  refine ld_glob (X := inM Y.nox x) (I5.marked x) hg hm ?_ hd
  refine (PySem.W.exm_one (M := model Y.prog Y.w) I5.kIn ty5 hex).here ?_
  dsimp only
  rw [if_pos rfl]
  refine codeAny_handlers_suite_as (lands_againW fl5 fun h6 fl6 sm6 => ?_)
  have I6 := lnd h6 fl6 (sm45.trans sm6) s1.gens s1.toks s1.drawn rfl
  obtain ⟨oe, vs, he, hc, hdt, _⟩ := fl6.first
  have nfr : x ∉ frs (Y.env :: Y.outer) := fun hm' => by
    obtain ⟨_, o, ho, hnf⟩ := fl6.2.2.1.mem hm'
    rw [he] at ho
    cases ho
    exact hnf vs hdt
  have I7 := I6.pinH (x := x) he F.new (fun z => nfr (frs_mem (env := Y.env) List.mem_cons_self (by rw [hfrm, z]))) (fun z => nfr (by show x ∈ List.filterMap _ _; rw [List.filterMap_cons, hfrm]; exact List.mem_cons_of_mem _ z)) (fun v z => by rw [hdt] at z; cases z)
  refine store_ok (X := inH Y.nox x oe) (v := .ref x) I7 hN hi (.inl hx) rfl (fun s8 I8 => ?_) (.inr hx)
  refine wpAny_mono (hs x oe Dx hK hc pins s8 _ H' _ I8 (hts x F.new)) (fun f s9 q => ?_) fun _ _ z => z.elim
  cases f with
  | next =>
    obtain ⟨σ', H9, I9, q⟩ := q
    exact goes_ok (X := Y.nox) (Inv.unpinH ok I9) hN hi hk fun s10 I10 => ⟨_, H9, I10, q⟩
  | brk =>
    obtain ⟨σ', H9, I9, q⟩ := q
    exact goes_ok (X := Y.nox) (Inv.unpinH ok I9) hN hi hk fun s10 I10 => ⟨_, H9, I10, q⟩
  | cont =>
    obtain ⟨σ', H9, I9, q⟩ := q
    exact goes_ok (X := Y.nox) (Inv.unpinH ok I9) hN hi hk fun s10 I10 => ⟨_, H9, I10, q⟩
  | ret u =>
    obtain ⟨v, σ', H9, I9, rv, q⟩ := q
    exact goes_ok (X := Y.nox) (Inv.unpinH ok I9) hN hi hk fun s10 I10 => ⟨v, _, H9, I10, rv, q⟩
theorem Dfn.okX {P : Program} {w : World} {K : PySem.W.Frag} {mg : Str → Option Value} {base : Heap} {x : Str} {st : Stmt} {N ps : List Str} {k : Nat} {sp : Sp} (D : Dfn K mg x st ps) (S : FnScope N ps (defScope st)) (len : ∀ vs H Q E, sp vs H Q E → vs.length = ps.length)
    (hbody : ∀ (f : Addr) (cdv : Value) (A : Around) (outer : List Env) (s : Shared) (H : Hp) (vs : List V) (Q : VK) (E : XK), Room k (A.deeper (envOfC x (defScope st) s.heap.objs.size f cdv)) → sp vs H Q E →
      ∃ t, PSs (cxOf (CXE P w) P w K mg base N x (defScope st) f cdv A outer s H E) (defBody st) t ∧ t { nx := fun _ H' => Q .non H', rt := Q } (start N vs) H) : CalX P w K mg base x (k + 1) ps sp := by
  obtain ⟨f, fd, hm, F, hb⟩ := D.ex
  obtain ⟨oc, od, kV, doc, pm, an, cdv, ct, osl, rfl, lk, hcd⟩ := F.ex
  exact ⟨f, _, hm, F.kp, hb, fn_of lk hcd S len fun A outer s H vs Q E hr h => hbody f cdv A outer s H vs Q E hr h⟩
section
variable {P : Program} {w : World} {K : PySem.W.Frag} {mg : Str → Option Value} {base : Heap} {N : List Str} {qual : Str} {scope : Scope} {f : Addr} {cd : Value} {A : Around} {outer : List Env} {s₀ : Shared} {H₀ : Hp} {E : XK}
theorem pe_calX {x : Str} {k j : Nat} {ps : List Str} {sp : Sp} {e : Expr} {es : List Expr} {t : TA} {p pos : Pos} (C : CalX P w K mg base x j ps sp) (hr : Room k (cxOf (CXE P w) P w K mg base N qual scope f cd A outer s₀ H₀ E).A)
    (ha : PA (cxOf (CXE P w) P w K mg base N qual scope f cd A outer s₀ H₀ E) (e :: es) t) (hjk : j ≤ k := by decide) (hg : Gl (cxOf (CXE P w) P w K mg base N qual scope f cd A outer s₀ H₀ E) x := by rfl) (hdb : (x == ("__debug__" : Str)) = false := by decide)
    (he : starEach (e :: es) (cxOf (CXE P w) P w K mg base N qual scope f cd A outer s₀ H₀ E).env = (false, eval e (cxOf (CXE P w) P w K mg base N qual scope f cd A outer s₀ H₀ E).env) :: starEach es (cxOf (CXE P w) P w K mg base N qual scope f cd A outer s₀ H₀ E).env := by rfl)
    (hpl : (backTo pos (starEach es (cxOf (CXE P w) P w K mg base N qual scope f cd A outer s₀ H₀ E).env)).any (·.1) = false := by rfl) :
    PE (cxOf (CXE P w) P w K mg base N qual scope f cd A outer s₀ H₀ E) (.Call (.Name x p) (e :: es) [] pos) (tCall sp [] E t) := by
  obtain ⟨f', fd, hm, hk, hb, F⟩ := C.ex
  exact pe_call F (hr.mono hjk) hg hm hk hb .nil (fly_on fun _ _ h => h) ha hdb he hpl
end
noncomputable abbrev bmV : List Value := [.type "ValueError", .type "Exception", .type "BaseException", .type "object"]
noncomputable def cA (K : PySem.W.Frag) (x : Str) : Addr := match PySem.W.nsIn K mainGlobals x with
  | some (some (.ref C)) => C
  | _ => 0
noncomputable def excB (K : PySem.W.Frag) (x : Str) : Bool :=
  PySem.W.excIn K (cA K x) bmV "ValueError.__new__" && (match K.lookup (cA K x) with | some ⟨_, _, .cls _, _⟩ => true | _ => false) && PySem.W.findIn K (.ref (cA K x)) "__getattribute__" == some (some (.builtin "BaseException.__getattribute__")) &&
  PySem.W.findIn K (.ref (cA K x)) "__getattr__" == some none && PySem.W.subIn K (.ref (cA K x)) (.type "BaseException") == some true && PySem.W.findIn K (.ref (cA K x)) "__class__" == some (some (.builtin "object.__class__")) &&
  PySem.W.specialIn K (.builtin "object.__class__") "__get__" == some (some (.builtin "getset_descriptor.__get__")) && PySem.W.takesIn K (.builtin "object.__class__") == some true && PySem.W.mroIn K (cA K x) (.type "object") == some true
structure Xf (K : PySem.W.Frag) (mg : Str → Option Value) (base : Heap) (all raised : List Str) : Prop where
  cl : ∀ x ∈ all, mg x = some (.ref (cA K x))
  own : ∀ x ∈ raised, OwnCls x (cA K x) bmV "ValueError.__new__" mg base
  exk : ∀ x ∈ raised, ExcK K (cA K x)
  up : ∀ x ∈ raised, PySem.W.exmOne K (.ref (cA K x)) (.ref (cA K "StairError")) = some true
  kv : ∀ x ∈ raised, PySem.W.kitOne K (.ref (cA K x)) (.type "ValueError") = some true
  kc : ∀ x ∈ raised, ∀ y ∈ all, PySem.W.kitOne K (.ref (cA K x)) (.ref (cA K y)) = some (x == y || y == ("StairError" : Str))
noncomputable def xfB (K : PySem.W.Frag) (all raised : List Str) : Bool :=
  all.all (fun x => PySem.W.nsIn K mainGlobals x == some (some (.ref (cA K x)))) && raised.all (fun x => all.contains x && excB K x && PySem.W.exmOne K (.ref (cA K x)) (.ref (cA K "StairError")) == some true && PySem.W.kitOne K (.ref (cA K x)) (.type "ValueError") == some true &&
    all.all fun y => PySem.W.kitOne K (.ref (cA K x)) (.ref (cA K y)) == some (x == y || y == ("StairError" : Str)))
theorem xf_mk {K : PySem.W.Frag} {mg : Str → Option Value} {base : Heap} {all raised : List Str} (X : K.In base) (G : base.Ns mainGlobals mg) (h : xfB K all raised = true) : Xf K mg base all raised := by
  unfold xfB at h
  rw [Bool.and_eq_true, List.all_eq_true, List.all_eq_true] at h
  obtain ⟨h1, h2⟩ := h
  have n1 : ∀ x ∈ all, PySem.W.nsIn K mainGlobals x = some (some (.ref (cA K x))) := fun x hx => eq_of_beq (h1 x hx)
  have h3 : ∀ x ∈ raised, ((((x ∈ all ∧ excB K x = true) ∧ PySem.W.exmOne K (.ref (cA K x)) (.ref (cA K "StairError")) = some true) ∧ PySem.W.kitOne K (.ref (cA K x)) (.type "ValueError") = some true) ∧ ∀ y ∈ all, PySem.W.kitOne K (.ref (cA K x)) (.ref (cA K y)) = some (x == y || y == ("StairError" : Str))) := fun x hx => by
    have := h2 x hx
    simp only [Bool.and_eq_true, beq_iff_eq, List.contains_iff_mem, List.all_eq_true] at this
    exact this
  have e1 : ∀ x ∈ raised, PySem.W.excIn K (cA K x) bmV "ValueError.__new__" = true ∧ ExcK K (cA K x) := fun x hx => by
    have := (h3 x hx).1.1.1.2
    unfold excB at this
    simp only [Bool.and_eq_true, beq_iff_eq] at this
    obtain ⟨⟨⟨⟨⟨⟨⟨⟨a1, a2⟩, a3⟩, a4⟩, a5⟩, a6⟩, a7⟩, a8⟩, a9⟩ := this
    refine ⟨a1, ?_, a3, a4, a5, a6, a7, a8, a9⟩
    cases hl : K.lookup (cA K x) with
    | none => rw [hl] at a2; cases a2
    | some o =>
      rw [hl] at a2
      obtain ⟨c, d, data, sl⟩ := o
      cases data <;> first | exact ⟨_, _, _, _, rfl⟩ | cases a2
  exact ⟨fun x hx => PySem.W.mg_of X G (n1 x hx), fun x hx => own_mk X G (n1 x (h3 x hx).1.1.1.1) (e1 x hx).1, fun x hx => (e1 x hx).2, fun x hx => (h3 x hx).1.1.2, fun x hx => (h3 x hx).1.2, fun x hx => (h3 x hx).2⟩
section
variable {K : PySem.W.Frag} {D : Ends} {σ : St} {H : Hp} {Q : VK} {E : XK} {C x : Addr}
theorem rd_raise {t : TA} {cls : Value} (h : t σ H fun vs H1 => vs.length ≤ sizeLine ∧ E cls none H1) : tRaise cls E t D σ H := h
theorem rd_fs {a : Str} {te : TE} (h : te σ H fun v H1 => ∃ i : Int, v = .int i ∧ i.natAbs.log2 < 1920 ∧ (Str.empty ++ a ++ (toString i : Str)).length ≤ sizeLine ∧ ∀ z, Q (.str z) H1) : tFs a te σ H Q := h
theorem rd_isiC {C' : Addr} {b : Bool} (hk : PySem.W.kitOne K (.ref C) (.ref C') = some b) (h : Q (.bl b) H) : rIsiX K x C [.ref x, .ref C'] H Q := ⟨b, .inl ⟨C', rfl, hk⟩, h⟩
theorem rd_isiT {T : String} {b : Bool} (hk : PySem.W.kitOne K (.ref C) (.type T) = some b) (h : Q (.bl b) H) : rIsiX K x C [.ref x, .ty T] H Q := ⟨b, .inr (.inl ⟨T, rfl, hk⟩), h⟩
end
section
variable {K : PySem.W.Frag} {D : Ends} {σ : St} {H : Hp} {E : St → XK} {C : Addr} {i : Nat} {t u tb : Ends → (St → XK) → St → Hp → Prop} {ts : Addr → Addr → TS} {c : TT}
theorem rd_try (h : tb D (fun σ1 cls _ H1 => ∃ Dx, cls = .ref Dx ∧ PySem.W.exmOne K (.ref Dx) (.ref C) = some true ∧ ExcK K Dx ∧ ∀ x, H1 x = none →
    ts x Dx ⟨fun σ' H' => D.nx (σ'.set i none) H', D.rt, fun σ' H' => D.bk (σ'.set i none) H', fun σ' H' => D.ct (σ'.set i none) H'⟩ (σ1.set i (some (.ref x))) H1) σ H) : tTry K C i tb ts D σ H := h
theorem rd_bseq (h : t ⟨u D E, D.rt, D.bk, D.ct⟩ E σ H) : bSeq t u D E σ H := h
theorem rd_bnext (h : D.nx σ H) : bNext D E σ H := h
theorem rd_bif (h : c σ H fun b H1 => if b = true then t D E σ H1 else u D E σ H1) : bIf c t u D E σ H := h
theorem rd_bcall {sp : Sp} {a : TA} (h : a σ H fun vs H1 => sp vs H1 (fun _ H2 => D.nx σ H2) (E σ)) : bCall sp a D E σ H := h
end
end L2
set_option linter.all false
set_option maxRecDepth 100000
namespace Tb
open PySem
end Tb
set_option linter.all false
set_option maxRecDepth 100000
namespace Tb
open PySem
end Tb
set_option Elab.async false
set_option linter.all false
set_option maxRecDepth 100000
set_option maxHeartbeats 4000000
namespace L2
open PySem PySem.Spec PyProof.Rows
section
variable {P : Program} {w : World} {A : Around} {E : Value → Shared → Prop} {s : Shared} {K : Type} [DecidableEq K] {knd : KeyKind P w K}
end
section
variable {P : Program} {w : World} {A : Around} {E : Value → Shared → Prop} {s : Shared}
end
section
variable {P : Program} {w : World} {A : Around} {I : Addr} {fp wr : List Addr} {G : Array GenState → Array GenState → Prop} {n : Nat} {Pz : Nat → Value → Prop} {St : Nat → Shared → Prop}
end
end L2
set_option Elab.async false
set_option linter.all false
set_option maxRecDepth 100000
set_option maxHeartbeats 4000000
namespace L2
open PySem PySem.Spec PyProof.Rows
section
variable {P : Program} {w : World} {A : Around} {E : Value → Shared → Prop} {s : Shared}
end
end L2
set_option Elab.async false
set_option linter.all false
set_option maxRecDepth 100000
set_option maxHeartbeats 4000000
namespace L2
open PySem PySem.Spec PyProof.Rows
namespace SF
end SF
section
variable {P : Program} {w : World} {A : Around} {E : Value → Shared → Prop} {s : Shared}
end
end L2
set_option Elab.async false
set_option linter.all false
set_option maxRecDepth 100000
set_option maxHeartbeats 4000000
namespace L2
open PySem PySem.Spec PyProof.Rows
section
variable {P : Program} {w : World} {A : Around} {E : Value → Shared → Prop} {s : Shared}
end
end L2
set_option Elab.async false
set_option linter.all false
set_option maxRecDepth 100000
set_option maxHeartbeats 4000000
namespace PyProof.Rows
open PySem
section
variable {prog : Program} {w : World} {A : Around} {E : Value → Shared → Prop} {s : Shared} {κ : SortKind} {X : Keyed → Prop}
open Classical in
end
end PyProof.Rows
set_option Elab.async false
set_option linter.all false
set_option maxRecDepth 100000
set_option maxHeartbeats 4000000
namespace L2
open PySem PySem.Spec PyProof.Rows
section
variable {P : Program} {w : World} {A : Around} {E : Value → Shared → Prop} {s : Shared}
end
end L2
set_option Elab.async false
set_option linter.all false
set_option maxRecDepth 100000
set_option maxHeartbeats 4000000
namespace L2
open PySem PySem.Spec PyProof.Rows
section
variable {P : Program} {w : World} {A : Around} {E : Value → Shared → Prop} {s : Shared}
open Classical in
end
end L2
set_option Elab.async false
set_option linter.all false
set_option maxRecDepth 100000
set_option maxHeartbeats 4000000
namespace L2
open PySem PySem.Spec PyProof.Rows
section
variable {P : Program} {w : World}
end
section
variable {X : Cx} {pins : List (Addr × Obj)} {σ : St} {H : Hp} {s : Shared}
end
section
variable {X : Cx}
end
end L2
set_option Elab.async false
set_option linter.all false
set_option maxRecDepth 100000
set_option maxHeartbeats 4000000
namespace L2
open PySem PySem.Spec PyProof.Rows
section
variable {X : Cx} {pins : List (Addr × Obj)} {σ : St} {H : Hp} {s : Shared}
end
open AutoSeq1 (wpAny_loadPart') in
section
variable {K : PySem.W.Frag} {σ : St} {H : Hp} {Q : VK}
end
section
variable {X : Cx}
end
end L2
set_option Elab.async false
set_option linter.all false
set_option maxRecDepth 100000
set_option maxHeartbeats 4000000
namespace L2
open PySem PySem.Spec PyProof.Rows
section
variable {X : Cx} {x : Str} {a : Addr} {kvs : List (Key × V)} {i : Expr} {ty : TE} {p pos : Pos}
end
end L2
set_option Elab.async false
set_option linter.all false
set_option maxRecDepth 100000
set_option maxHeartbeats 4000000
namespace L2
open PySem PySem.Spec PyProof.Rows
section
variable {prog : Program} {w : World} {A : Around} {E : Value → Shared → Prop} {s : Shared} {r d : Addr}
end
section
variable {X : Cx}
end
end L2
set_option Elab.async false
set_option linter.all false
set_option maxRecDepth 100000
set_option maxHeartbeats 4000000
namespace L2
open PySem PySem.Spec PyProof.Rows
section
variable {X : Cx}
theorem LitE.pe {e : Expr} {te : TE} (h : LitE e te) : PE X e te :=
  LitE.rec (motive_1 := fun e te _ => PE X e te) (motive_2 := fun es ta _ => PA X es ta) pe_non pe_bl pe_int pe_str (fun _ ih => pe_tup ih) pa_nil (fun h _ ih1 ih2 => pa_cons ih1 ih2 (h.star _ _)) h
theorem pa_lit {e : Expr} {te : TE} {es : List Expr} {t : TA} (h : LitE e te) (hr : PA X es t) : PA X (e :: es) (tCons te t) := pa_cons h.pe hr (h.star _ _)
end
end L2
set_option Elab.async false
set_option linter.all false
set_option maxRecDepth 100000
set_option maxHeartbeats 4000000
namespace L2
open PySem PySem.Spec PyProof.Rows
section
variable {X : Cx} {tg : Expr}
end
section
variable {prog : Program} {w : World} {A : Around} {E : Value → Shared → Prop} {s : Shared}
end
section
variable {X : Cx} {tg : Expr}
end
end L2
set_option Elab.async false
set_option linter.all false
set_option maxRecDepth 100000
set_option maxHeartbeats 4000000
namespace L2
open PySem PySem.Spec PyProof.Rows
section
variable {X : Cx}
end
end L2
set_option Elab.async false
set_option linter.all false
set_option maxRecDepth 100000
set_option maxHeartbeats 4000000
namespace L2
open PySem PySem.Spec PyProof.Rows
section
variable {X : Cx}
end
section
variable {X : Cx}
end
end L2
set_option Elab.async false
set_option linter.all false
set_option maxRecDepth 100000
set_option maxHeartbeats 4000000
namespace L2
open PySem PySem.Spec PyProof.Rows
section
variable {X : Cx}
end
end L2
set_option Elab.async false
set_option linter.all false
set_option maxRecDepth 100000
set_option maxHeartbeats 4000000
namespace L2
open PySem PySem.Spec PyProof.Rows
section
variable {P : Program} {w : World} {K : PySem.W.Frag} {mg : Str → Option Value} {base : Heap}
theorem Dfn.okLX {x : Str} {st : Stmt} {N ps : List Str} {k : Nat} {sp : Sp} {c T : Addr} (D : Dfn K mg x st ps) (B : Tab K mg base x c T) (S : FnScope N ps (defScope st)) (len : ∀ vs H Q E, sp vs H Q E → vs.length = ps.length)
    (hbody : ∀ (f : Addr) (A : Around) (outer : List Env) (s : Shared) (H : Hp) (vs : List V) (Q : VK) (E : XK), Room k (A.deeper (envOfC x (defScope st) s.heap.objs.size f (.ref c))) → sp vs H Q E →
      ∃ t, PSs (cxOf (CXE P w) P w K mg base N x (defScope st) f (.ref c) A outer s H E) (defBody st) t ∧ t { nx := fun _ H' => Q .non H', rt := Q } (start N vs) H) : CalX P w K mg base x (k + 1) ps sp := by
  obtain ⟨f, fd, hm, F, hb⟩ := D.ex
  obtain ⟨oc, od, kV, doc, pm, an, cdv, ct, osl, rfl, lk, hcd⟩ := F.ex
  have e : cdv = .ref c := tabIn_code B.tin B.kin B.ns hm lk rfl
  subst e
  exact ⟨f, _, hm, F.kp, hb, fn_of lk hcd S len fun A outer s H vs Q E hr h => hbody f A outer s H vs Q E hr h⟩
end
section
variable {X : Cx}
noncomputable def rIndex (K : PySem.W.Frag) : V → List V → Hp → VK → Prop := fun x xs H Q => ∃ (p : Addr) (bs : List Bool) (k : Bool) (j : Nat), x = .ref p ∧ xs = [.bl k] ∧ SqL K H p (bs.map V.bl) ∧ bs[j]? = some k ∧ (∀ m b, m < j → bs[m]? = some b → b ≠ k) ∧ j < 2 ^ 32 ∧ Q (.int (j : Int)) H
theorem eqU_bl {k b : Bool} : eqU (.bl k) (.bool b) = (b == k) := by cases k <;> cases b <;> rfl
theorem vals_bl : ∀ {bs : List Bool} {us : List Value}, Vals (bs.map V.bl) us → us = bs.map Value.bool
  | [], _, r => by cases r; rfl
  | b :: bs, _, r => by
    cases r with
    | cons r t =>
      cases r
      rw [vals_bl t]
      rfl
theorem mt_index (K : PySem.W.Frag) (hK : X.K = K := by rfl) : MtR X "list.index" (rIndex K) := by
  subst hK
  intro pins s σ H x xs v us Q I rx rv h
  obtain ⟨p, bs, k, j, rfl, rfl, hq, hj, hno, hjs, q⟩ := h
  cases rx
  obtain ⟨u, rfl, ru⟩ := rv.one
  cases ru
  obtain ⟨its, r, pl, hz⟩ := I.list hq
  have ei := vals_bl r
  subst ei
  obtain ⟨⟨cls, dd, data, sl⟩, n, ho, hc, hdd, hd⟩ := id pl
  simp only at hc hd hdd
  subst hc hd hdd
  have hjl : j < bs.length := (List.getElem?_eq_some_iff.mp hj).1
  have hsz : j < (bs.map Value.bool).toArray.size := by simpa using hjl
  have hget : ∀ m (hm : m < (bs.map Value.bool).toArray.size), ∃ b, bs[m]? = some b ∧ (bs.map Value.bool).toArray[m] = .bool b := fun m hm => by
    have hm' : m < bs.length := by simpa using hm
    exact ⟨bs[m], List.getElem?_eq_getElem hm', by simp⟩
  refine call_meets PySem.F.slot_list_index ⟨_, ho, rfl⟩ PySem.F.entry_list_index (PySem.F.args_list_index_2 _ _) (SeqAt.list_indexAt p (bs.map Value.bool).toArray n none sl (.bool k) (eqU (.bl k)) j hsz (by omega) ?_ ?_)
    ⟨ho, fun y hy => mem_eqAt (x := .bl k) rfl rfl r (by rw [List.all_map, List.all_eq_true]; intro x _; rfl) y (by simpa using hy), ?_⟩
  · obtain ⟨b, hb, e⟩ := hget j hsz
    rw [e, eqU_bl]
    rw [hj] at hb
    cases hb
    exact beq_self_eq_true _
  · intro m hm hmj
    obtain ⟨b, hb, e⟩ := hget m hm
    rw [e, eqU_bl]
    exact beq_eq_false_iff_ne.mpr (hno m b hmj hb)
  · exact ⟨.int _, H, I.tok _, ⟨_, rfl⟩, q⟩
end
end L2
set_option linter.all false
namespace St
noncomputable def Rising (lo hi : Int) (xs : List Int) : Prop := xs.Pairwise (· < ·) ∧ ∀ x ∈ xs, lo ≤ x ∧ x < hi
structure Ok (b s : Int) (o a : List Int) : Prop where
  hb : 0 ≤ b
  hs : 1 ≤ s
  ho : Rising 0 b o
  ha : Rising b (b + s) a
noncomputable def mem (b s : Int) (o a : List Int) (x : Int) : Bool := if x < b then o.contains x else a.contains (b + (x - b) % s)
section
variable {b s : Int} {o a : List Int}
theorem mem_lt (x : Int) (h : x < b) : mem b s o a x = o.contains x := if_pos h
theorem mem_ge (x : Int) (h : b ≤ x) : mem b s o a x = a.contains (b + (x - b) % s) := if_neg (by omega)
end
end St
set_option linter.all false
namespace St
noncomputable def Per (f : Nat → Bool) (b d : Nat) : Prop := ∀ x, b ≤ x → f (x + d) = f x
theorem Per.mul {f : Nat → Bool} {b d : Nat} (h : Per f b d) : ∀ k x, b ≤ x → f (x + k * d) = f x
  | 0, x, hx => by simp
  | k + 1, x, hx => by
    rw [Nat.succ_mul, ← Nat.add_assoc, h _ (by omega), h.mul k x hx]
theorem Per.times {f : Nat → Bool} {b d : Nat} (h : Per f b d) (k : Nat) : Per f b (k * d) := fun x hx => h.mul k x hx
theorem Per.down {f : Nat → Bool} {b s b' d : Nat} (h : Per f b s) (hs : 1 ≤ s) (h' : Per f b' d) : Per f b d := fun x hx => by
  have e1 := h.mul b' (x + d) (by omega)
  have e2 := h.mul b' x hx
  rw [← e1, ← e2, show x + d + b' * s = (x + b' * s) + d by omega]
  exact h' _ (by have : b' * 1 ≤ b' * s := Nat.mul_le_mul_left _ hs; omega)
theorem Per.mod {f : Nat → Bool} {b s d : Nat} (h : Per f b s) (h' : Per f b d) : Per f b (s % d) := fun x hx => by
  have e := (h'.times (s / d)) (x + s % d) (by omega)
  rw [← e, show x + s % d + s / d * d = x + s by have := Nat.div_add_mod s d; rw [Nat.mul_comm] at this; omega]
  exact h x hx
structure Least (f : Nat → Bool) (st low : Nat) : Prop where
  pos : 1 ≤ st
  per : Per f low st
  step : ∀ d b, 1 ≤ d → Per f b d → st ≤ d
  base : ∀ b, Per f b st → low ≤ b
noncomputable def Alike (f : Nat → Bool) (b s d : Nat) : Prop := s % d = 0 ∧ ∀ i, i + d < s → f (b + i + d) = f (b + i)
theorem Alike.per {f : Nat → Bool} {b s d : Nat} (h : Per f b s) (hs : 1 ≤ s) (hd : 1 ≤ d) (a : Alike f b s d) : Per f b d := by
  obtain ⟨q, rfl⟩ : ∃ q, s = d * q := ⟨s / d, by have := Nat.div_add_mod s d; rw [a.1] at this; omega⟩
  have hq : 1 ≤ q := by
    cases q with
    | zero => simp at hs
    | succ q => omega
  have inner : ∀ k i, i < d → k < q → f (b + i + k * d) = f (b + i) := by
    intro k
    induction k with
    | zero => intro i _ _; simp
    | succ k ih =>
      intro i hi hk
      have e := a.2 (i + k * d) (by
        have : (k + 1 + 1) * d ≤ q * d := Nat.mul_le_mul_right _ (by omega)
        rw [Nat.succ_mul, Nat.succ_mul, Nat.mul_comm q d] at this
        omega)
      rw [show b + i + (k + 1) * d = b + (i + k * d) + d by rw [Nat.succ_mul]; omega, e, ← Nat.add_assoc]
      exact ih i hi (by omega)
  have all : ∀ n, f (b + n) = f (b + n % d) := fun n => by
    have e1 : f (b + n) = f (b + n % (d * q)) := by
      have := h.mul (n / (d * q)) (b + n % (d * q)) (by omega)
      rw [← this]
      congr 1
      have := Nat.div_add_mod n (d * q)
      rw [Nat.mul_comm (d * q)] at this
      omega
    rw [e1]
    have hlt : n % (d * q) < d * q := Nat.mod_lt _ (by omega)
    have e2 : n % (d * q) = n % (d * q) % d + n % (d * q) / d * d := by
      have := Nat.div_add_mod (n % (d * q)) d
      rw [Nat.mul_comm] at this
      omega
    have e3 : n % (d * q) % d = n % d := Nat.mod_mul_right_mod n d q
    have e4 : n % (d * q) / d < q := Nat.div_lt_of_lt_mul hlt
    rw [e2, ← Nat.add_assoc, inner _ _ (Nat.mod_lt _ (by omega)) e4, e3]
  intro x hx
  obtain ⟨n, rfl⟩ : ∃ n, x = b + n := ⟨x - b, by omega⟩
  rw [Nat.add_assoc, all (n + d), all n, Nat.add_mod_right]
theorem Per.alike {f : Nat → Bool} {b s d : Nat} (h : Per f b d) (hm : s % d = 0) : Alike f b s d := ⟨hm, fun i _ => h (b + i) (by omega)⟩
theorem least_step {f : Nat → Bool} {b s d : Nat} (h : Per f b s) (hs : 1 ≤ s) (hd : 1 ≤ d) (a : Alike f b s d) (first : ∀ e, 1 ≤ e → e < d → ¬ Alike f b s e) : Per f b d ∧ ∀ e b', 1 ≤ e → Per f b' e → d ≤ e := by
  have pd := a.per h hs hd
  refine ⟨pd, fun e b' he pe => ?_⟩
  have pe' : Per f b e := h.down hs pe
  -- the least one that goes round
  have go : ∀ n e, e ≤ n → 1 ≤ e → Per f b e → d ≤ e := by
    intro n
    induction n with
    | zero => intro e h1 h2; omega
    | succ n ih =>
      intro e h1 h2 pe
      by_cases hz : s % e = 0
      · rcases Nat.lt_or_ge e d with hlt | hge
        · exact absurd (pe.alike hz) (first e h2 hlt)
        · exact hge
      · have hlt : s % e < e := Nat.mod_lt _ (by omega)
        have := ih (s % e) (by omega) (by omega) (h.mod pe)
        omega
  exact go e e (Nat.le_refl _) he pe'
theorem least_of {f : Nat → Bool} {b s d low : Nat} (h : Per f b s) (hs : 1 ≤ s) (hd : 1 ≤ d) (a : Alike f b s d) (first : ∀ e, 1 ≤ e → e < d → ¬ Alike f b s e) (hl : low ≤ b)
    (down : ∀ x, low ≤ x → x < b → f x = f (x + d)) (stop : low = 0 ∨ f (low - 1) ≠ f (low - 1 + d)) : Least f d low := by
  obtain ⟨pd, hmin⟩ := least_step h hs hd a first
  refine ⟨hd, fun x hx => ?_, hmin, fun b' pb => ?_⟩
  · rcases Nat.lt_or_ge x b with hlt | hge
    · exact (down x hx hlt).symm
    · exact pd x hge
  · rcases stop with h0 | hne
    · omega
    · rcases Nat.lt_or_ge b' low with hlt | hge
      · exact absurd (pb (low - 1) (by omega)).symm hne
      · exact hge
noncomputable def row (f : Nat → Bool) (lo n : Nat) : List Int := ((List.range n).filter fun i => f (lo + i)).map fun i => ((lo + i : Nat) : Int)
end St
set_option linter.all false
namespace St
theorem row_succ (f : Nat → Bool) (lo n : Nat) : row f lo (n + 1) = row f lo n ++ if f (lo + n) then [((lo + n : Nat) : Int)] else [] := by
  unfold row
  rw [List.range_succ, List.filter_append, List.map_append]
  congr 1
  by_cases h : f (lo + n) = true <;> simp [h]
theorem row_len (f : Nat → Bool) (lo n : Nat) : (row f lo n).length ≤ n := by
  unfold row
  rw [List.length_map]
  exact Nat.le_trans (List.length_filter_le _ _) (by simp)
theorem mem_row {f : Nat → Bool} {lo n : Nat} {x : Int} : x ∈ row f lo n ↔ (lo : Int) ≤ x ∧ x < lo + n ∧ f x.toNat = true := by
  unfold row
  simp only [List.mem_map, List.mem_filter, List.mem_range]
  constructor
  · rintro ⟨i, ⟨hi, hf⟩, rfl⟩
    refine ⟨by omega, by omega, ?_⟩
    rw [Int.toNat_natCast]; exact hf
  · rintro ⟨h1, h2, h3⟩
    refine ⟨x.toNat - lo, ⟨by omega, ?_⟩, by omega⟩
    rw [show lo + (x.toNat - lo) = x.toNat by omega]; exact h3
theorem row_rising (f : Nat → Bool) (lo n : Nat) : Rising lo (lo + n) (row f lo n) := by
  refine ⟨?_, fun x hx => ⟨(mem_row.mp hx).1, (mem_row.mp hx).2.1⟩⟩
  unfold row
  rw [List.pairwise_map]
  refine List.Pairwise.imp (R := fun a b => a < b) (fun h => by omega) ?_
  exact List.Pairwise.filter _ List.pairwise_lt_range
theorem row_ok (f : Nat → Bool) (b s : Nat) (hs : 1 ≤ s) : Ok b s (row f 0 b) (row f b s) :=
  ⟨by omega, by omega, by have := row_rising f 0 b; simpa using this, row_rising f b s⟩
noncomputable def fn (b s : Int) (o a : List Int) (n : Nat) : Bool := mem b s o a n
theorem fn_per {b s : Int} {o a : List Int} (S : Ok b s o a) : Per (fn b s o a) b.toNat s.toNat := fun x hx => by
  have hb := S.hb
  have hs := S.hs
  unfold fn
  rw [mem_ge _ (by omega), mem_ge _ (by omega)]
  congr 2
  have : ((x + s.toNat : Nat) : Int) - b = (x : Int) - b + s * 1 := by omega
  rw [this, Int.add_mul_emod_self_left]
theorem marks_mem {b s : Int} {o a : List Int} (S : Ok b s o a) {y : Int} (hy : 0 ≤ y) : (o.contains y || a.any fun x => decide (x ≤ y) && (y - x) % s == 0) = mem b s o a y := by
  have hs := S.hs
  by_cases h : y < b
  · rw [mem_lt _ h]
    have : (a.any fun x => decide (x ≤ y) && (y - x) % s == 0) = false := by
      rw [List.any_eq_false]
      intro x hx
      have := S.ha.2 x hx
      simp
      omega
    rw [this, Bool.or_false]
  · rw [mem_ge _ (by omega)]
    have : o.contains y = false := by
      rw [Bool.eq_false_iff]
      intro hc
      rw [List.contains_iff_mem] at hc
      have := S.ho.2 y hc
      omega
    rw [this, Bool.false_or, Bool.eq_iff_iff, List.any_eq_true, List.contains_iff_mem]
    have r0 : 0 ≤ (y - b) % s := Int.emod_nonneg _ (by omega)
    have r1 : (y - b) % s < s := Int.emod_lt_of_pos _ (by omega)
    have hm := Int.mul_ediv_add_emod (y - b) s
    have q0 : 0 ≤ (y - b) / s := Int.ediv_nonneg (by omega) (by omega)
    have q1 : 0 ≤ s * ((y - b) / s) := Int.mul_nonneg (by omega) q0
    constructor
    · rintro ⟨x, hx, hc⟩
      simp only [Bool.and_eq_true, decide_eq_true_eq, beq_iff_eq] at hc
      have hb := S.ha.2 x hx
      have e : (y - b) % s = x - b := by
        have e1 : y - b = (x - b) + s * ((y - x) / s) := by
          have := Int.mul_ediv_add_emod (y - x) s
          rw [hc.2] at this
          omega
        rw [e1, Int.add_mul_emod_self_left, Int.emod_eq_of_lt (by omega) (by omega)]
      rw [e, show b + (x - b) = x by omega]
      exact hx
    · intro hx
      refine ⟨_, hx, ?_⟩
      simp only [Bool.and_eq_true, decide_eq_true_eq, beq_iff_eq]
      refine ⟨by omega, ?_⟩
      rw [show y - (b + (y - b) % s) = s * ((y - b) / s) by omega]
      exact Int.mul_emod_right _ _
end St
set_option linter.all false
namespace St
noncomputable def cm (a b : Nat) : Nat := a / Nat.gcd a b * b
theorem cm_left (a b : Nat) : cm a b = b / Nat.gcd a b * a := by
  unfold cm
  have ha : Nat.gcd a b * (a / Nat.gcd a b) = a := Nat.mul_div_cancel' (Nat.gcd_dvd_left a b)
  have hb : Nat.gcd a b * (b / Nat.gcd a b) = b := Nat.mul_div_cancel' (Nat.gcd_dvd_right a b)
  generalize hg : Nat.gcd a b = g at *
  generalize a / g = x at *
  generalize b / g = y at *
  rw [← ha, ← hb, Nat.mul_comm y, Nat.mul_comm g y, Nat.mul_comm g x, Nat.mul_assoc, Nat.mul_comm g y, ← Nat.mul_assoc]
theorem cm_pos {a b : Nat} (ha : 1 ≤ a) (hb : 1 ≤ b) : 1 ≤ cm a b := by
  unfold cm
  have h1 : 0 < a / Nat.gcd a b := Nat.div_pos (Nat.le_of_dvd ha (Nat.gcd_dvd_left a b)) (Nat.gcd_pos_of_pos_left b ha)
  exact Nat.mul_pos h1 hb
noncomputable def pairF (g : Bool → Bool → Bool) (f1 f2 : Nat → Bool) : Nat → Bool := fun x => g (f1 x) (f2 x)
theorem pair_per {g : Bool → Bool → Bool} {f1 f2 : Nat → Bool} {b1 s1 b2 s2 : Nat} (h1 : Per f1 b1 s1) (h2 : Per f2 b2 s2) : Per (pairF g f1 f2) (max b1 b2) (cm s1 s2) := fun x hx => by
  unfold pairF
  have e1 : f1 (x + cm s1 s2) = f1 x := by
    rw [cm_left]
    exact h1.mul _ x (by omega)
  have e2 : f2 (x + cm s1 s2) = f2 x := h2.mul _ x (by omega)
  rw [e1, e2]
theorem gcd_step (x y : Nat) : Nat.gcd y (x % y) = Nat.gcd x y := by
  rw [Nat.gcd_comm x y, Nat.gcd_rec y x, Nat.gcd_comm]
end St
set_option linter.all false
namespace St
end St
set_option Elab.async false
set_option linter.all false
set_option maxRecDepth 100000
namespace My
open PySem L2 St
set_option maxHeartbeats 4000000
noncomputable def top (i : Nat) : Stmt := PySem.Challenge.pw_stairrooms_k10_stairs_refused.main.body.getD i (.Pass ⟨0, 0, 0, 0⟩)
local macro_rules | `(tactic| walk_at "cond") => `(tactic| first | decide | omega | (dsimp only; omega) | (unfold CMul; omega) | (unfold CPow; exact ⟨by decide, by decide, by decide⟩) | (dsimp only; exact ⟨by omega, by omega⟩) | exact .inr ⟨by decide, by decide⟩ | exact .inl ⟨by decide, by decide⟩ | (unfold SmallR; omega))
local macro_rules | `(tactic| walk_at "rd") => do
  let ts ← ("seq ret retN asg drop ifS next name var c op un CB cons nil ints test B exb not and or andV orV notV ifE yes I0 I U EqI NeI EqB NeB call BM tup lst sl noPart part exi chain comp iL iT i1 i2 i3 for tTru intB max2 min2 sub gcons gnil aug ipI zip rev par par2 lam calV raise fs try bseq bnext bplain bif bcall enum gget gin revL leS disp dget lrev disp1 din dnin dput min3 iS iD bm0 revS".splitOn " ").toArray.mapM fun n =>
    let i := Lean.mkIdent (.mkSimple ("rd_" ++ n))
    if n == "var" || n == "aug" then `(tacticSeq| ((with_reducible apply $i); (exact rfl)))
    else if n == "I" then `(tacticSeq| ((with_reducible apply $i); (walk_at "cond")))
    else `(tacticSeq| with_reducible refine $i ?_)
  `(tactic| repeat (first $[| $ts]* | dsimp only))
structure Blt (mg : Str → Option Value) : Prop where
  len_ : mg "len" = none
  isinstance_ : mg "isinstance" = none
  tuple_ : mg "tuple" = none
  list_ : mg "list" = none
  int_ : mg "int" = none
  bool_ : mg "bool" = none
  range_ : mg "range" = none
  zip_ : mg "zip" = none
  max_ : mg "max" = none
  min_ : mg "min" = none
  abs_ : mg "abs" = none
  all_ : mg "all" = none
  ValueError_ : mg "ValueError" = none
noncomputable abbrev allC : List Str := ["Endless", "NoDeed", "NoHouse", "NoLine", "NoPlace", "NoStair", "NoText", "NoWalk", "NoWay", "NotBare", "StairError", "TooGreat"]
noncomputable abbrev raisedC : List Str := ["NoStair", "TooGreat"]
noncomputable def Kn (H : Hp) : Nat → V → Prop
  | 0, v => ∃ n, kindV H v n
  | d + 1, v => (∃ n, kindV H v n) ∧ ∀ p xs, v = .ref p → H p = some (.tup xs) → ∀ x ∈ xs, Kn H d x
noncomputable def isInt : V → Bool
  | .int _ => true
  | _ => false
theorem kind_cases {H : Hp} {v : V} {n : String} (h : kindV H v n) : (∃ p xs, v = .ref p ∧ H p = some (.tup xs) ∧ n = "tuple") ∨ (isiB n "tuple" = some false ∧ ∀ p xs, v = .ref p → H p ≠ some (.tup xs)) := by
  cases v with
  | non => cases (show n = "NoneType" from h); exact .inr ⟨rfl, fun p xs e => nomatch e⟩
  | bl b => cases (show n = "bool" from h); exact .inr ⟨rfl, fun p xs e => nomatch e⟩
  | int i => cases (show n = "int" from h); exact .inr ⟨rfl, fun p xs e => nomatch e⟩
  | str z => cases (show n = "str" from h); exact .inr ⟨rfl, fun p xs e => nomatch e⟩
  | ref a =>
    rcases h with ⟨rfl, xs, e⟩ | ⟨rfl, xs, e⟩
    · exact .inr ⟨rfl, fun p ys q z => by cases q; rw [e] at z; cases z⟩
    · exact .inl ⟨a, xs, rfl, e, rfl⟩
  | _ => exact False.elim h
theorem kind_whole {H : Hp} {v : V} {n : String} (h : kindV H v n) : ∃ b c, isiB n "int" = some b ∧ isiB n "bool" = some c ∧ (b && !c) = isInt v := by
  cases v with
  | non => cases (show n = "NoneType" from h); exact ⟨_, _, rfl, rfl, rfl⟩
  | bl b => cases (show n = "bool" from h); exact ⟨_, _, rfl, rfl, rfl⟩
  | int i => cases (show n = "int" from h); exact ⟨_, _, rfl, rfl, rfl⟩
  | str z => cases (show n = "str" from h); exact ⟨_, _, rfl, rfl, rfl⟩
  | ref a => rcases h with ⟨rfl, xs, e⟩ | ⟨rfl, xs, e⟩ <;> exact ⟨_, _, rfl, rfl, rfl⟩
  | _ => exact False.elim h
noncomputable def sp_is_whole (K : PySem.W.Frag) : Sp := fun vs H Q _ => ∃ v n, vs = [v] ∧ kindV H v n ∧ Q (.bl (isInt v)) H
noncomputable abbrev s_is_whole : Stmt := top 17
theorem sc_is_whole : FnScope ["thing"] ["thing"] (defScope s_is_whole) := ⟨rfl, rfl, rfl, by decide +kernel, rfl, by decide +kernel, by decide +kernel⟩
theorem ok_is_whole {P : Program} {w : World} {K : PySem.W.Frag} {mg : Str → Option Value} {base : Heap} (D : Dfn K mg "is_whole" s_is_whole ["thing"]) (T : Blt mg) : Cal P w K mg base "is_whole" 1 ["thing"] (sp_is_whole K) := by
  have nd := (sc_is_whole).nd
  refine D.ok sc_is_whole (fun vs H Q E h => ?_) (fun X hX H vs Q E h => ?_)
  · obtain ⟨v, n, rfl, _⟩ := h; rfl
  · obtain ⟨f, cdv, A, outer, s, H0, E0, rfl, hr⟩ := hX
    obtain ⟨v, n, rfl, hk, q⟩ := h
    obtain ⟨b, c, hb, hc, e⟩ := kind_whole hk
    refine ⟨_, (no_implicit_lambda% (pss_one (no_implicit_lambda% (ps_ret (no_implicit_lambda% (pe_and (no_implicit_lambda% (pe_callB call_isi rfl T.isinstance_ PyProof.Rows.boot_isinstance (no_implicit_lambda% (pa_cons (no_implicit_lambda% (pv 0)) (no_implicit_lambda% (pa_cons (no_implicit_lambda% (pe_bltn (v := .ty "int") rfl T.int_ PyProof.Rows.boot_int rfl)) pa_nil)))))) (pe_one (no_implicit_lambda% (pe_not (no_implicit_lambda% (pe_callB call_isi rfl T.isinstance_ PyProof.Rows.boot_isinstance (no_implicit_lambda% (pa_cons (no_implicit_lambda% (pv 0)) (no_implicit_lambda% (pa_cons (no_implicit_lambda% (pe_bltn (v := .ty "bool") rfl T.bool_ PyProof.Rows.boot_bool rfl)) pa_nil))))))))))))))), ?_⟩
    walk_at "rd"
    refine rd_isi hk hb ?_
    walk_at "rd"
    cases b with
    | false => refine iteF ?_; rw [← e] at q; exact q
    | true =>
      refine iteT ?_
      walk_at "rd"
      refine rd_isi hk hc ?_
      walk_at "rd"
      rw [← e] at q; exact q
noncomputable def risingV (lo hi : Int) : List V → Bool
  | [] => true
  | .int i :: r => decide (lo ≤ i) && decide (i < hi) && risingV (i + 1) hi r
  | _ :: _ => false
noncomputable def rowV (H : Hp) (lo hi : Int) : V → Bool
  | .ref p => match H p with
    | some (.tup xs) => risingV lo hi xs
    | _ => false
  | _ => false
theorem rowV_tup {H : Hp} {lo hi : Int} {p : Addr} {xs : List V} (h : H p = some (.tup xs)) : rowV H lo hi (.ref p) = risingV lo hi xs := by simp only [rowV, h]
theorem rowV_no {H : Hp} {lo hi : Int} {v : V} (h : ∀ p xs, v = .ref p → H p ≠ some (.tup xs)) : rowV H lo hi v = false := by
  cases v with
  | ref p =>
    cases e : H p with
    | none => simp only [rowV, e]
    | some o =>
      cases o with
      | tup xs => exact absurd e (h p xs rfl)
      | _ => simp only [rowV, e]
  | _ => rfl
theorem rising_no {lo hi : Int} {x : V} {r : List V} (h : isInt x = false) : risingV lo hi (x :: r) = false := by
  cases x <;> first | rfl | cases h
theorem isInt_of {x : V} (h : isInt x = true) : ∃ i, x = .int i := by
  cases x <;> first | exact ⟨_, rfl⟩ | cases h
noncomputable def sp_is_rising_row (K : PySem.W.Frag) : Sp := fun vs H Q _ => ∃ v lo hi, vs = [v, .int lo, .int hi] ∧ Kn H 1 v ∧ Q (.bl (rowV H lo hi v)) H
noncomputable abbrev s_is_rising_row : Stmt := top 18
theorem sc_is_rising_row : FnScope ["thing", "low", "end", "lowest", "number"] ["thing", "low", "end"] (defScope s_is_rising_row) := ⟨rfl, rfl, rfl, by decide +kernel, rfl, by decide +kernel, by decide +kernel⟩
theorem ok_is_rising_row {P : Program} {w : World} {K : PySem.W.Frag} {mg : Str → Option Value} {base : Heap} (D : Dfn K mg "is_rising_row" s_is_rising_row ["thing", "low", "end"]) (T : Blt mg) (C_is_whole : Cal P w K mg base "is_whole" 1 ["thing"] (sp_is_whole K)) : Cal P w K mg base "is_rising_row" 2 ["thing", "low", "end"] (sp_is_rising_row K) := by
  have nd := (sc_is_rising_row).nd
  refine D.ok sc_is_rising_row (fun vs H Q E h => ?_) (fun X hX H vs Q E h => ?_)
  · obtain ⟨v, lo, hi, rfl, _⟩ := h; rfl
  · obtain ⟨f, cdv, A, outer, s, H0, E0, rfl, hr⟩ := hX
    obtain ⟨v, lo, hi, rfl, hk, q⟩ := h
    obtain ⟨n, hn⟩ := hk.1
    refine ⟨_, (no_implicit_lambda% (pss_cons (no_implicit_lambda% (ps_if (no_implicit_lambda% (pt_not (no_implicit_lambda% (pt_val (no_implicit_lambda% (pe_callB call_isi rfl T.isinstance_ PyProof.Rows.boot_isinstance (no_implicit_lambda% (pa_cons (no_implicit_lambda% (pv 0)) (no_implicit_lambda% (pa_cons (no_implicit_lambda% (pe_bltn (v := .ty "tuple") rfl T.tuple_ PyProof.Rows.boot_tuple rfl)) pa_nil)))))))))) (no_implicit_lambda% (pss_one (no_implicit_lambda% (ps_ret pe_bl)))) pss_nil))
        (no_implicit_lambda% (pss_cons (no_implicit_lambda% (ps_set (i := 3) nd rfl (Or.inl rfl) (no_implicit_lambda% (pv 1))))
        (no_implicit_lambda% (pss_cons (no_implicit_lambda% (ps_for PassesOwn.never rfl (no_implicit_lambda% (pi_tupK K (no_implicit_lambda% (pv 0)))) (no_implicit_lambda% (pg_name (i := 4) nd rfl (Or.inl rfl))) (no_implicit_lambda% (pss_cons (no_implicit_lambda% (ps_if (no_implicit_lambda% (PW.pt (pw_or (no_implicit_lambda% (pt_not (no_implicit_lambda% (pt_val (no_implicit_lambda% (pe_cal C_is_whole hr (no_implicit_lambda% (pa_cons (no_implicit_lambda% (pv 4)) pa_nil)))))))) (pw_or (no_implicit_lambda% (pt_cmpR op_lt (no_implicit_lambda% (pv 4)) (no_implicit_lambda% (pv 3)) (nomark _))) (pw_or1 (no_implicit_lambda% (pt_cmpR op_ge (no_implicit_lambda% (pv 4)) (no_implicit_lambda% (pv 2)) (nomark _)))))))) (no_implicit_lambda% (pss_one (no_implicit_lambda% (ps_ret pe_bl)))) pss_nil))
        (no_implicit_lambda% (pss_one (no_implicit_lambda% (ps_set (i := 3) nd rfl (Or.inl rfl) (no_implicit_lambda% (pe_op op_add (no_implicit_lambda% (pv 4)) pe_int))))))))))
        (no_implicit_lambda% (pss_one (no_implicit_lambda% (ps_ret pe_bl)))))))))), ?_⟩
    walk_at "rd"
    rcases kind_cases hn with ⟨p, xs, rfl, hp, rfl⟩ | ⟨hf, hno⟩
    · refine rd_isi hn (b := true) rfl ?_
      walk_at "rd"
      refine iteF ?_
      walk_at "rd"
      refine rd_iTx (SqT.of hp) ?_
      rw [rowV_tup hp] at q
      refine forT (xs := xs) (fun i σ H' => H' = H ∧ ∃ lw w, σ = [some (.ref p), some (.int lo), some (.int hi), some (.int lw), w] ∧ risingV lo hi xs = risingV lw hi (xs.drop i))
        ⟨rfl, lo, none, rfl, rfl⟩ (fun i σ H' _ h => by rw [h.1]; exact SqT.of hp) ?_ ?_
      · rintro i x σ H' hx ⟨rfl, lw, w, rfl, e⟩
        have hd : xs.drop i = x :: xs.drop (i + 1) := by
          obtain ⟨hi', rfl⟩ := List.getElem?_eq_some_iff.mp hx
          exact List.drop_eq_getElem_cons hi'
        rw [hd] at e
        obtain ⟨m, hm⟩ := hk.2 p xs rfl hp x (List.mem_of_getElem? hx)
        walk_at "rd"
        refine ⟨x, m, rfl, hm, ?_⟩
        walk_at "rd"
        cases hx' : isInt x with
        | false =>
          refine iteT (iteT ?_)
          walk_at "rd"
          rw [e, rising_no hx'] at q
          exact q
        | true =>
          obtain ⟨z, rfl⟩ := isInt_of hx'
          refine iteF ?_
          walk_at "rd"
          have e' : risingV lo hi xs = (decide (lw ≤ z) && decide (z < hi) && risingV (z + 1) hi (xs.drop (i + 1))) := e
          by_cases h1 : z < lw
          · rw [decide_eq_true h1]
            refine iteT (iteT ?_)
            walk_at "rd"
            rw [e', decide_eq_false (show ¬ lw ≤ z by omega)] at q
            exact q
          · rw [decide_eq_false h1]
            refine iteF ?_
            walk_at "rd"
            by_cases h2 : hi ≤ z
            · rw [decide_eq_true h2]
              refine iteT ?_
              walk_at "rd"
              rw [e', decide_eq_false (show ¬ z < hi by omega), Bool.and_false, Bool.false_and] at q
              exact q
            · rw [decide_eq_false h2]
              refine iteF ?_
              walk_at "rd"
              refine ⟨rfl, z + 1, _, rfl, ?_⟩
              rw [e', decide_eq_true (show lw ≤ z by omega), decide_eq_true (show z < hi by omega)]
              rfl
      · rintro σ H' ⟨rfl, lw, w, rfl, e⟩
        walk_at "rd"
        rw [e, List.drop_length] at q
        exact q
    · refine rd_isi hn hf ?_
      walk_at "rd"
      refine iteT ?_
      walk_at "rd"
      rw [rowV_no hno] at q
      exact q
noncomputable def placesV (H : Hp) : V → V → V → V → Bool
  | .int b, .int s, o, a => decide (0 ≤ b) && decide (1 ≤ s) && rowV H 0 b o && rowV H b (b + s) a
  | _, _, _, _ => false
theorem places_no1 {H : Hp} {b s o a : V} (h : isInt b = false) : placesV H b s o a = false := by
  cases b <;> first | rfl | cases h
theorem places_no2 {H : Hp} {b s o a : V} (h : isInt s = false) : placesV H b s o a = false := by
  cases s <;> first | (cases b <;> rfl) | cases h
noncomputable def sp_are_stair_places (K : PySem.W.Frag) : Sp := fun vs H Q _ => ∃ b s o a, vs = [b, s, o, a] ∧ Kn H 0 b ∧ Kn H 0 s ∧ Kn H 1 o ∧ Kn H 1 a ∧ Q (.bl (placesV H b s o a)) H
noncomputable abbrev s_are_stair_places : Stmt := top 19
theorem sc_are_stair_places : FnScope ["base", "step", "once", "again"] ["base", "step", "once", "again"] (defScope s_are_stair_places) := ⟨rfl, rfl, rfl, by decide +kernel, rfl, by decide +kernel, by decide +kernel⟩
theorem ok_are_stair_places {P : Program} {w : World} {K : PySem.W.Frag} {mg : Str → Option Value} {base : Heap} (D : Dfn K mg "are_stair_places" s_are_stair_places ["base", "step", "once", "again"]) (T : Blt mg) (C_is_rising_row : Cal P w K mg base "is_rising_row" 2 ["thing", "low", "end"] (sp_is_rising_row K)) (C_is_whole : Cal P w K mg base "is_whole" 1 ["thing"] (sp_is_whole K)) : Cal P w K mg base "are_stair_places" 3 ["base", "step", "once", "again"] (sp_are_stair_places K) := by
  have nd := (sc_are_stair_places).nd
  refine D.ok sc_are_stair_places (fun vs H Q E h => ?_) (fun X hX H vs Q E h => ?_)
  · obtain ⟨b, s, o, a, rfl, _⟩ := h; rfl
  · obtain ⟨f, cdv, A, outer, s, H0, E0, rfl, hr⟩ := hX
    obtain ⟨b, s', o, a, rfl, ⟨nb, hb⟩, ⟨ns, hs⟩, ho, ha, q⟩ := h
    refine ⟨_, (no_implicit_lambda% (pss_cons (no_implicit_lambda% (ps_if (no_implicit_lambda% (PW.pt (pw_or (no_implicit_lambda% (pt_not (no_implicit_lambda% (pt_val (no_implicit_lambda% (pe_cal C_is_whole hr (no_implicit_lambda% (pa_cons (no_implicit_lambda% (pv 0)) pa_nil)))))))) (pw_or (no_implicit_lambda% (pt_not (no_implicit_lambda% (pt_val (no_implicit_lambda% (pe_cal C_is_whole hr (no_implicit_lambda% (pa_cons (no_implicit_lambda% (pv 1)) pa_nil)))))))) (pw_or (no_implicit_lambda% (pt_cmpR op_lt (no_implicit_lambda% (pv 0)) pe_int (nomark _))) (pw_or1 (no_implicit_lambda% (pt_cmpR op_lt (no_implicit_lambda% (pv 1)) pe_int (nomark _))))))))) (no_implicit_lambda% (pss_one (no_implicit_lambda% (ps_ret pe_bl)))) pss_nil))
        (no_implicit_lambda% (pss_one (no_implicit_lambda% (ps_ret (no_implicit_lambda% (pe_and (no_implicit_lambda% (pe_cal C_is_rising_row hr (no_implicit_lambda% (pa_cons (no_implicit_lambda% (pv 2)) (no_implicit_lambda% (pa_cons pe_int (no_implicit_lambda% (pa_cons (no_implicit_lambda% (pv 0)) pa_nil)))))))) (pe_one (no_implicit_lambda% (pe_cal C_is_rising_row hr (no_implicit_lambda% (pa_cons (no_implicit_lambda% (pv 3)) (no_implicit_lambda% (pa_cons (no_implicit_lambda% (pv 0)) (no_implicit_lambda% (pa_cons (no_implicit_lambda% (pe_op op_add (no_implicit_lambda% (pv 0)) (no_implicit_lambda% (pv 1)))) pa_nil))))))))))))))))), ?_⟩
    walk_at "rd"
    refine ⟨b, nb, rfl, hb, ?_⟩
    walk_at "rd"
    cases ib : isInt b with
    | false =>
      refine iteT (iteT ?_)
      walk_at "rd"
      rw [places_no1 ib] at q
      exact q
    | true =>
      refine iteF ?_
      walk_at "rd"
      refine ⟨s', ns, rfl, hs, ?_⟩
      walk_at "rd"
      cases is' : isInt s' with
      | false =>
        refine iteT (iteT ?_)
        walk_at "rd"
        rw [places_no2 is'] at q
        exact q
      | true =>
        obtain ⟨zb, rfl⟩ := isInt_of ib
        obtain ⟨zs, rfl⟩ := isInt_of is'
        refine iteF ?_
        walk_at "rd"
        have e : placesV H (.int zb) (.int zs) o a = (decide (0 ≤ zb) && decide (1 ≤ zs) && rowV H 0 zb o && rowV H zb (zb + zs) a) := rfl
        by_cases h1 : zb < 0
        · rw [decide_eq_true h1]
          refine iteT (iteT ?_)
          walk_at "rd"
          rw [e, decide_eq_false (show ¬ 0 ≤ zb by omega)] at q
          exact q
        · rw [decide_eq_false h1]
          refine iteF ?_
          walk_at "rd"
          by_cases h2 : zs < 1
          · rw [decide_eq_true h2]
            refine iteT ?_
            walk_at "rd"
            rw [e, decide_eq_false (show ¬ 1 ≤ zs by omega), Bool.and_false, Bool.false_and, Bool.false_and] at q
            exact q
          · rw [decide_eq_false h2]
            refine iteF ?_
            walk_at "rd"
            refine ⟨o, 0, zb, rfl, ho, ?_⟩
            walk_at "rd"
            rw [e, decide_eq_true (show 0 ≤ zb by omega), decide_eq_true (show 1 ≤ zs by omega)] at q
            cases ho' : rowV H 0 zb o with
            | false =>
              refine iteF ?_
              rw [ho'] at q
              exact q
            | true =>
              refine iteT ?_
              walk_at "rd"
              refine ⟨a, zb, zb + zs, rfl, ha, ?_⟩
              rw [ho'] at q
              exact q
noncomputable def stairV (H : Hp) : V → Bool
  | .ref p => match H p with
    | some (.tup [b, s, o, a]) => placesV H b s o a
    | _ => false
  | _ => false
theorem stairV_tup {H : Hp} {p : Addr} {b s o a : V} (h : H p = some (.tup [b, s, o, a])) : stairV H (.ref p) = placesV H b s o a := by simp only [stairV, h]
theorem stairV_len {H : Hp} {p : Addr} {xs : List V} (h : H p = some (.tup xs)) (hl : xs.length ≠ 4) : stairV H (.ref p) = false := by
  simp only [stairV, h]
  match xs, hl with
  | [], _ => rfl
  | [_], _ => rfl
  | [_, _], _ => rfl
  | [_, _, _], _ => rfl
  | [_, _, _, _], hl => exact absurd rfl hl
  | _ :: _ :: _ :: _ :: _ :: _, _ => rfl
theorem stairV_no {H : Hp} {v : V} (h : ∀ p xs, v = .ref p → H p ≠ some (.tup xs)) : stairV H v = false := by
  cases v with
  | ref p =>
    cases e : H p with
    | none => simp only [stairV, e]
    | some o =>
      cases o with
      | tup xs => exact absurd e (h p xs rfl)
      | _ => simp only [stairV, e]
  | _ => rfl
noncomputable def sp_is_stair (K : PySem.W.Frag) : Sp := fun vs H Q _ => ∃ v, vs = [v] ∧ Kn H 2 v ∧ Q (.bl (stairV H v)) H
theorem len4 {xs : List V} (h : xs.length = 4) : ∃ b s o a, xs = [b, s, o, a] := by
  match xs, h with
  | [b, s, o, a], _ => exact ⟨b, s, o, a, rfl⟩
theorem Kn.down {H : Hp} {v : V} (h : Kn H 1 v) : Kn H 0 v := h.1
noncomputable abbrev s_is_stair : Stmt := top 20
theorem sc_is_stair : FnScope ["thing"] ["thing"] (defScope s_is_stair) := ⟨rfl, rfl, rfl, by decide +kernel, rfl, by decide +kernel, by decide +kernel⟩
theorem ok_is_stair {P : Program} {w : World} {K : PySem.W.Frag} {mg : Str → Option Value} {base : Heap} (D : Dfn K mg "is_stair" s_is_stair ["thing"]) (T : Blt mg) (C_are_stair_places : Cal P w K mg base "are_stair_places" 3 ["base", "step", "once", "again"] (sp_are_stair_places K)) : Cal P w K mg base "is_stair" 4 ["thing"] (sp_is_stair K) := by
  have nd := (sc_is_stair).nd
  refine D.ok sc_is_stair (fun vs H Q E h => ?_) (fun X hX H vs Q E h => ?_)
  · obtain ⟨v, rfl, _⟩ := h; rfl
  · obtain ⟨f, cdv, A, outer, s, H0, E0, rfl, hr⟩ := hX
    obtain ⟨v, rfl, hk, q⟩ := h
    obtain ⟨n, hn⟩ := hk.1
    refine ⟨_, (no_implicit_lambda% (pss_cons (no_implicit_lambda% (ps_if (no_implicit_lambda% (PW.pt (pw_or (no_implicit_lambda% (pt_not (no_implicit_lambda% (pt_val (no_implicit_lambda% (pe_callB call_isi rfl T.isinstance_ PyProof.Rows.boot_isinstance (no_implicit_lambda% (pa_cons (no_implicit_lambda% (pv 0)) (no_implicit_lambda% (pa_cons (no_implicit_lambda% (pe_bltn (v := .ty "tuple") rfl T.tuple_ PyProof.Rows.boot_tuple rfl)) pa_nil)))))))))) (pw_or1 (no_implicit_lambda% (pt_cmpR op_ne (no_implicit_lambda% (pe_callB (call_lenK K) rfl T.len_ PySem.boot_len (no_implicit_lambda% (pa_cons (no_implicit_lambda% (pv 0)) pa_nil)))) pe_int (nomark _))))))) (no_implicit_lambda% (pss_one (no_implicit_lambda% (ps_ret pe_bl)))) pss_nil))
        (no_implicit_lambda% (pss_one (no_implicit_lambda% (ps_ret (no_implicit_lambda% (pe_cal C_are_stair_places hr (no_implicit_lambda% (pa_cons (no_implicit_lambda% (pe_ix (ix_tupK K) (no_implicit_lambda% (pv 0)) pe_int (fun _ _ => rfl))) (no_implicit_lambda% (pa_cons (no_implicit_lambda% (pe_ix (ix_tupK K) (no_implicit_lambda% (pv 0)) pe_int (fun _ _ => rfl))) (no_implicit_lambda% (pa_cons (no_implicit_lambda% (pe_ix (ix_tupK K) (no_implicit_lambda% (pv 0)) pe_int (fun _ _ => rfl))) (no_implicit_lambda% (pa_cons (no_implicit_lambda% (pe_ix (ix_tupK K) (no_implicit_lambda% (pv 0)) pe_int (fun _ _ => rfl))) pa_nil)))))))))))))))), ?_⟩
    walk_at "rd"
    rcases kind_cases hn with ⟨p, xs, rfl, hp, rfl⟩ | ⟨hf, hno⟩
    · refine rd_isi hn (b := true) rfl ?_
      walk_at "rd"
      refine iteF ?_
      walk_at "rd"
      refine rd_lenT (SqT.of hp) ?_
      walk_at "rd"
      by_cases hl : xs.length = 4
      · obtain ⟨b, s', o, a, rfl⟩ := len4 hl
        refine iteF ?_
        walk_at "rd"
        refine rd_ixT (SqT.of hp) rfl ?_
        walk_at "rd"
        refine rd_ixT (SqT.of hp) rfl ?_
        walk_at "rd"
        refine rd_ixT (SqT.of hp) rfl ?_
        walk_at "rd"
        refine rd_ixT (SqT.of hp) rfl ?_
        walk_at "rd"
        have hi := hk.2 p _ rfl hp
        rw [stairV_tup hp] at q
        exact ⟨b, s', o, a, rfl, (hi b (by simp)).down, (hi s' (by simp)).down, hi o (by simp), hi a (by simp), q⟩
      · rw [decide_eq_false (show ¬ ((xs.length : Nat) : Int) = 4 by omega)]
        refine iteT ?_
        walk_at "rd"
        rw [stairV_len hp hl] at q
        exact q
    · refine rd_isi hn hf ?_
      walk_at "rd"
      refine iteT (iteT ?_)
      walk_at "rd"
      rw [stairV_no hno] at q
      exact q
noncomputable def StAt (H : Hp) (v : V) (b s : Int) (o a : List Int) : Prop := ∃ p q r, v = .ref p ∧ H p = some (.tup [.int b, .int s, .ref q, .ref r]) ∧ H q = some (.tup (o.map V.int)) ∧ H r = some (.tup (a.map V.int))
structure Gd (b s : Int) (o a : List Int) : Prop where
  ok : Ok b s o a
  b3 : b ≤ 3000
  s8 : s ≤ 840
theorem StAt.ext {H H' : Hp} {v : V} {b s : Int} {o a : List Int} (e : Ext H H') (h : StAt H v b s o a) : StAt H' v b s o a := by
  obtain ⟨p, q, r, rfl, h1, h2, h3⟩ := h
  exact ⟨p, q, r, rfl, e _ _ h1, e _ _ h2, e _ _ h3⟩
theorem rising_cons {lo hi x : Int} {r : List Int} : Rising lo hi (x :: r) ↔ lo ≤ x ∧ x < hi ∧ Rising (x + 1) hi r := by
  constructor
  · rintro ⟨h1, h2⟩
    obtain ⟨p1, p2⟩ := List.pairwise_cons.mp h1
    have hx := h2 x List.mem_cons_self
    exact ⟨hx.1, hx.2, p2, fun z hz => ⟨by have := p1 z hz; omega, (h2 z (List.mem_cons_of_mem _ hz)).2⟩⟩
  · rintro ⟨h1, h2, h3, h4⟩
    refine ⟨List.pairwise_cons.mpr ⟨fun z hz => by have := h4 z hz; omega, h3⟩, fun z hz => ?_⟩
    rcases List.mem_cons.mp hz with rfl | hz
    · exact ⟨h1, h2⟩
    · have := h4 z hz
      exact ⟨by omega, this.2⟩
theorem rising_map {hi : Int} : ∀ {lo : Int} {xs : List Int}, risingV lo hi (xs.map V.int) = true ↔ Rising lo hi xs
  | lo, [] => ⟨fun _ => ⟨List.Pairwise.nil, fun x hx => by simp at hx⟩, fun _ => rfl⟩
  | lo, x :: r => by
    rw [rising_cons, ← rising_map (lo := x + 1) (xs := r)]
    show (decide (lo ≤ x) && decide (x < hi) && risingV (x + 1) hi (r.map V.int)) = true ↔ _
    simp [and_assoc]
theorem StAt.yes {H : Hp} {v : V} {b s : Int} {o a : List Int} (h : StAt H v b s o a) (k : Ok b s o a) : stairV H v = true := by
  obtain ⟨p, q, r, rfl, h1, h2, h3⟩ := h
  rw [stairV_tup h1]
  show (decide (0 ≤ b) && decide (1 ≤ s) && rowV H 0 b (.ref q) && rowV H b (b + s) (.ref r)) = true
  rw [rowV_tup h2, rowV_tup h3, rising_map.mpr k.ho, rising_map.mpr k.ha, decide_eq_true k.hb, decide_eq_true k.hs]
  rfl
theorem kn_ints {H : Hp} {q : Addr} {xs : List Int} (h : H q = some (.tup (xs.map V.int))) : Kn H 1 (.ref q) := by
  refine ⟨⟨"tuple", .inr ⟨rfl, _, h⟩⟩, fun p ys e z x hx => ?_⟩
  cases e
  rw [h] at z
  cases z
  obtain ⟨i, _, rfl⟩ := List.mem_map.mp hx
  exact ⟨"int", rfl⟩
theorem StAt.kn {H : Hp} {v : V} {b s : Int} {o a : List Int} (h : StAt H v b s o a) : Kn H 2 v := by
  obtain ⟨p, q, r, rfl, h1, h2, h3⟩ := h
  refine ⟨⟨"tuple", .inr ⟨rfl, _, h1⟩⟩, fun p' ys e z x hx => ?_⟩
  cases e
  rw [h1] at z
  cases z
  simp only [List.mem_cons, List.not_mem_nil, or_false] at hx
  rcases hx with rfl | rfl | rfl | rfl
  · exact ⟨⟨"int", rfl⟩, fun _ _ e => nomatch e⟩
  · exact ⟨⟨"int", rfl⟩, fun _ _ e => nomatch e⟩
  · exact kn_ints h2
  · exact kn_ints h3
theorem StAt.et {H H' : Hp} (e : Et H H') {v : V} {b s : Int} {o a : List Int} (h : StAt H v b s o a) : StAt H' v b s o a := by
  obtain ⟨p, q, r, rfl, h1, h2, h3⟩ := h
  exact ⟨p, q, r, rfl, e _ _ h1 (fun _ z => by cases z), e _ _ h2 (fun _ z => by cases z), e _ _ h3 (fun _ z => by cases z)⟩
theorem kind_et {H H' : Hp} {v : V} {n : String} (e : Et H H') (h : kindV H v n) : kindV H' v n := by
  cases v with
  | ref a =>
    rcases h with ⟨h1, xs, h2⟩ | ⟨h1, xs, h2⟩
    · exact .inl ⟨h1, xs, e _ _ h2 (fun _ z => by cases z)⟩
    · exact .inr ⟨h1, xs, e _ _ h2 (fun _ z => by cases z)⟩
  | _ => exact h
theorem tup_et {H H' : Hp} {p : Addr} {n : String} (e : Et H H') (h : kindV H (.ref p) n) (xs : List V) : H' p = some (.tup xs) ↔ H p = some (.tup xs) := by
  rcases h with ⟨_, ys, h2⟩ | ⟨_, ys, h2⟩
  · have h3 := e _ _ h2 (fun _ z => by cases z)
    rw [h2, h3]
  · have h3 := e _ _ h2 (fun _ z => by cases z)
    rw [h2, h3]
theorem Kn.et {H H' : Hp} (e : Et H H') : ∀ {d : Nat} {v : V}, Kn H d v → Kn H' d v
  | 0, v, ⟨n, h⟩ => ⟨n, kind_et e h⟩
  | d + 1, v, ⟨⟨n, h⟩, g⟩ => ⟨⟨n, kind_et e h⟩, fun p xs ev hx x hm => by
      subst ev
      exact Kn.et e (g p xs rfl ((tup_et e h xs).mp hx) x hm)⟩
theorem rowV_et {H H' : Hp} {lo hi : Int} {v : V} {n : String} (e : Et H H') (h : kindV H v n) : rowV H' lo hi v = rowV H lo hi v := by
  rcases kind_cases h with ⟨p, xs, rfl, hp, _⟩ | ⟨_, hn⟩
  · rw [rowV_tup hp, rowV_tup ((tup_et e h xs).mpr hp)]
  · rw [rowV_no hn, rowV_no fun p xs ev hx => hn p xs ev ((tup_et e (ev ▸ h) xs).mp hx)]
theorem placesV_et {H H' : Hp} {b s o a : V} {n m : String} (e : Et H H') (ho : kindV H o n) (ha : kindV H a m) : placesV H' b s o a = placesV H b s o a := by
  cases b with
  | int i =>
    cases s with
    | int j =>
      show (_ && rowV H' 0 i o && rowV H' i (i + j) a) = (_ && rowV H 0 i o && rowV H i (i + j) a)
      rw [rowV_et e ho, rowV_et e ha]
    | _ => rw [places_no2 rfl, places_no2 rfl]
  | _ => rw [places_no1 rfl, places_no1 rfl]
theorem stairV_et {H H' : Hp} {v : V} (e : Et H H') (h : Kn H 2 v) : stairV H' v = stairV H v := by
  obtain ⟨⟨n, hk⟩, g⟩ := h
  rcases kind_cases hk with ⟨p, xs, rfl, hp, _⟩ | ⟨_, hn⟩
  · have hp' := (tup_et e hk xs).mpr hp
    by_cases hl : xs.length = 4
    · obtain ⟨b, s, o, a, rfl⟩ := len4 hl
      obtain ⟨n1, k1⟩ := (g p _ rfl hp o (by simp)).1
      obtain ⟨n2, k2⟩ := (g p _ rfl hp a (by simp)).1
      rw [stairV_tup hp, stairV_tup hp', placesV_et e k1 k2]
    · rw [stairV_len hp hl, stairV_len hp' hl]
  · rw [stairV_no hn, stairV_no fun p xs ev hx => hn p xs ev ((tup_et e (ev ▸ hk) xs).mp hx)]
noncomputable def NoS (H : Hp) (v : V) : Prop := Kn H 2 v ∧ stairV H v = false
theorem NoS.et {H H' : Hp} {v : V} (e : Et H H') (h : NoS H v) : NoS H' v := ⟨h.1.et e, (stairV_et e h.1).trans h.2⟩
noncomputable def GrS (H : Hp) (v : V) : Prop := ∃ b s o a, StAt H v b s o a ∧ Ok b s o a ∧ (3000 < b ∨ 840 < s)
theorem GrS.et {H H' : Hp} {v : V} (e : Et H H') (h : GrS H v) : GrS H' v := by
  obtain ⟨b, s, o, a, h1, h2, h3⟩ := h
  exact ⟨b, s, o, a, h1.et e, h2, h3⟩
noncomputable def BadS (K : PySem.W.Frag) (H : Hp) (v : V) (E : XK) : Prop := (NoS H v ∧ E (.ref (cA K "NoStair")) none H) ∨ (GrS H v ∧ E (.ref (cA K "TooGreat")) none H)
noncomputable def sp_refuse_no_stair (K : PySem.W.Frag) : Sp := fun vs H Q E => ∃ v, vs = [v] ∧ Kn H 2 v ∧ if stairV H v = true then Q .non H else E (.ref (cA K "NoStair")) none H
noncomputable abbrev s_refuse_no_stair : Stmt := top 21
theorem sc_refuse_no_stair : FnScope ["thing"] ["thing"] (defScope s_refuse_no_stair) := ⟨rfl, rfl, rfl, by decide +kernel, rfl, by decide +kernel, by decide +kernel⟩
theorem ok_refuse_no_stair {P : Program} {w : World} {K : PySem.W.Frag} {mg : Str → Option Value} {base : Heap} (D : Dfn K mg "refuse_no_stair" s_refuse_no_stair ["thing"]) (T : Blt mg) (XF : Xf K mg base allC raisedC) (C_is_stair : Cal P w K mg base "is_stair" 4 ["thing"] (sp_is_stair K)) : CalX P w K mg base "refuse_no_stair" 5 ["thing"] (sp_refuse_no_stair K) := by
  have nd := (sc_refuse_no_stair).nd
  refine D.okX sc_refuse_no_stair (fun vs H Q E h => ?_) (fun f cdv A outer s H vs Q E hr h => ?_)
  · obtain ⟨v, rfl, _⟩ := h; rfl
  · obtain ⟨v, rfl, hk, q⟩ := h
    refine ⟨_, (no_implicit_lambda% (pss_one (no_implicit_lambda% (ps_if (no_implicit_lambda% (pt_not (no_implicit_lambda% (pt_val (no_implicit_lambda% (pe_cal C_is_stair hr (no_implicit_lambda% (pa_cons (no_implicit_lambda% (pv 0)) pa_nil)))))))) (no_implicit_lambda% (pss_one (no_implicit_lambda% (ps_raise (XF.own "NoStair" (by decide +kernel)) PySem.F.excBase_ValueError (no_implicit_lambda% (pa_cons pe_str pa_nil)))))) pss_nil)))), ?_⟩
    walk_at "rd"
    refine ⟨v, rfl, hk, ?_⟩
    walk_at "rd"
    cases hv : stairV H v with
    | true =>
      rw [hv, if_pos rfl] at q
      exact iteF q
    | false =>
      rw [hv, if_neg Bool.false_ne_true] at q
      refine iteT ?_
      walk_at "rd"
      exact ⟨(show 1 ≤ sizeLine by decide), q⟩
noncomputable def sp_refuse_great_stair (K : PySem.W.Frag) : Sp := fun vs H Q E => ∃ v b s o a, vs = [v] ∧ StAt H v b s o a ∧ ((b ≤ 3000 ∧ s ≤ 840 ∧ Q .non H) ∨ ((3000 < b ∨ 840 < s) ∧ E (.ref (cA K "TooGreat")) none H))
noncomputable abbrev s_refuse_great_stair : Stmt := top 22
theorem sc_refuse_great_stair : FnScope ["stair"] ["stair"] (defScope s_refuse_great_stair) := ⟨rfl, rfl, rfl, by decide +kernel, rfl, by decide +kernel, by decide +kernel⟩
theorem ok_refuse_great_stair {P : Program} {w : World} {K : PySem.W.Frag} {mg : Str → Option Value} {base : Heap} (D : Dfn K mg "refuse_great_stair" s_refuse_great_stair ["stair"]) (T : Blt mg) (g_GREATEST_STEP : ∃ t, mg "GREATEST_STEP" = some (.int 840 t)) (g_GREATEST_BASE : ∃ t, mg "GREATEST_BASE" = some (.int 3000 t)) (XF : Xf K mg base allC raisedC) : CalX P w K mg base "refuse_great_stair" 1 ["stair"] (sp_refuse_great_stair K) := by
  have nd := (sc_refuse_great_stair).nd
  refine D.okX sc_refuse_great_stair (fun vs H Q E h => ?_) (fun f cdv A outer s H vs Q E hr h => ?_)
  · obtain ⟨v, b, s, o, a, rfl, _⟩ := h; rfl
  · obtain ⟨t_GREATEST_STEP, c_GREATEST_STEP⟩ := g_GREATEST_STEP
    obtain ⟨t_GREATEST_BASE, c_GREATEST_BASE⟩ := g_GREATEST_BASE
    obtain ⟨v, b, s', o, a, rfl, ⟨p, q', r, rfl, h1, h2, h3⟩, hh⟩ := h
    refine ⟨_, (no_implicit_lambda% (pss_cons (no_implicit_lambda% (ps_if (no_implicit_lambda% (pt_cmpR op_gt (no_implicit_lambda% (pe_ix (ix_tupK K) (no_implicit_lambda% (pv 0)) pe_int (fun _ _ => rfl))) (no_implicit_lambda% (pe_glob (v := .int 3000) rfl c_GREATEST_BASE ⟨_, rfl⟩)) (nomark _))) (no_implicit_lambda% (pss_one (no_implicit_lambda% (ps_raise (XF.own "TooGreat" (by decide +kernel)) PySem.F.excBase_ValueError (no_implicit_lambda% (pa_cons (no_implicit_lambda% (pe_fstr (no_implicit_lambda% (pe_glob (v := .int 3000) rfl c_GREATEST_BASE ⟨_, rfl⟩)))) pa_nil)))))) pss_nil))
        (no_implicit_lambda% (pss_one (no_implicit_lambda% (ps_if (no_implicit_lambda% (pt_cmpR op_gt (no_implicit_lambda% (pe_ix (ix_tupK K) (no_implicit_lambda% (pv 0)) pe_int (fun _ _ => rfl))) (no_implicit_lambda% (pe_glob (v := .int 840) rfl c_GREATEST_STEP ⟨_, rfl⟩)) (nomark _))) (no_implicit_lambda% (pss_one (no_implicit_lambda% (ps_raise (XF.own "TooGreat" (by decide +kernel)) PySem.F.excBase_ValueError (no_implicit_lambda% (pa_cons (no_implicit_lambda% (pe_fstr (no_implicit_lambda% (pe_glob (v := .int 840) rfl c_GREATEST_STEP ⟨_, rfl⟩)))) pa_nil)))))) pss_nil)))))), ?_⟩
    walk_at "rd"
    refine rd_ixT (SqT.of h1) rfl ?_
    walk_at "rd"
    rcases hh with ⟨hb, hs, q⟩ | ⟨hg, q⟩
    · rw [decide_eq_false (show ¬ 3000 < b by omega)]
      refine iteF ?_
      walk_at "rd"
      refine rd_ixT (SqT.of h1) rfl ?_
      walk_at "rd"
      rw [decide_eq_false (show ¬ 840 < s' by omega)]
      exact iteF q
    · by_cases hb : 3000 < b
      · rw [decide_eq_true hb]
        refine iteT ?_
        walk_at "rd"
        refine ⟨by decide, by decide +kernel, fun z => ?_⟩
        walk_at "rd"
        exact ⟨(show 1 ≤ sizeLine by decide), q⟩
      · rw [decide_eq_false hb]
        refine iteF ?_
        walk_at "rd"
        refine rd_ixT (SqT.of h1) rfl ?_
        walk_at "rd"
        rw [decide_eq_true (show 840 < s' by omega)]
        refine iteT ?_
        walk_at "rd"
        refine ⟨by decide, by decide +kernel, fun z => ?_⟩
        walk_at "rd"
        exact ⟨(show 1 ≤ sizeLine by decide), q⟩
noncomputable def sp_refuse_bad_stair (K : PySem.W.Frag) : Sp := fun vs H Q E => ∃ v, vs = [v] ∧ ((∃ b s o a, StAt H v b s o a ∧ Gd b s o a ∧ Q .non H) ∨ BadS K H v E)
noncomputable abbrev s_refuse_bad_stair : Stmt := top 23
theorem sc_refuse_bad_stair : FnScope ["thing"] ["thing"] (defScope s_refuse_bad_stair) := ⟨rfl, rfl, rfl, by decide +kernel, rfl, by decide +kernel, by decide +kernel⟩
theorem ok_refuse_bad_stair {P : Program} {w : World} {K : PySem.W.Frag} {mg : Str → Option Value} {base : Heap} (D : Dfn K mg "refuse_bad_stair" s_refuse_bad_stair ["thing"]) (T : Blt mg) (CX_refuse_great_stair : CalX P w K mg base "refuse_great_stair" 1 ["stair"] (sp_refuse_great_stair K)) (CX_refuse_no_stair : CalX P w K mg base "refuse_no_stair" 5 ["thing"] (sp_refuse_no_stair K)) : CalX P w K mg base "refuse_bad_stair" 6 ["thing"] (sp_refuse_bad_stair K) := by
  have nd := (sc_refuse_bad_stair).nd
  refine D.okX sc_refuse_bad_stair (fun vs H Q E h => ?_) (fun f cdv A outer s H vs Q E hr h => ?_)
  · obtain ⟨v, rfl, _⟩ := h; rfl
  · obtain ⟨v, rfl, hh⟩ := h
    refine ⟨_, (no_implicit_lambda% (pss_cons (no_implicit_lambda% (ps_expr (no_implicit_lambda% (pe_calX CX_refuse_no_stair hr (no_implicit_lambda% (pa_cons (no_implicit_lambda% (pv 0)) pa_nil))))))
        (no_implicit_lambda% (pss_one (no_implicit_lambda% (ps_expr (no_implicit_lambda% (pe_calX CX_refuse_great_stair hr (no_implicit_lambda% (pa_cons (no_implicit_lambda% (pv 0)) pa_nil)))))))))), ?_⟩
    walk_at "rd"
    rcases hh with ⟨b, s', o, a, hv, hg, q⟩ | ⟨hn, q⟩ | ⟨⟨b, s', o, a, hv, ok, hg⟩, q⟩
    · refine ⟨v, rfl, hv.kn, ?_⟩
      rw [hv.yes hg.ok, if_pos rfl]
      walk_at "rd"
      exact ⟨v, b, s', o, a, rfl, hv, .inl ⟨hg.b3, hg.s8, q⟩⟩
    · refine ⟨v, rfl, hn.1, ?_⟩
      rw [hn.2]
      exact iteF q
    · refine ⟨v, rfl, hv.kn, ?_⟩
      rw [hv.yes ok, if_pos rfl]
      walk_at "rd"
      exact ⟨v, b, s', o, a, rfl, hv, .inr ⟨hg, q⟩⟩
theorem in_ints (x : Int) (xs : List Int) : inV (.int x) (xs.map V.int) = xs.contains x := by
  unfold inV
  rw [List.any_map, Bool.eq_iff_iff, List.any_eq_true, List.contains_iff_mem]
  constructor
  · rintro ⟨y, hy, e⟩
    have e' : (y == x) = true := e
    rw [← (by simpa using e' : y = x)]
    exact hy
  · intro hx
    exact ⟨x, hx, by show (x == x) = true; simp⟩
theorem flat_ints (xs : List Int) : (xs.map V.int).all flatV = true := by
  rw [List.all_map, List.all_eq_true]
  intro x _
  rfl
noncomputable def sp_holds (K : PySem.W.Frag) : Sp := fun vs H Q E => ∃ v x, vs = [v, .int x] ∧ ((∃ b s o a, StAt H v b s o a ∧ Gd b s o a ∧ Q (.bl (mem b s o a x)) H) ∨ BadS K H v E)
noncomputable abbrev s_holds : Stmt := top 28
theorem sc_holds : FnScope ["stair", "x", "base"] ["stair", "x"] (defScope s_holds) := ⟨rfl, rfl, rfl, by decide +kernel, rfl, by decide +kernel, by decide +kernel⟩
theorem ok_holds {P : Program} {w : World} {K : PySem.W.Frag} {mg : Str → Option Value} {base : Heap} (D : Dfn K mg "holds" s_holds ["stair", "x"]) (T : Blt mg) (CX_refuse_bad_stair : CalX P w K mg base "refuse_bad_stair" 6 ["thing"] (sp_refuse_bad_stair K)) : CalX P w K mg base "holds" 7 ["stair", "x"] (sp_holds K) := by
  have nd := (sc_holds).nd
  refine D.okX sc_holds (fun vs H Q E h => ?_) (fun f cdv A outer s H vs Q E hr h => ?_)
  · obtain ⟨v, x, rfl, _⟩ := h; rfl
  · obtain ⟨v, x, rfl, hh⟩ := h
    refine ⟨_, (no_implicit_lambda% (pss_cons (no_implicit_lambda% (ps_expr (no_implicit_lambda% (pe_calX CX_refuse_bad_stair hr (no_implicit_lambda% (pa_cons (no_implicit_lambda% (pv 0)) pa_nil))))))
        (no_implicit_lambda% (pss_cons (no_implicit_lambda% (ps_set (i := 2) nd rfl (Or.inl rfl) (no_implicit_lambda% (pe_ix (ix_tupK K) (no_implicit_lambda% (pv 0)) pe_int (fun _ _ => rfl)))))
        (no_implicit_lambda% (pss_cons (no_implicit_lambda% (ps_if (no_implicit_lambda% (pt_cmpR op_lt (no_implicit_lambda% (pv 1)) (no_implicit_lambda% (pv 2)) (nomark _))) (no_implicit_lambda% (pss_one (no_implicit_lambda% (ps_ret (no_implicit_lambda% (pe_cmpR (op_inK K) (no_implicit_lambda% (pv 1)) (no_implicit_lambda% (pe_ix (ix_tupK K) (no_implicit_lambda% (pv 0)) pe_int (fun _ _ => rfl))) (by with_unfolding_all rfl))))))) pss_nil))
        (no_implicit_lambda% (pss_one (no_implicit_lambda% (ps_ret (no_implicit_lambda% (pe_cmpR (op_inK K) (no_implicit_lambda% (pe_op op_add (no_implicit_lambda% (pv 2)) (no_implicit_lambda% (pe_op op_mod (no_implicit_lambda% (pe_op op_sub (no_implicit_lambda% (pv 1)) (no_implicit_lambda% (pv 2)))) (no_implicit_lambda% (pe_ix (ix_tupK K) (no_implicit_lambda% (pv 0)) pe_int (fun _ _ => rfl))))))) (no_implicit_lambda% (pe_ix (ix_tupK K) (no_implicit_lambda% (pv 0)) pe_int (fun _ _ => rfl))) (by with_unfolding_all rfl))))))))))))), ?_⟩
    walk_at "rd"
    rcases hh with ⟨b, s', o, a, hv, hg, q⟩ | hb
    rotate_left
    · exact ⟨v, rfl, .inr hb⟩
    have hs := hg.ok.hs
    refine ⟨v, rfl, .inl ⟨b, s', o, a, hv, hg, ?_⟩⟩
    obtain ⟨p, q', r, rfl, h1, h2, h3⟩ := hv
    walk_at "rd"
    refine rd_ixT (SqT.of h1) rfl ?_
    walk_at "rd"
    by_cases hx : x < b
    · rw [decide_eq_true hx]
      refine iteT ?_
      walk_at "rd"
      refine rd_ixT (SqT.of h1) rfl ?_
      walk_at "rd"
      refine rd_in (.inr (SqT.of h2)) rfl (flat_ints o) ?_
      rw [mem_lt _ hx] at q
      rw [in_ints]
      exact q
    · rw [decide_eq_false hx]
      refine iteF ?_
      walk_at "rd"
      refine rd_ixT (SqT.of h1) rfl ?_
      walk_at "rd"
      refine rd_ixT (SqT.of h1) rfl ?_
      walk_at "rd"
      refine rd_in (.inr (SqT.of h3)) rfl (flat_ints a) ?_
      rw [mem_ge _ (by omega)] at q
      rw [in_ints]
      exact q
theorem take_filter {xs : List Int} {i : Nat} {x : Int} (p : Int → Bool) (h : xs[i]? = some x) : (xs.take (i + 1)).filter p = (xs.take i).filter p ++ if p x then [x] else [] := by
  rw [List.take_add_one, h, List.filter_append]
  cases hp : p x <;> simp [hp]
theorem map_get {xs : List Int} {i : Nat} {v : V} (h : (xs.map V.int)[i]? = some v) : ∃ x, v = .int x ∧ xs[i]? = some x := by
  rw [List.getElem?_map] at h
  cases e : xs[i]? with
  | none => rw [e] at h; cases h
  | some x => rw [e] at h; exact ⟨x, (Option.some.inj h).symm, rfl⟩
theorem small_line {n : Nat} (h : n ≤ 1000000) : n ≤ sizeLine := Nat.le_trans h (by decide)
noncomputable def sp_how_many_of_row (K : PySem.W.Frag) : Sp := fun vs H Q _ => ∃ (p : Addr) (e : Int) (xs : List Int), vs = [.ref p, .int e] ∧ H p = some (.tup (xs.map V.int)) ∧ xs.length ≤ 10000 ∧ ∀ H', Ext H H' → Q (.int ((xs.filter (· < e)).length : Nat)) H'
noncomputable abbrev s_how_many_of_row : Stmt := top 30
theorem sc_how_many_of_row : FnScope ["row", "end"] ["row", "end"] (defScope s_how_many_of_row) := ⟨rfl, rfl, rfl, by decide +kernel, rfl, by decide +kernel, by decide +kernel⟩
theorem ok_how_many_of_row {P : Program} {w : World} {K : PySem.W.Frag} {mg : Str → Option Value} {base : Heap} (D : Dfn K mg "how_many_of_row" s_how_many_of_row ["row", "end"]) (T : Blt mg) : Cal P w K mg base "how_many_of_row" 1 ["row", "end"] (sp_how_many_of_row K) := by
  have nd := (sc_how_many_of_row).nd
  refine D.ok sc_how_many_of_row (fun vs H Q E h => ?_) (fun X hX H vs Q E h => ?_)
  · obtain ⟨p, e, xs, rfl, _⟩ := h; rfl
  · obtain ⟨f, cdv, A, outer, s, H0, E0, rfl, hr⟩ := hX
    obtain ⟨p, e, xs, rfl, hp, hl, q⟩ := h
    refine ⟨_, (no_implicit_lambda% (pss_one (no_implicit_lambda% (ps_ret (no_implicit_lambda% (pe_callB (call_lenK K) rfl T.len_ PySem.boot_len (no_implicit_lambda% (pa_cons (no_implicit_lambda% (pe_comp ["number"] [1] (no_implicit_lambda% (pi_tupK K (no_implicit_lambda% (pv 0)))) (fun _ => (no_implicit_lambda% (pg_name (i := 0) (show (["number", "end"] : List Str).Nodup from by decide +kernel) rfl (Or.inl rfl) (Or.inr rfl)))) (fun _ => (pcs_one (no_implicit_lambda% (pt_cmpR op_lt (no_implicit_lambda% (pv 0)) (no_implicit_lambda% (pv 1)) (nomark _))))) (fun _ => (no_implicit_lambda% (pv 0))))) pa_nil)))))))), ?_⟩
    walk_at "rd"
    refine rd_iTx (SqT.of hp) ?_
    refine comp_tup (xs := xs.map V.int) (fun i ys H' => H' = H ∧ ys = ((xs.take i).filter (· < e)).map V.int) (small_line (by rw [List.length_map]; omega)) ⟨rfl, rfl⟩ ?_ ?_ ?_
    · rintro i ys H' _ ⟨rfl, rfl⟩
      refine ⟨SqT.of hp, ?_⟩
      rw [List.length_map]
      exact Nat.le_trans (List.length_filter_le _ _) (by rw [List.length_take]; exact Nat.min_le_left _ _)
    · rintro i v ys H' hi ⟨rfl, rfl⟩
      obtain ⟨x, rfl, hx⟩ := map_get hi
      walk_at "rd"
      by_cases h : x < e
      · rw [decide_eq_true h]
        refine iteT ?_
        walk_at "rd"
        refine ⟨rfl, ?_⟩
        rw [take_filter _ hx, if_pos (by simpa using h), List.map_append]
        rfl
      · rw [decide_eq_false h]
        refine iteF ⟨rfl, ?_⟩
        rw [take_filter _ hx, if_neg (by simpa using h), List.append_nil]
    · rintro ys H' p' ⟨rfl, rfl⟩ hn
      rw [List.length_map, List.take_length]
      refine rd_lenL (SqL.of upd_same) ?_
      rw [List.length_map]
      exact q _ (ext_upd hn)
noncomputable def howMany (b s : Int) (o a : List Int) (x : Int) : Int := if x ≤ b then ((o.filter (· < x)).length : Nat) else o.length + (x - b) / s * a.length + ((a.filter (· < b + (x - b) % s)).length : Nat)
theorem rising_len {lo hi : Int} : ∀ {xs : List Int}, Rising lo hi xs → (xs.length : Int) ≤ max 0 (hi - lo)
  | [], _ => by simp; omega
  | x :: r, h => by
    obtain ⟨h1, h2, h3⟩ := rising_cons.mp h
    have := rising_len h3
    rw [List.length_cons]
    omega
theorem Gd.lo {b s : Int} {o a : List Int} (g : Gd b s o a) : o.length ≤ 3000 := by
  have := rising_len g.ok.ho
  have := g.b3; have := g.ok.hb
  omega
theorem Gd.la {b s : Int} {o a : List Int} (g : Gd b s o a) : a.length ≤ 840 := by
  have := rising_len g.ok.ha
  have := g.s8; have := g.ok.hs
  omega
noncomputable def sp_how_many (K : PySem.W.Frag) : Sp := fun vs H Q E => ∃ v x, vs = [v, .int x] ∧ ((∃ b s o a, StAt H v b s o a ∧ Gd b s o a ∧ ∀ H', Ext H H' → Q (.int (howMany b s o a x)) H') ∨ BadS K H v E)
noncomputable abbrev s_how_many : Stmt := top 31
theorem sc_how_many : FnScope ["stair", "x", "base", "turns", "over"] ["stair", "x"] (defScope s_how_many) := ⟨rfl, rfl, rfl, by decide +kernel, rfl, by decide +kernel, by decide +kernel⟩
theorem ok_how_many {P : Program} {w : World} {K : PySem.W.Frag} {mg : Str → Option Value} {base : Heap} (D : Dfn K mg "how_many" s_how_many ["stair", "x"]) (T : Blt mg) (C_how_many_of_row : Cal P w K mg base "how_many_of_row" 1 ["row", "end"] (sp_how_many_of_row K)) (CX_refuse_bad_stair : CalX P w K mg base "refuse_bad_stair" 6 ["thing"] (sp_refuse_bad_stair K)) : CalX P w K mg base "how_many" 7 ["stair", "x"] (sp_how_many K) := by
  have nd := (sc_how_many).nd
  refine D.okX sc_how_many (fun vs H Q E h => ?_) (fun f cdv A outer s H vs Q E hr h => ?_)
  · obtain ⟨v, x, rfl, _⟩ := h; rfl
  · obtain ⟨v, x, rfl, hh⟩ := h
    refine ⟨_, (no_implicit_lambda% (pss_cons (no_implicit_lambda% (ps_expr (no_implicit_lambda% (pe_calX CX_refuse_bad_stair hr (no_implicit_lambda% (pa_cons (no_implicit_lambda% (pv 0)) pa_nil))))))
        (no_implicit_lambda% (pss_cons (no_implicit_lambda% (ps_set (i := 2) nd rfl (Or.inl rfl) (no_implicit_lambda% (pe_ix (ix_tupK K) (no_implicit_lambda% (pv 0)) pe_int (fun _ _ => rfl)))))
        (no_implicit_lambda% (pss_cons (no_implicit_lambda% (ps_if (no_implicit_lambda% (pt_cmpR op_le (no_implicit_lambda% (pv 1)) (no_implicit_lambda% (pv 2)) (nomark _))) (no_implicit_lambda% (pss_one (no_implicit_lambda% (ps_ret (no_implicit_lambda% (pe_cal C_how_many_of_row hr (no_implicit_lambda% (pa_cons (no_implicit_lambda% (pe_ix (ix_tupK K) (no_implicit_lambda% (pv 0)) pe_int (fun _ _ => rfl))) (no_implicit_lambda% (pa_cons (no_implicit_lambda% (pv 1)) pa_nil)))))))))) pss_nil))
        (no_implicit_lambda% (pss_cons (no_implicit_lambda% (ps_set (i := 3) nd rfl (Or.inl rfl) (no_implicit_lambda% (pe_op op_fdivL (no_implicit_lambda% (pe_op op_sub (no_implicit_lambda% (pv 1)) (no_implicit_lambda% (pv 2)))) (no_implicit_lambda% (pe_ix (ix_tupK K) (no_implicit_lambda% (pv 0)) pe_int (fun _ _ => rfl)))))))
        (no_implicit_lambda% (pss_cons (no_implicit_lambda% (ps_set (i := 4) nd rfl (Or.inl rfl) (no_implicit_lambda% (pe_op op_mod (no_implicit_lambda% (pe_op op_sub (no_implicit_lambda% (pv 1)) (no_implicit_lambda% (pv 2)))) (no_implicit_lambda% (pe_ix (ix_tupK K) (no_implicit_lambda% (pv 0)) pe_int (fun _ _ => rfl)))))))
        (no_implicit_lambda% (pss_one (no_implicit_lambda% (ps_ret (no_implicit_lambda% (pe_op op_add (no_implicit_lambda% (pe_op op_add (no_implicit_lambda% (pe_callB (call_lenK K) rfl T.len_ PySem.boot_len (no_implicit_lambda% (pa_cons (no_implicit_lambda% (pe_ix (ix_tupK K) (no_implicit_lambda% (pv 0)) pe_int (fun _ _ => rfl))) pa_nil)))) (no_implicit_lambda% (pe_op op_mul (no_implicit_lambda% (pv 3)) (no_implicit_lambda% (pe_callB (call_lenK K) rfl T.len_ PySem.boot_len (no_implicit_lambda% (pa_cons (no_implicit_lambda% (pe_ix (ix_tupK K) (no_implicit_lambda% (pv 0)) pe_int (fun _ _ => rfl))) pa_nil)))))))) (no_implicit_lambda% (pe_cal C_how_many_of_row hr (no_implicit_lambda% (pa_cons (no_implicit_lambda% (pe_ix (ix_tupK K) (no_implicit_lambda% (pv 0)) pe_int (fun _ _ => rfl))) (no_implicit_lambda% (pa_cons (no_implicit_lambda% (pe_op op_add (no_implicit_lambda% (pv 2)) (no_implicit_lambda% (pv 4)))) pa_nil)))))))))))))))))))))), ?_⟩
    walk_at "rd"
    rcases hh with ⟨b, s', o, a, hv, hg, q⟩ | hb
    rotate_left
    · exact ⟨v, rfl, .inr hb⟩
    have hs := hg.ok.hs
    have hs8 := hg.s8
    have lo := hg.lo
    have la := hg.la
    refine ⟨v, rfl, .inl ⟨b, s', o, a, hv, hg, ?_⟩⟩
    obtain ⟨p, q', r, rfl, h1, h2, h3⟩ := hv
    walk_at "rd"
    refine rd_ixT (SqT.of h1) rfl ?_
    walk_at "rd"
    by_cases hx : x ≤ b
    · rw [decide_eq_true hx]
      refine iteT ?_
      walk_at "rd"
      refine rd_ixT (SqT.of h1) rfl ?_
      walk_at "rd"
      refine ⟨q', x, o, rfl, h2, by omega, fun H' e => ?_⟩
      have := q H' e
      unfold howMany at this
      rw [if_pos hx] at this
      exact this
    · rw [decide_eq_false hx]
      refine iteF ?_
      walk_at "rd"
      refine rd_ixT (SqT.of h1) rfl ?_
      walk_at "rd"
      refine rd_ixT (SqT.of h1) rfl ?_
      walk_at "rd"
      refine rd_ixT (SqT.of h1) rfl ?_
      walk_at "rd"
      refine rd_lenT (SqT.of h2) ?_
      walk_at "rd"
      refine rd_ixT (SqT.of h1) rfl ?_
      walk_at "rd"
      refine rd_lenT (SqT.of h3) ?_
      walk_at "rd"
      refine rd_I (show CMul _ _ from .inr (by rw [List.length_map]; omega)) ?_
      walk_at "rd"
      refine rd_ixT (SqT.of h1) rfl ?_
      walk_at "rd"
      refine ⟨r, b + (x - b) % s', a, rfl, h3, by omega, fun H' e => ?_⟩
      walk_at "rd"
      have := q H' e
      unfold howMany at this
      rw [if_neg hx] at this
      rw [List.length_map, List.length_map]
      exact this
noncomputable def sp__law_cell (K : PySem.W.Frag) : Sp := fun vs H Q _ => ∃ (a : Addr) (ns : List Int) (k : Int), vs = [.ref a, .int k] ∧ SqL K H a (ns.map V.int) ∧ ns.length ≤ 63 ∧ 0 ≤ k ∧ ∀ z, Q (.int z) H
theorem atI_ints {ns : List Int} {i : Int} (h0 : 0 ≤ i) (h : i < ns.length) : ∃ z, atI (ns.map V.int) i = some (.int z) ∧ ns[i.toNat]? = some z := by
  have hi : i.toNat < ns.length := by omega
  refine ⟨ns[i.toNat], atI_of h0 ?_, List.getElem?_eq_getElem hi⟩
  rw [List.getElem?_map, List.getElem?_eq_getElem hi]
  rfl
noncomputable abbrev s__law_cell : Stmt := top 45
theorem sc__law_cell : FnScope ["_law_script", "_law_k"] ["_law_script", "_law_k"] (defScope s__law_cell) := ⟨rfl, rfl, rfl, by decide +kernel, rfl, by decide +kernel, by decide +kernel⟩
theorem ok__law_cell {P : Program} {w : World} {K : PySem.W.Frag} {mg : Str → Option Value} {base : Heap} (D : Dfn K mg "_law_cell" s__law_cell ["_law_script", "_law_k"]) (T : Blt mg) : Cal P w K mg base "_law_cell" 1 ["_law_script", "_law_k"] (sp__law_cell K) := by
  have nd := (sc__law_cell).nd
  refine D.ok sc__law_cell (fun vs H Q E h => ?_) (fun X hX H vs Q E h => ?_)
  · obtain ⟨a, ns, k, rfl, _⟩ := h; rfl
  · obtain ⟨f, cdv, A, outer, s, H0, E0, rfl, hr⟩ := hX
    obtain ⟨a, ns, k, rfl, ha, hl, hk, q⟩ := h
    refine ⟨_, (no_implicit_lambda% (pss_cons (no_implicit_lambda% (ps_if (no_implicit_lambda% (pt_cmpR op_eq (no_implicit_lambda% (pe_callB (call_lenK K) rfl T.len_ PySem.boot_len (no_implicit_lambda% (pa_cons (no_implicit_lambda% (pv 0)) pa_nil)))) pe_int (nomark _))) (no_implicit_lambda% (pss_one (no_implicit_lambda% (ps_ret (no_implicit_lambda% (pe_op op_mul pe_int (no_implicit_lambda% (pe_op op_add (no_implicit_lambda% (pv 1)) pe_int)))))))) pss_nil))
        (no_implicit_lambda% (pss_cons (no_implicit_lambda% (ps_if (no_implicit_lambda% (pt_cmpR op_lt (no_implicit_lambda% (pv 1)) (no_implicit_lambda% (pe_callB (call_lenK K) rfl T.len_ PySem.boot_len (no_implicit_lambda% (pa_cons (no_implicit_lambda% (pv 0)) pa_nil)))) (nomark _))) (no_implicit_lambda% (pss_one (no_implicit_lambda% (ps_ret (no_implicit_lambda% (pe_ix (ix_listK K) (no_implicit_lambda% (pv 0)) (no_implicit_lambda% (pv 1)) (fun _ _ => rfl))))))) pss_nil))
        (no_implicit_lambda% (pss_one (no_implicit_lambda% (ps_ret (no_implicit_lambda% (pe_op op_add (no_implicit_lambda% (pe_ix (ix_listK K) (no_implicit_lambda% (pv 0)) (no_implicit_lambda% (pe_op op_mod (no_implicit_lambda% (pv 1)) (no_implicit_lambda% (pe_callB (call_lenK K) rfl T.len_ PySem.boot_len (no_implicit_lambda% (pa_cons (no_implicit_lambda% (pv 0)) pa_nil)))))) (fun _ _ => rfl))) (no_implicit_lambda% (pe_op op_mul pe_int (no_implicit_lambda% (pv 1)))))))))))))), ?_⟩
    walk_at "rd"
    refine rd_lenL ha ?_
    walk_at "rd"
    rw [List.length_map]
    by_cases h0 : (ns.length : Int) = 0
    · rw [decide_eq_true h0]
      refine iteT ?_
      walk_at "rd"
      exact q _
    · rw [decide_eq_false h0]
      refine iteF ?_
      walk_at "rd"
      refine rd_lenL ha ?_
      walk_at "rd"
      rw [List.length_map]
      by_cases h1 : k < ns.length
      · rw [decide_eq_true h1]
        refine iteT ?_
        obtain ⟨z, hz, _⟩ := atI_ints hk h1
        walk_at "rd"
        refine rd_ixL ha hz ?_
        exact q _
      · rw [decide_eq_false h1]
        refine iteF ?_
        walk_at "rd"
        refine rd_lenL ha ?_
        rw [List.length_map]
        have hp : (0 : Int) < ns.length := by omega
        refine rd_I hp ?_
        obtain ⟨z, hz, _⟩ := atI_ints (ns := ns) (Int.emod_nonneg k (by omega)) (Int.emod_lt_of_pos k hp)
        refine rd_ixL ha hz ?_
        walk_at "rd"
        exact q _
noncomputable def sp__law_mixed (K : PySem.W.Frag) : Sp := fun vs H Q _ => ∃ c k p, vs = [.int c, .int k, .int p] ∧ 0 ≤ k ∧ k < 100000 ∧ 0 < p ∧ ∀ z, 0 ≤ z → z < p → Q (.int z) H
noncomputable abbrev s__law_mixed : Stmt := top 46
theorem sc__law_mixed : FnScope ["_law_cell_here", "_law_k", "_law_prime", "_law_far"] ["_law_cell_here", "_law_k", "_law_prime"] (defScope s__law_mixed) := ⟨rfl, rfl, rfl, by decide +kernel, rfl, by decide +kernel, by decide +kernel⟩
theorem ok__law_mixed {P : Program} {w : World} {K : PySem.W.Frag} {mg : Str → Option Value} {base : Heap} (D : Dfn K mg "_law_mixed" s__law_mixed ["_law_cell_here", "_law_k", "_law_prime"]) (T : Blt mg) : Cal P w K mg base "_law_mixed" 1 ["_law_cell_here", "_law_k", "_law_prime"] (sp__law_mixed K) := by
  have nd := (sc__law_mixed).nd
  refine D.ok sc__law_mixed (fun vs H Q E h => ?_) (fun X hX H vs Q E h => ?_)
  · obtain ⟨c, k, p, rfl, _⟩ := h; rfl
  · obtain ⟨f, cdv, A, outer, s, H0, E0, rfl, hr⟩ := hX
    obtain ⟨c, k, p, rfl, hk, hk2, hp, q⟩ := h
    refine ⟨_, (no_implicit_lambda% (pss_cons (no_implicit_lambda% (ps_set (i := 3) nd rfl (Or.inl rfl) (no_implicit_lambda% (pe_op op_mod (no_implicit_lambda% (pe_op op_mul (no_implicit_lambda% (pe_op op_add (no_implicit_lambda% (pe_op op_add (no_implicit_lambda% (pe_op op_add (no_implicit_lambda% (pv 0)) (no_implicit_lambda% (pe_op op_mul (no_implicit_lambda% (pe_op op_mul pe_int (no_implicit_lambda% (pv 1)))) (no_implicit_lambda% (pv 1)))))) (no_implicit_lambda% (pe_op op_mul pe_int (no_implicit_lambda% (pv 1)))))) pe_int)) pe_int)) pe_int))))
        (no_implicit_lambda% (pss_cons (no_implicit_lambda% (ps_set (i := 3) nd rfl (Or.inl rfl) (no_implicit_lambda% (pe_op op_mod (no_implicit_lambda% (pe_op op_mul (no_implicit_lambda% (pv 3)) (no_implicit_lambda% (pv 3)))) pe_int))))
        (no_implicit_lambda% (pss_one (no_implicit_lambda% (ps_ret (no_implicit_lambda% (pe_op op_mod (no_implicit_lambda% (pe_op op_mul (no_implicit_lambda% (pv 3)) pe_int)) (no_implicit_lambda% (pv 2)))))))))))), ?_⟩
    walk_at "rd"
    exact q _ (Int.emod_nonneg _ (by omega)) (Int.emod_lt_of_pos _ hp)
theorem ext_write {H H2 : Hp} {q : Addr} {o : HO} (e : Ext H H2) (hq : H q = none) : Ext H (upd H2 q o) := fun b u hb => by
  rw [upd_ne (ne_of_none hb hq)]
  exact e b u hb
noncomputable def sp__law_draws (K : PySem.W.Frag) : Sp := fun vs H Q _ => ∃ (c : Int) (w : Addr) (ws : List Int) (p : Int), vs = [.int c, .ref w, .int p] ∧ H w = some (.lst (ws.map V.int)) ∧ (∀ x ∈ ws, 0 < x ∧ x < 2 ^ 40) ∧ ws.length ≤ 10000 ∧ 0 < p ∧
  ∀ (q : Addr) (ds : List Int) (H' : Hp), Ext H H' → H' q = some (.lst (ds.map V.int)) → H q = none → ds.length = ws.length → (∀ (i : Nat) d x, ds[i]? = some d → ws[i]? = some x → 0 ≤ d ∧ d < x) → Q (.ref q) H'
noncomputable abbrev s__law_draws : Stmt := top 47
theorem sc__law_draws : FnScope ["_law_cell_here", "_law_widths", "_law_prime", "_law_left", "_law_found", "_law_k"] ["_law_cell_here", "_law_widths", "_law_prime"] (defScope s__law_draws) := ⟨rfl, rfl, rfl, by decide +kernel, rfl, by decide +kernel, by decide +kernel⟩
theorem ok__law_draws {P : Program} {w : World} {K : PySem.W.Frag} {mg : Str → Option Value} {base : Heap} (D : Dfn K mg "_law_draws" s__law_draws ["_law_cell_here", "_law_widths", "_law_prime"]) (T : Blt mg) (C__law_mixed : Cal P w K mg base "_law_mixed" 1 ["_law_cell_here", "_law_k", "_law_prime"] (sp__law_mixed K)) : Cal P w K mg base "_law_draws" 2 ["_law_cell_here", "_law_widths", "_law_prime"] (sp__law_draws K) := by
  have nd := (sc__law_draws).nd
  refine D.ok sc__law_draws (fun vs H Q E h => ?_) (fun X hX H vs Q E h => ?_)
  · obtain ⟨c, w, ws, p, rfl, _⟩ := h; rfl
  · obtain ⟨f, cdv, A, outer, s, H0, E0, rfl, hr⟩ := hX
    obtain ⟨c, w, ws, p, rfl, hw, hpos, hlen, hp, q⟩ := h
    refine ⟨_, (no_implicit_lambda% (pss_cons (no_implicit_lambda% (ps_set (i := 3) nd rfl (Or.inl rfl) pe_int))
        (no_implicit_lambda% (pss_cons (no_implicit_lambda% (ps_ifJ (no_implicit_lambda% (pt_cmpR op_ge (no_implicit_lambda% (pv 0)) (no_implicit_lambda% (pe_op op_pow pe_int pe_int)) (nomark _))) (no_implicit_lambda% (pss_one (no_implicit_lambda% (ps_set (i := 3) nd rfl (Or.inl rfl) (no_implicit_lambda% (pe_op op_sub (no_implicit_lambda% (pv 0)) (no_implicit_lambda% (pe_op op_pow pe_int pe_int)))))))) pss_nil))
        (no_implicit_lambda% (pss_cons (no_implicit_lambda% (ps_set (i := 4) nd rfl (Or.inl rfl) (no_implicit_lambda% (pe_lst pa_nil))))
        (no_implicit_lambda% (pss_cons (no_implicit_lambda% (ps_for PassesOwn.never rfl (no_implicit_lambda% (pi_range1 rfl T.range_ (no_implicit_lambda% (pa_cons (no_implicit_lambda% (pe_callB (call_lenK K) rfl T.len_ PySem.boot_len (no_implicit_lambda% (pa_cons (no_implicit_lambda% (pv 1)) pa_nil)))) pa_nil)))) (no_implicit_lambda% (pg_name (i := 5) nd rfl (Or.inl rfl))) (no_implicit_lambda% (pss_one (no_implicit_lambda% (ps_ifJ (no_implicit_lambda% (pt_cmpR op_gt (no_implicit_lambda% (pv 3)) pe_int (nomark _))) (no_implicit_lambda% (pss_cons (no_implicit_lambda% (ps_expr (no_implicit_lambda% (pe_bmK K PySem.F.plainAttrs_list PySem.F.slot_list_append PySem.F.type_list_append mt_append (no_implicit_lambda% (pv 4)) (no_implicit_lambda% (pa_cons (no_implicit_lambda% (pe_op op_mod (no_implicit_lambda% (pv 3)) (no_implicit_lambda% (pe_ix (ix_listK K) (no_implicit_lambda% (pv 1)) (no_implicit_lambda% (pv 5)) (fun _ _ => rfl))))) pa_nil))))))
        (no_implicit_lambda% (pss_one (no_implicit_lambda% (ps_set (i := 3) nd rfl (Or.inl rfl) (no_implicit_lambda% (pe_op op_fdivL (no_implicit_lambda% (pv 3)) (no_implicit_lambda% (pe_ix (ix_listK K) (no_implicit_lambda% (pv 1)) (no_implicit_lambda% (pv 5)) (fun _ _ => rfl))))))))))) (no_implicit_lambda% (pss_one (no_implicit_lambda% (ps_expr (no_implicit_lambda% (pe_bmK K PySem.F.plainAttrs_list PySem.F.slot_list_append PySem.F.type_list_append mt_append (no_implicit_lambda% (pv 4)) (no_implicit_lambda% (pa_cons (no_implicit_lambda% (pe_op op_mod (no_implicit_lambda% (pe_cal C__law_mixed hr (no_implicit_lambda% (pa_cons (no_implicit_lambda% (pv 0)) (no_implicit_lambda% (pa_cons (no_implicit_lambda% (pv 5)) (no_implicit_lambda% (pa_cons (no_implicit_lambda% (pv 2)) pa_nil)))))))) (no_implicit_lambda% (pe_ix (ix_listK K) (no_implicit_lambda% (pv 1)) (no_implicit_lambda% (pv 5)) (fun _ _ => rfl))))) pa_nil))))))))))))))
        (no_implicit_lambda% (pss_one (no_implicit_lambda% (ps_ret (no_implicit_lambda% (pv 4)))))))))))))), ?_⟩
    walk_at "rd"
    refine rd_ifJ (fun σ' H' => H' = H ∧ ∃ l, σ' = [some (.int c), some (.ref w), some (.int p), some (.int l), none, none]) ?_ ?_
    · walk_at "rd"
      refine ite2 (fun h => ?_) (fun h => ?_)
      · walk_at "rd"
        exact ⟨rfl, _, rfl⟩
      · walk_at "rd"
        exact ⟨rfl, _, rfl⟩
    rintro σ' H' ⟨rfl, l, rfl⟩
    walk_at "rd"
    refine ⟨small_line (by simp), rd_new fun f H1 e1 hf hfn => ?_⟩
    walk_at "rd"
    refine rd_lenL (SqL.of (e1 _ _ hw)) ?_
    rw [List.length_map]
    walk_at "rd"
    refine rd_i1x (by omega) ?_
    refine forR (fun i σ H2 => Ext H' H2 ∧ ∃ (l : Int) (k : Option V) (ds : List Int), σ = [some (.int c), some (.ref w), some (.int p), some (.int l), some (.ref f), k] ∧ H2 f = some (.lst (ds.map V.int)) ∧ ds.length = i ∧ ∀ (i : Nat) d x, ds[i]? = some d → ws[i]? = some x → 0 ≤ d ∧ d < x)
      ⟨e1, l, none, [], rfl, hf, rfl, fun i d x hd => by simp at hd⟩ ?_ ?_
    · rintro i σ H2 hi ⟨e2, l, k, ds, rfl, hf2, hds, hb⟩
      rw [Int.toNat_natCast] at hi
      have hwi : ws[i]? = some ws[i] := List.getElem?_eq_getElem hi
      have hx := hpos ws[i] (List.getElem_mem hi)
      have hat : atI (ws.map V.int) (0 + (i : Int)) = some (.int ws[i]) := by
        rw [Int.zero_add]
        exact atI_nat (by rw [List.getElem?_map, hwi]; rfl)
      have next : ∀ d, 0 ≤ d → d < ws[i] → ∀ (j : Nat) (d' x : Int), (ds ++ [d])[j]? = some d' → ws[j]? = some x → 0 ≤ d' ∧ d' < x := fun d h0 h1 j d' x hj hx' => by
        rcases Nat.lt_or_ge j ds.length with h | h
        · rw [List.getElem?_append_left h] at hj
          exact hb j d' x hj hx'
        · rw [List.getElem?_append_right h] at hj
          have hj0 : j - ds.length = 0 := by
            rcases Nat.eq_zero_or_pos (j - ds.length) with h | h
            · exact h
            · rw [List.getElem?_eq_none (by simp; omega)] at hj; cases hj
          rw [hj0] at hj
          have hji : j = i := by omega
          subst hji
          rw [hwi] at hx'
          cases hx'
          have : d = d' := by simpa using hj
          rw [← this]
          exact ⟨h0, h1⟩
      walk_at "rd"
      refine rd_ifN ?_
      walk_at "rd"
      refine ite2 (fun h => ?_) (fun h => ?_)
      · have h' : 1 < l := by simpa using h
        walk_at "rd"
        refine ⟨rd_tyL (SqL.of hf2), ?_⟩
        walk_at "rd"
        refine rd_ixL (SqL.of (e2 _ _ hw)) hat ?_
        refine rd_I (show 0 < ws[i] by omega) ?_
        walk_at "rd"
        refine rd_append hf2 (by rw [List.length_map]; exact Nat.lt_of_le_of_lt (show ds.length ≤ 10000 by omega) (by decide)) ?_
        walk_at "rd"
        refine rd_ixL (SqL.of (ext_write e2 hfn _ _ hw)) hat ?_
        refine rd_I (show 0 < ws[i] ∧ ws[i] < 2 ^ 64 by omega) ?_
        walk_at "rd"
        refine ⟨ext_write e2 hfn, _, _, ds ++ [l % ws[i]], rfl, ?_, by rw [List.length_append, hds]; rfl, next _ (Int.emod_nonneg _ (by omega)) (Int.emod_lt_of_pos _ (by omega))⟩
        rw [upd_same, List.map_append]
        rfl
      · walk_at "rd"
        refine ⟨rd_tyL (SqL.of hf2), ?_⟩
        walk_at "rd"
        refine ⟨c, 0 + (i : Int), p, rfl, by omega, by omega, hp, fun z hz0 hz1 => ?_⟩
        walk_at "rd"
        refine rd_ixL (SqL.of (e2 _ _ hw)) hat ?_
        refine rd_I (show 0 < ws[i] by omega) ?_
        walk_at "rd"
        refine rd_append hf2 (by rw [List.length_map]; exact Nat.lt_of_le_of_lt (show ds.length ≤ 10000 by omega) (by decide)) ?_
        walk_at "rd"
        refine ⟨ext_write e2 hfn, _, _, ds ++ [z % ws[i]], rfl, ?_, by rw [List.length_append, hds]; rfl, next _ (Int.emod_nonneg _ (by omega)) (Int.emod_lt_of_pos _ (by omega))⟩
        rw [upd_same, List.map_append]
        rfl
    · rintro σ H2 ⟨e2, l, k, ds, rfl, hf2, hds, hb⟩
      walk_at "rd"
      exact q f ds H2 e2 hf2 hfn (by rw [hds, Int.toNat_natCast]) hb
noncomputable def sp__law_spare (K : PySem.W.Frag) : Sp := fun vs H Q _ => ∃ c w, vs = [.int c, .int w] ∧ 0 < w ∧ w < 2 ^ 64 ∧ ∀ z, Q (.int z) H
noncomputable abbrev s__law_spare : Stmt := top 48
theorem sc__law_spare : FnScope ["_law_cell_here", "_law_width"] ["_law_cell_here", "_law_width"] (defScope s__law_spare) := ⟨rfl, rfl, rfl, by decide +kernel, rfl, by decide +kernel, by decide +kernel⟩
theorem ok__law_spare {P : Program} {w : World} {K : PySem.W.Frag} {mg : Str → Option Value} {base : Heap} (D : Dfn K mg "_law_spare" s__law_spare ["_law_cell_here", "_law_width"]) (T : Blt mg) : Cal P w K mg base "_law_spare" 1 ["_law_cell_here", "_law_width"] (sp__law_spare K) := by
  have nd := (sc__law_spare).nd
  refine D.ok sc__law_spare (fun vs H Q E h => ?_) (fun X hX H vs Q E h => ?_)
  · obtain ⟨c, w, rfl, _⟩ := h; rfl
  · obtain ⟨f, cdv, A, outer, s, H0, E0, rfl, hr⟩ := hX
    obtain ⟨c, w, rfl, h1, h2, q⟩ := h
    refine ⟨_, (no_implicit_lambda% (pss_cons (no_implicit_lambda% (ps_if (no_implicit_lambda% (pt_cmpR op_ge (no_implicit_lambda% (pv 0)) (no_implicit_lambda% (pe_op op_pow pe_int pe_int)) (nomark _))) (no_implicit_lambda% (pss_one (no_implicit_lambda% (ps_ret (no_implicit_lambda% (pe_op op_add (no_implicit_lambda% (pe_op op_fdivL (no_implicit_lambda% (pe_op op_sub (no_implicit_lambda% (pv 0)) (no_implicit_lambda% (pe_op op_pow pe_int pe_int)))) (no_implicit_lambda% (pv 1)))) (no_implicit_lambda% (pe_op op_pow pe_int pe_int)))))))) pss_nil))
        (no_implicit_lambda% (pss_one (no_implicit_lambda% (ps_ret (no_implicit_lambda% (pe_op op_add (no_implicit_lambda% (pv 0)) pe_int)))))))), ?_⟩
    walk_at "rd"
    refine ite2 (fun h => ?_) (fun h => ?_)
    · walk_at "rd"
      exact q _
    · walk_at "rd"
      exact q _
noncomputable def mkB (n : Nat) (f : Nat → Bool) : List V := (List.range n).map fun i => V.bl (f i)
theorem mkB_len (n : Nat) (f : Nat → Bool) : (mkB n f).length = n := by simp [mkB]
theorem mkB_get {n i : Nat} (f : Nat → Bool) (h : i < n) : (mkB n f)[i]? = some (.bl (f i)) := by
  unfold mkB
  rw [List.getElem?_map, List.getElem?_range h]
  rfl
theorem mkB_congr {n : Nat} {f g : Nat → Bool} (h : ∀ i, i < n → f i = g i) : mkB n f = mkB n g := by
  unfold mkB
  apply List.map_congr_left
  intro i hi
  rw [h i (List.mem_range.mp hi)]
theorem mkB_succ (n : Nat) (f : Nat → Bool) : mkB (n + 1) f = mkB n f ++ [V.bl (f n)] := by
  unfold mkB
  rw [List.range_succ, List.map_append]
  rfl
theorem mkB_set {n k : Nat} (f : Nat → Bool) (c : Bool) (hk : k < n) : (mkB n f).set k (.bl c) = mkB n fun i => if i = k then c else f i := by
  apply List.ext_getElem?
  intro i
  rcases Nat.lt_or_ge i n with hi | hi
  · rw [List.getElem?_set, mkB_len, mkB_get _ hi, mkB_get _ hi]
    by_cases h : k = i
    · subst h
      simp [hi]
    · rw [if_neg h, if_neg (Ne.symm h)]
  · rw [List.getElem?_eq_none (by rw [List.length_set, mkB_len]; exact hi), List.getElem?_eq_none (by rw [mkB_len]; exact hi)]
theorem mkB_at {n : Nat} {f : Nat → Bool} {i : Int} (h0 : 0 ≤ i) (h : i < n) : atI (mkB n f) i = some (.bl (f i.toNat)) := atI_of h0 (mkB_get f (by omega))
theorem mkB_rep (n : Nat) (c : Bool) : (List.replicate n [V.bl c]).flatten = mkB n fun _ => c := by
  induction n with
  | zero => rfl
  | succ n ih =>
    rw [List.replicate_succ', List.flatten_append, ih, mkB_succ]
    rfl
theorem mkB_append (m n : Nat) (f g : Nat → Bool) : mkB m f ++ mkB n g = mkB (m + n) fun i => if i < m then f i else g (i - m) := by
  apply List.ext_getElem?
  intro i
  rcases Nat.lt_or_ge i m with hi | hi
  · rw [List.getElem?_append_left (by rw [mkB_len]; exact hi), mkB_get _ hi, mkB_get _ (by omega), if_pos hi]
  · rw [List.getElem?_append_right (by rw [mkB_len]; exact hi), mkB_len]
    rcases Nat.lt_or_ge i (m + n) with h2 | h2
    · rw [mkB_get _ (by omega), mkB_get _ h2, if_neg (by omega)]
    · rw [List.getElem?_eq_none (by rw [mkB_len]; omega), List.getElem?_eq_none (by rw [mkB_len]; omega)]
theorem mkB_cut {n : Nat} {f : Nat → Bool} {i : Int} (h0 : 0 ≤ i) (h : i ≤ n) : cutV (mkB n f) none (some i) = mkB i.toNat f := by
  unfold cutV
  rw [mkB_len, HT.sIx_none]
  have e : HT.sIx n n (some i) = i.toNat := by
    show (if i < 0 then (i + (n : Int)).toNat else min i.toNat n) = i.toNat
    rw [if_neg (by omega)]
    omega
  rw [e, List.drop_zero, Nat.sub_zero]
  apply List.ext_getElem?
  intro k
  rcases Nat.lt_or_ge k i.toNat with hk | hk
  · rw [List.getElem?_take_of_lt hk, mkB_get _ (by omega), mkB_get _ hk]
  · rw [List.getElem?_eq_none (by rw [List.length_take, mkB_len]; omega), List.getElem?_eq_none (by rw [mkB_len]; omega)]
noncomputable def sp__law_bits (K : PySem.W.Frag) : Sp := fun vs H Q _ => ∃ (c n p : Int), vs = [.int c, .int n, .int p] ∧ 0 ≤ n ∧ n ≤ 5000 ∧ 0 < p ∧ ∀ (q : Addr) (f : Nat → Bool) (H' : Hp), Ext H H' → H' q = some (.lst (mkB n.toNat f)) → H q = none → Q (.ref q) H'
theorem rep_int (n : Nat) (c : Int) : (List.replicate n [V.int c]).flatten = (List.replicate n c).map V.int := by
  induction n with
  | zero => rfl
  | succ n ih => rw [List.replicate_succ, List.flatten_cons, ih, List.replicate_succ]; rfl
noncomputable abbrev s__law_bits : Stmt := top 49
theorem sc__law_bits : FnScope ["_law_cell_here", "_law_many", "_law_prime", "_law_draws_here"] ["_law_cell_here", "_law_many", "_law_prime"] (defScope s__law_bits) := ⟨rfl, rfl, rfl, by decide +kernel, rfl, by decide +kernel, by decide +kernel⟩
theorem ok__law_bits {P : Program} {w : World} {K : PySem.W.Frag} {mg : Str → Option Value} {base : Heap} (D : Dfn K mg "_law_bits" s__law_bits ["_law_cell_here", "_law_many", "_law_prime"]) (T : Blt mg) (C__law_draws : Cal P w K mg base "_law_draws" 2 ["_law_cell_here", "_law_widths", "_law_prime"] (sp__law_draws K)) : Cal P w K mg base "_law_bits" 3 ["_law_cell_here", "_law_many", "_law_prime"] (sp__law_bits K) := by
  have nd := (sc__law_bits).nd
  refine D.ok sc__law_bits (fun vs H Q E h => ?_) (fun X hX H vs Q E h => ?_)
  · obtain ⟨c, n, p, rfl, _⟩ := h; rfl
  · obtain ⟨f, cdv, A, outer, s, H0, E0, rfl, hr⟩ := hX
    obtain ⟨c, n, p, rfl, h0, h1, hp, q⟩ := h
    refine ⟨_, (no_implicit_lambda% (pss_cons (no_implicit_lambda% (ps_if (no_implicit_lambda% (pt_cmpR op_lt (no_implicit_lambda% (pv 1)) pe_int (nomark _))) (no_implicit_lambda% (pss_one (no_implicit_lambda% (ps_ret (no_implicit_lambda% (pe_comp ["_law_bit"] [] (no_implicit_lambda% (pi_listK K (no_implicit_lambda% (pe_cal C__law_draws hr (no_implicit_lambda% (pa_cons (no_implicit_lambda% (pv 0)) (no_implicit_lambda% (pa_cons (no_implicit_lambda% (pe_op op_rep (no_implicit_lambda% (pe_lst (no_implicit_lambda% (pa_cons pe_int pa_nil)))) (no_implicit_lambda% (pv 1)))) (no_implicit_lambda% (pa_cons (no_implicit_lambda% (pv 2)) pa_nil)))))))))) (fun _ => (no_implicit_lambda% (pg_name (i := 0) (show (["_law_bit"] : List Str).Nodup from by decide +kernel) rfl (Or.inl rfl) (Or.inr rfl)))) (fun _ => pcs_nil) (fun _ => (no_implicit_lambda% (pe_cmpR op_eq (no_implicit_lambda% (pv 0)) pe_int (nomark _)))))))))) pss_nil))
        (no_implicit_lambda% (pss_cons (no_implicit_lambda% (ps_set (i := 3) nd rfl (Or.inr rfl) (no_implicit_lambda% (pe_cal C__law_draws hr (no_implicit_lambda% (pa_cons (no_implicit_lambda% (pv 0)) (no_implicit_lambda% (pa_cons (no_implicit_lambda% (pe_lst (no_implicit_lambda% (pa_cons pe_int (no_implicit_lambda% (pa_cons pe_int (no_implicit_lambda% (pa_cons pe_int pa_nil)))))))) (no_implicit_lambda% (pa_cons (no_implicit_lambda% (pv 2)) pa_nil))))))))))
        (no_implicit_lambda% (pss_one (no_implicit_lambda% (ps_ret (no_implicit_lambda% (pe_comp ["_law_x"] [3] (no_implicit_lambda% (pi_range1 rfl T.range_ (no_implicit_lambda% (pa_cons (no_implicit_lambda% (pv 1)) pa_nil)))) (fun _ => (no_implicit_lambda% (pg_name (i := 0) (show (["_law_x", "_law_draws_here"] : List Str).Nodup from by decide +kernel) rfl (Or.inl rfl) (Or.inr rfl)))) (fun _ => pcs_nil) (fun _ => (no_implicit_lambda% (pe_cmpR op_le (no_implicit_lambda% (pe_op op_mod (no_implicit_lambda% (pe_op op_add (no_implicit_lambda% (pe_op op_mul (no_implicit_lambda% (pv 0)) (no_implicit_lambda% (pe_op op_add pe_int (no_implicit_lambda% (pe_ix (ix_listK K) (no_implicit_lambda% (pv 1)) pe_int (fun _ _ => rfl))))))) (no_implicit_lambda% (pe_ix (ix_listK K) (no_implicit_lambda% (pv 1)) pe_int (fun _ _ => rfl))))) pe_int)) (no_implicit_lambda% (pe_ix (ix_listK K) (no_implicit_lambda% (pv 1)) pe_int (fun _ _ => rfl))) (nomark _)))))))))))))), ?_⟩
    walk_at "rd"
    refine ite2 (fun h => ?_) (fun h => ?_)
    · walk_at "rd"
      refine ⟨small_line (by simp), rd_new fun w H1 e1 hw1 hw => ?_⟩
      walk_at "rd"
      refine rd_rep hw1 (by omega) (small_line (by simp; omega)) (rd_new fun w2 H2 e2 hw2 hw2n => ?_)
      walk_at "rd"
      rw [rep_int] at hw2
      refine ⟨c, w2, _, p, rfl, hw2, fun x hx => ?_, by rw [List.length_replicate]; omega, hp, fun q' ds H3 e3 hq3 hn3 hl3 hb3 => ?_⟩
      · rw [List.eq_of_mem_replicate hx]; omega
      rw [List.length_replicate] at hl3
      refine rd_iLx (SqL.of hq3) ?_
      refine comp_list (xs := ds.map V.int) (fun i ys H' => H' = H3 ∧ ys = mkB i fun j => decide (ds.getD j 0 = 1)) (small_line (by rw [List.length_map]; omega)) ⟨rfl, rfl⟩ ?_ ?_ ?_
      · rintro i ys H' _ ⟨rfl, rfl⟩
        exact ⟨SqL.of hq3, by rw [mkB_len]; exact Nat.le_refl _⟩
      · rintro i v ys H' hi ⟨rfl, rfl⟩
        obtain ⟨x, rfl, hx⟩ := map_get hi
        walk_at "rd"
        refine iteT ?_
        walk_at "rd"
        refine ⟨rfl, ?_⟩
        rw [mkB_succ, List.getD_eq_getElem?_getD, hx]
        rfl
      · rintro ys H' p' ⟨rfl, rfl⟩ hn
        have e4 : Ext H H' := (e1.trans e2).trans e3
        refine q p' (fun j => decide (ds.getD j 0 = 1)) _ (e4.trans (ext_upd hn)) ?_ (e4.none hn)
        rw [upd_same, List.length_map, hl3]
    · walk_at "rd"
      refine ⟨small_line (by simp), rd_new fun w H1 e1 hw1 hw => ?_⟩
      walk_at "rd"
      refine ⟨c, w, [96, 97, 96], p, rfl, hw1, by decide, by decide, hp, fun q' ds H3 e3 hq3 hn3 hl3 hb3 => ?_⟩
      obtain ⟨d0, d1, d2, rfl⟩ : ∃ d0 d1 d2, ds = [d0, d1, d2] := by
        match ds, hl3 with
        | [a, b, c], _ => exact ⟨a, b, c, rfl⟩
      have b0 := hb3 0 d0 96 rfl rfl
      have b1 := hb3 1 d1 97 rfl rfl
      have b2 := hb3 2 d2 96 rfl rfl
      walk_at "rd"
      refine rd_i1x (by omega) ?_
      refine comp_range (fun i ys H' => H' = H3 ∧ ys = mkB i fun j => decide (((j : Int) * (1 + d0) + d1) % 97 ≤ d2)) (small_line (by omega)) ⟨rfl, rfl⟩ ?_ ?_ ?_
      · rintro i ys H' _ ⟨rfl, rfl⟩
        rw [mkB_len]; exact Nat.le_refl _
      · rintro i ys H' hi ⟨rfl, rfl⟩
        walk_at "rd"
        refine iteT ?_
        walk_at "rd"
        refine rd_ixL (SqL.of hq3) (v := .int d0) rfl ?_
        walk_at "rd"
        refine rd_ixL (SqL.of hq3) (v := .int d1) rfl ?_
        walk_at "rd"
        refine rd_ixL (SqL.of hq3) (v := .int d2) rfl ?_
        walk_at "rd"
        refine ⟨rfl, ?_⟩
        rw [mkB_succ, Int.zero_add]
      · rintro ys H' p' ⟨rfl, rfl⟩ hn
        have e4 : Ext H H' := e1.trans e3
        exact q p' _ _ (e4.trans (ext_upd hn)) upd_same (e4.none hn)
noncomputable def sp__law_stair_of (K : PySem.W.Frag) : Sp := fun vs H Q _ => ∃ (q : Addr) (b s : Int) (n : Nat) (f : Nat → Bool), vs = [.ref q, .int b, .int s] ∧ 0 ≤ b ∧ 1 ≤ s ∧ b + s ≤ 20000 ∧ H q = some (.lst (mkB n f)) ∧ b + s ≤ n ∧
  ∀ v H', Ext H H' → StAt H' v b s (row f 0 b.toNat) (row f b.toNat s.toNat) → Q v H'
theorem row_step {f : Nat → Bool} {lo i : Nat} {ys : List V} (h : ys = (row f lo i).map V.int) (hf : f (lo + i) = true) : ys ++ [V.int ((lo + i : Nat) : Int)] = (row f lo (i + 1)).map V.int := by
  rw [row_succ, if_pos hf, List.map_append, h]
  rfl
theorem row_skip {f : Nat → Bool} {lo i : Nat} {ys : List V} (h : ys = (row f lo i).map V.int) (hf : f (lo + i) = false) : ys = (row f lo (i + 1)).map V.int := by
  rw [row_succ, if_neg (by rw [hf]; decide), List.append_nil, h]
noncomputable abbrev s__law_stair_of : Stmt := top 50
theorem sc__law_stair_of : FnScope ["_law_bits_here", "_law_base", "_law_step", "_law_once"] ["_law_bits_here", "_law_base", "_law_step"] (defScope s__law_stair_of) := ⟨rfl, rfl, rfl, by decide +kernel, rfl, by decide +kernel, by decide +kernel⟩
theorem ok__law_stair_of {P : Program} {w : World} {K : PySem.W.Frag} {mg : Str → Option Value} {base : Heap} (D : Dfn K mg "_law_stair_of" s__law_stair_of ["_law_bits_here", "_law_base", "_law_step"]) (T : Blt mg) : Cal P w K mg base "_law_stair_of" 1 ["_law_bits_here", "_law_base", "_law_step"] (sp__law_stair_of K) := by
  have nd := (sc__law_stair_of).nd
  refine D.ok sc__law_stair_of (fun vs H Q E h => ?_) (fun X hX H vs Q E h => ?_)
  · obtain ⟨q, b, s, n, f, rfl, _⟩ := h; rfl
  · obtain ⟨f, cdv, A, outer, s, H0, E0, rfl, hr⟩ := hX
    obtain ⟨q', b, s', n, g, rfl, hb, hs, hbs, hq, hn, q⟩ := h
    refine ⟨_, (no_implicit_lambda% (pss_cons (no_implicit_lambda% (ps_set (i := 3) nd rfl (Or.inl rfl) (no_implicit_lambda% (pe_callTy (call_tupK K) rfl T.tuple_ PyProof.Rows.boot_tuple (no_implicit_lambda% (pa_cons (no_implicit_lambda% (pe_comp ["_law_x"] [0] (no_implicit_lambda% (pi_range1 rfl T.range_ (no_implicit_lambda% (pa_cons (no_implicit_lambda% (pv 1)) pa_nil)))) (fun _ => (no_implicit_lambda% (pg_name (i := 0) (show (["_law_x", "_law_bits_here"] : List Str).Nodup from by decide +kernel) rfl (Or.inl rfl) (Or.inr rfl)))) (fun _ => (pcs_one (no_implicit_lambda% (pt_val (no_implicit_lambda% (pe_ix (ix_listK K) (no_implicit_lambda% (pv 1)) (no_implicit_lambda% (pv 0)) (fun _ _ => rfl))))))) (fun _ => (no_implicit_lambda% (pv 0))))) pa_nil))))))
        (no_implicit_lambda% (pss_one (no_implicit_lambda% (ps_ret (no_implicit_lambda% (pe_tup (no_implicit_lambda% (pa_cons (no_implicit_lambda% (pv 1)) (no_implicit_lambda% (pa_cons (no_implicit_lambda% (pv 2)) (no_implicit_lambda% (pa_cons (no_implicit_lambda% (pv 3)) (no_implicit_lambda% (pa_cons (no_implicit_lambda% (pe_callTy (call_tupK K) rfl T.tuple_ PyProof.Rows.boot_tuple (no_implicit_lambda% (pa_cons (no_implicit_lambda% (pe_comp ["_law_x"] [0] (no_implicit_lambda% (pi_range2 rfl T.range_ (no_implicit_lambda% (pa_cons (no_implicit_lambda% (pv 1)) (no_implicit_lambda% (pa_cons (no_implicit_lambda% (pe_op op_add (no_implicit_lambda% (pv 1)) (no_implicit_lambda% (pv 2)))) pa_nil)))))) (fun _ => (no_implicit_lambda% (pg_name (i := 0) (show (["_law_x", "_law_bits_here"] : List Str).Nodup from by decide +kernel) rfl (Or.inl rfl) (Or.inr rfl)))) (fun _ => (pcs_one (no_implicit_lambda% (pt_val (no_implicit_lambda% (pe_ix (ix_listK K) (no_implicit_lambda% (pv 1)) (no_implicit_lambda% (pv 0)) (fun _ _ => rfl))))))) (fun _ => (no_implicit_lambda% (pv 0))))) pa_nil)))) pa_nil)))))))))))))))), ?_⟩
    walk_at "rd"
    refine rd_i1x (by omega) ?_
    refine comp_range (fun i ys H' => H' = H ∧ ys = (row g 0 i).map V.int) (small_line (by omega)) ⟨rfl, rfl⟩ ?_ ?_ ?_
    · rintro i ys H' _ ⟨rfl, rfl⟩
      rw [List.length_map]; exact row_len g 0 i
    · rintro i ys H' hi ⟨rfl, hy⟩
      walk_at "rd"
      refine rd_ixL (SqL.of hq) (mkB_at (by omega) (by omega)) ?_
      walk_at "rd"
      rw [show ((0 : Int) + (i : Int)).toNat = i by omega]
      have e0 : g (0 + i) = g i := by rw [Nat.zero_add]
      cases hg : g i with
      | true =>
        refine iteT ?_
        walk_at "rd"
        refine ⟨rfl, ?_⟩
        rw [← row_step hy (e0.trans hg)]
        congr 3
        all_goals omega
      | false => exact iteF ⟨rfl, row_skip hy (e0.trans hg)⟩
    · rintro ys H' p ⟨rfl, rfl⟩ hp
      walk_at "rd"
      refine rd_tupL (SqL.of upd_same) ?_
      have e1 : Ext H' (upd H' p (.lst ((row g 0 b.toNat).map V.int))) := ext_upd hp
      generalize upd H' p (.lst ((row g 0 b.toNat).map V.int)) = H1 at e1
      refine rd_new fun t1 H2 e2 ht1 _ => ?_
      walk_at "rd"
      refine rd_i2x (by omega) ?_
      rw [show b + s' - b = s' by omega]
      refine comp_range (fun i ys H3 => H3 = H2 ∧ ys = (row g b.toNat i).map V.int) (small_line (by omega)) ⟨rfl, rfl⟩ ?_ ?_ ?_
      · rintro i ys H' _ ⟨rfl, rfl⟩
        rw [List.length_map]; exact row_len g _ i
      · rintro i ys H3 hi ⟨rfl, hy⟩
        walk_at "rd"
        refine rd_ixL (SqL.of (e2 _ _ (e1 _ _ hq))) (mkB_at (by omega) (by omega)) ?_
        walk_at "rd"
        rw [show (b + (i : Int)).toNat = b.toNat + i by omega]
        cases hg : g (b.toNat + i) with
        | true =>
          refine iteT ?_
          walk_at "rd"
          refine ⟨rfl, ?_⟩
          rw [← row_step hy hg]
          congr 3
          all_goals omega
        | false => exact iteF ⟨rfl, row_skip hy hg⟩
      · rintro ys H3 p3 ⟨rfl, rfl⟩ hp3
        walk_at "rd"
        refine rd_tupL (SqL.of upd_same) ?_
        have e3 : Ext H3 (upd H3 p3 (.lst ((row g b.toNat s'.toNat).map V.int))) := ext_upd hp3
        generalize upd H3 p3 (.lst ((row g b.toNat s'.toNat).map V.int)) = H4 at e3
        refine rd_new fun t2 H5 e5 ht2 _ => ?_
        walk_at "rd"
        refine ⟨small_line (by simp), rd_new fun t H6 e6 ht _ => ?_⟩
        exact q _ H6 (e1.trans (e2.trans (e3.trans (e5.trans e6)))) ⟨t, t1, t2, rfl, ht, e6 _ _ (e5 _ _ (e3 _ _ ht1)), e6 _ _ ht2⟩
noncomputable def sp__law_stair_bits (K : PySem.W.Frag) : Sp := fun vs H Q _ => ∃ v n b s o a, vs = [v, .int n] ∧ StAt H v b s o a ∧ Gd b s o a ∧ 0 ≤ n ∧ n ≤ 20000 ∧
  ∀ q H', Ext H H' → H q = none → H' q = some (.lst (mkB n.toNat (fn b s o a))) → Q (.ref q) H'
theorem nRng_up {x n s : Int} (hs : 1 ≤ s) {i : Nat} (h : i < nRng x n s) : x + i * s < n := by
  unfold nRng at h
  rw [if_pos (by omega)] at h
  split at h
  · have h1 : (i : Int) ≤ (n - x - 1) / s := by
      have : 0 ≤ (n - x - 1) / s := Int.ediv_nonneg (by omega) (by omega)
      omega
    have h2 : (i : Int) * s ≤ (n - x - 1) / s * s := Int.mul_le_mul_of_nonneg_right h1 (by omega)
    have h3 := Int.ediv_mul_le (n - x - 1) (b := s) (by omega)
    omega
  · omega
theorem nRng_all {x n s y : Int} (hs : 1 ≤ s) (h1 : x ≤ y) (h2 : y < n) (h3 : (y - x) % s = 0) : ∃ i : Nat, i < nRng x n s ∧ y = x + i * s := by
  have hm := Int.mul_ediv_add_emod (y - x) s
  rw [h3] at hm
  have hq : 0 ≤ (y - x) / s := Int.ediv_nonneg (by omega) (by omega)
  refine ⟨((y - x) / s).toNat, ?_, ?_⟩
  · unfold nRng
    rw [if_pos (by omega), if_pos (by omega)]
    have : (y - x) / s ≤ (n - x - 1) / s := Int.ediv_le_ediv (by omega) (by omega)
    omega
  · rw [Int.toNat_of_nonneg hq, Int.mul_comm]
    omega
noncomputable def stepF (s : Int) (o a : List Int) (y : Nat) : Bool := o.contains (y : Int) || a.any fun x => decide (x ≤ (y : Int)) && ((y : Int) - x) % s == 0
theorem stepF_fn {b s : Int} {o a : List Int} (S : Ok b s o a) (y : Nat) : stepF s o a y = fn b s o a y := marks_mem S (by omega)
noncomputable abbrev s__law_stair_bits : Stmt := top 52
theorem sc__law_stair_bits : FnScope ["_law_stair", "_law_many", "_law_bits_here", "_law_x", "_law_far"] ["_law_stair", "_law_many"] (defScope s__law_stair_bits) := ⟨rfl, rfl, rfl, by decide +kernel, rfl, by decide +kernel, by decide +kernel⟩
theorem ok__law_stair_bits {P : Program} {w : World} {K : PySem.W.Frag} {mg : Str → Option Value} {base : Heap} (D : Dfn K mg "_law_stair_bits" s__law_stair_bits ["_law_stair", "_law_many"]) (T : Blt mg) : Cal P w K mg base "_law_stair_bits" 1 ["_law_stair", "_law_many"] (sp__law_stair_bits K) := by
  have nd := (sc__law_stair_bits).nd
  refine D.ok sc__law_stair_bits (fun vs H Q E h => ?_) (fun X hX H vs Q E h => ?_)
  · obtain ⟨v, n, b, s, o, a, rfl, _⟩ := h; rfl
  · obtain ⟨f, cdv, A, outer, s, H0, E0, rfl, hr⟩ := hX
    obtain ⟨v, n, b, s', o, a, rfl, hv, hg, hn0, hn1, q⟩ := h
    obtain ⟨p, q', r, rfl, h1, h2, h3⟩ := hv
    have hs := hg.ok.hs
    have hs8 := hg.s8
    have hb0 := hg.ok.hb
    have hb3 := hg.b3
    refine ⟨_, (no_implicit_lambda% (pss_cons (no_implicit_lambda% (ps_set (i := 2) nd rfl (Or.inl rfl) (no_implicit_lambda% (pe_op op_rep (no_implicit_lambda% (pe_lst (no_implicit_lambda% (pa_cons pe_bl pa_nil)))) (no_implicit_lambda% (pv 1))))))
        (no_implicit_lambda% (pss_cons (no_implicit_lambda% (ps_for PassesOwn.never rfl (no_implicit_lambda% (pi_tupK K (no_implicit_lambda% (pe_ix (ix_tupK K) (no_implicit_lambda% (pv 0)) pe_int (fun _ _ => rfl))))) (no_implicit_lambda% (pg_name (i := 3) nd rfl (Or.inl rfl))) (no_implicit_lambda% (pss_one (no_implicit_lambda% (ps_ifJ (no_implicit_lambda% (pt_cmpR op_lt (no_implicit_lambda% (pv 3)) (no_implicit_lambda% (pv 1)) (nomark _))) (no_implicit_lambda% (pss_one (no_implicit_lambda% (ps_asg pe_bl (no_implicit_lambda% (pg_sub (no_implicit_lambda% (pv 2)) (no_implicit_lambda% (pv 3)) set_list)))))) pss_nil))))))
        (no_implicit_lambda% (pss_cons (no_implicit_lambda% (ps_for PassesOwn.never rfl (no_implicit_lambda% (pi_tupK K (no_implicit_lambda% (pe_ix (ix_tupK K) (no_implicit_lambda% (pv 0)) pe_int (fun _ _ => rfl))))) (no_implicit_lambda% (pg_name (i := 3) nd rfl (Or.inl rfl))) (no_implicit_lambda% (pss_one (no_implicit_lambda% (ps_for PassesOwn.never rfl (no_implicit_lambda% (pi_range3 rfl T.range_ (no_implicit_lambda% (pa_cons (no_implicit_lambda% (pv 3)) (no_implicit_lambda% (pa_cons (no_implicit_lambda% (pv 1)) (no_implicit_lambda% (pa_cons (no_implicit_lambda% (pe_ix (ix_tupK K) (no_implicit_lambda% (pv 0)) pe_int (fun _ _ => rfl))) pa_nil)))))))) (no_implicit_lambda% (pg_name (i := 4) nd rfl (Or.inl rfl))) (no_implicit_lambda% (pss_one (no_implicit_lambda% (ps_asg pe_bl (no_implicit_lambda% (pg_sub (no_implicit_lambda% (pv 2)) (no_implicit_lambda% (pv 4)) set_list))))))))))))
        (no_implicit_lambda% (pss_one (no_implicit_lambda% (ps_ret (no_implicit_lambda% (pv 2)))))))))))), ?_⟩
    walk_at "rd"
    refine ⟨small_line (by simp), rd_new fun m H1 e1 hm _ => ?_⟩
    walk_at "rd"
    refine rd_rep hm (by omega) (small_line (by simp; omega)) (rd_new fun m2 H2 e2 hm2 hn2 => ?_)
    rw [mkB_rep] at hm2
    have e12 : Ext H H2 := e1.trans e2
    have hmn : H m2 = none := e1.none hn2
    walk_at "rd"
    refine rd_ixT (SqT.of (e12 _ _ h1)) rfl ?_
    walk_at "rd"
    refine rd_iTx (SqT.of (e12 _ _ h2)) ?_
    refine forT (xs := o.map V.int) (fun i σ H' => Ext H H' ∧ ∃ x, σ = [some (.ref p), some (.int n), some (.ref m2), x, none] ∧ H' m2 = some (.lst (mkB n.toNat fun y => (o.take i).contains (y : Int))))
      ⟨e12, none, rfl, by simpa using hm2⟩ (fun i σ H' _ h => SqT.of (h.1 _ _ h2)) ?_ ?_
    · rintro i v' σ H' hi ⟨e, x, rfl, hm'⟩
      obtain ⟨z, rfl, hz⟩ := map_get hi
      have hz0 := (hg.ok.ho.2 z (List.mem_of_getElem? hz))
      have htake : o.take (i + 1) = o.take i ++ [z] := by rw [List.take_add_one, hz]; rfl
      walk_at "rd"
      refine rd_ifJ (fun σ' H' => Ext H H' ∧ ∃ x, σ' = [some (.ref p), some (.int n), some (.ref m2), x, none] ∧ H' m2 = some (.lst (mkB n.toNat fun y => (o.take (i + 1)).contains (y : Int)))) ?_ (fun _ _ h => h)
      walk_at "rd"
      by_cases hzn : z < n
      · rw [decide_eq_true hzn]
        refine iteT ?_
        walk_at "rd"
        refine rd_setL hm' (ixN_of (by omega) (by rw [mkB_len]; omega)) ?_
        rw [mkB_set _ _ (by omega)]
        refine ⟨ext_write e hmn, _, rfl, ?_⟩
        rw [upd_same]
        congr 2
        refine mkB_congr fun y hy => ?_
        rw [htake, List.contains_append]
        by_cases hyz : y = z.toNat
        · rw [if_pos hyz]
          have : (y : Int) = z := by omega
          rw [this]
          simp
        · rw [if_neg hyz]
          have : [z].contains (y : Int) = false := by
            rw [Bool.eq_false_iff]
            intro hc
            rw [List.contains_iff_mem, List.mem_singleton] at hc
            omega
          rw [this, Bool.or_false]
      · rw [decide_eq_false hzn]
        refine iteF ?_
        walk_at "rd"
        refine ⟨e, _, rfl, ?_⟩
        rw [hm']
        congr 2
        refine mkB_congr fun y hy => ?_
        rw [htake, List.contains_append]
        have : [z].contains (y : Int) = false := by
          rw [Bool.eq_false_iff]
          intro hc
          rw [List.contains_iff_mem, List.mem_singleton] at hc
          omega
        rw [this, Bool.or_false]
    · rintro σ H3 ⟨e3, x, rfl, hm3⟩
      rw [List.length_map, List.take_length] at hm3
      walk_at "rd"
      refine rd_ixT (SqT.of (e3 _ _ h1)) rfl ?_
      walk_at "rd"
      refine rd_iTx (SqT.of (e3 _ _ h3)) ?_
      refine forT (xs := a.map V.int) (fun i σ H' => Ext H H' ∧ ∃ x y, σ = [some (.ref p), some (.int n), some (.ref m2), x, y] ∧ H' m2 = some (.lst (mkB n.toNat (stepF s' o (a.take i)))))
        ⟨e3, _, _, rfl, by rw [hm3]; congr 2; exact mkB_congr fun y _ => by simp [stepF]⟩ (fun i σ H' _ h => SqT.of (h.1 _ _ h3)) ?_ ?_
      · rintro i v' σ H' hi ⟨e, x, y, rfl, hm'⟩
        obtain ⟨z, rfl, hz⟩ := map_get hi
        have hz0 := (hg.ok.ha.2 z (List.mem_of_getElem? hz))
        have htake : a.take (i + 1) = a.take i ++ [z] := by rw [List.take_add_one, hz]; rfl
        walk_at "rd"
        refine rd_ixT (SqT.of (e _ _ h1)) rfl ?_
        walk_at "rd"
        refine rd_i3x (by unfold SmallR; omega) ?_
        refine forS (fun j σ H' => Ext H H' ∧ ∃ y, σ = [some (.ref p), some (.int n), some (.ref m2), some (.int z), y] ∧ H' m2 = some (.lst (mkB n.toNat fun y => stepF s' o (a.take i) y || (List.range j).any fun k => decide ((y : Int) = z + (k : Nat) * s'))))
          ⟨e, _, rfl, by rw [hm']; congr 2; exact mkB_congr fun y _ => by simp⟩ ?_ ?_
        · rintro j σ H'' hj ⟨e', y', rfl, hm''⟩
          have hlt := nRng_up hs hj
          have hge : 0 ≤ (j : Int) * s' := Int.mul_nonneg (by omega) (by omega)
          walk_at "rd"
          refine rd_setL hm'' (ixN_of (by omega) (by rw [mkB_len]; omega)) ?_
          rw [mkB_set _ _ (by omega)]
          refine ⟨ext_write e' hmn, _, rfl, ?_⟩
          rw [upd_same]
          congr 2
          refine mkB_congr fun y hy => ?_
          rw [List.range_succ, List.any_append]
          by_cases hyz : y = (z + (j : Int) * s').toNat
          · rw [if_pos hyz]
            have : (y : Int) = z + (j : Nat) * s' := by omega
            simp [this]
          · rw [if_neg hyz]
            have : (List.any [j] fun k => decide ((y : Int) = z + (k : Nat) * s')) = false := by
              simp
              omega
            rw [this, Bool.or_false]
        · rintro σ H'' ⟨e', y', rfl, hm''⟩
          refine ⟨e', _, _, rfl, ?_⟩
          rw [hm'']
          congr 2
          refine mkB_congr fun y hy => ?_
          rw [htake]
          unfold stepF
          rw [List.any_append, Bool.or_assoc]
          congr 2
          rw [Bool.eq_iff_iff, List.any_eq_true]
          simp only [List.mem_range, decide_eq_true_eq, List.any_cons, List.any_nil, Bool.or_false, Bool.and_eq_true, beq_iff_eq]
          constructor
          · rintro ⟨k, hk, hy'⟩
            have hge : 0 ≤ (k : Int) * s' := Int.mul_nonneg (by omega) (by omega)
            refine ⟨by omega, ?_⟩
            rw [show (y : Int) - z = s' * (k : Int) by rw [Int.mul_comm]; omega]
            exact Int.mul_emod_right _ _
          · rintro ⟨hy1, hy2⟩
            obtain ⟨k, hk1, hk2⟩ := nRng_all (n := n) hs hy1 (by omega) hy2
            exact ⟨k, hk1, hk2⟩
      · rintro σ H4 ⟨e4, x', y', rfl, hm4⟩
        rw [List.length_map, List.take_length] at hm4
        walk_at "rd"
        refine q m2 H4 e4 hmn ?_
        rw [hm4]
        congr 2
        exact mkB_congr fun y _ => stepF_fn hg.ok y
theorem row_gd {f : Nat → Bool} {b s : Int} (h0 : 0 ≤ b) (h1 : 1 ≤ s) (h2 : b ≤ 3000) (h3 : s ≤ 840) : Gd b s (row f 0 b.toNat) (row f b.toNat s.toNat) := by
  have := row_ok f b.toNat s.toNat (by omega)
  rw [Int.toNat_of_nonneg h0, Int.toNat_of_nonneg (by omega)] at this
  exact ⟨this, h2, h3⟩
theorem atI_mem {α : Type} {xs : List α} {i : Int} (h0 : 0 ≤ i) (h : i < xs.length) : ∃ v, v ∈ xs ∧ atI xs i = some v := by
  have hi : i.toNat < xs.length := by omega
  exact ⟨xs[i.toNat], List.getElem_mem hi, atI_of h0 (List.getElem?_eq_getElem hi)⟩
theorem menu_step {v : V} (h : v ∈ [V.int 840, V.int 420, V.int 280, V.int 210, V.int 168, V.int 140, V.int 120, V.int 105, V.int 84, V.int 70, V.int 60, V.int 56, V.int 42, V.int 30]) : ∃ z, v = .int z ∧ 1 ≤ z ∧ z ≤ 840 := by
  simp only [List.mem_cons, List.not_mem_nil, or_false] at h
  rcases h with h | h | h | h | h | h | h | h | h | h | h | h | h | h <;> exact ⟨_, h, by decide, by decide⟩
theorem down_turn {lo hi : Int} {i : Nat} (h : i < nRng lo hi (-1)) : hi < lo + i * (-1) := by
  unfold nRng at h
  rw [if_neg (by decide)] at h
  split at h
  · rename_i h2
    have : (lo - hi - 1) / (- -1) = lo - hi - 1 := by rw [show (- -1 : Int) = 1 by decide, Int.ediv_one]
    rw [this] at h
    omega
  · omega
theorem nine {ds : List Int} (h : ds.length = 9) : ∃ a b c d e f g h i, ds = [a, b, c, d, e, f, g, h, i] := by
  match ds, h with
  | [a, b, c, d, e, f, g, h, i], _ => exact ⟨a, b, c, d, e, f, g, h, i, rfl⟩
noncomputable def sp__law_some_stair (K : PySem.W.Frag) : Sp := fun vs H Q _ => ∃ c p, vs = [.int c, .int p] ∧ 0 < p ∧ ∀ v b s o a H', Ext H H' → StAt H' v b s o a → Gd b s o a → Q v H'
noncomputable abbrev s__law_some_stair : Stmt := top 51
theorem sc__law_some_stair : FnScope ["_law_cell_here", "_law_prime", "_law_draws_here", "_law_base", "_law_step", "_law_bits_here", "_law_part", "_law_x"] ["_law_cell_here", "_law_prime"] (defScope s__law_some_stair) := ⟨rfl, rfl, rfl, by decide +kernel, rfl, by decide +kernel, by decide +kernel⟩
theorem ok__law_some_stair {P : Program} {w : World} {K : PySem.W.Frag} {mg : Str → Option Value} {base : Heap} (D : Dfn K mg "_law_some_stair" s__law_some_stair ["_law_cell_here", "_law_prime"]) (T : Blt mg) (C__law_stair_of : Cal P w K mg base "_law_stair_of" 1 ["_law_bits_here", "_law_base", "_law_step"] (sp__law_stair_of K)) (C__law_bits : Cal P w K mg base "_law_bits" 3 ["_law_cell_here", "_law_many", "_law_prime"] (sp__law_bits K)) (C__law_spare : Cal P w K mg base "_law_spare" 1 ["_law_cell_here", "_law_width"] (sp__law_spare K)) (C__law_draws : Cal P w K mg base "_law_draws" 2 ["_law_cell_here", "_law_widths", "_law_prime"] (sp__law_draws K)) : Cal P w K mg base "_law_some_stair" 4 ["_law_cell_here", "_law_prime"] (sp__law_some_stair K) := by
  have nd := (sc__law_some_stair).nd
  refine D.ok sc__law_some_stair (fun vs H Q E h => ?_) (fun X hX H vs Q E h => ?_)
  · obtain ⟨c, p, rfl, _⟩ := h; rfl
  · obtain ⟨f, cdv, A, outer, s, H0, E0, rfl, hr⟩ := hX
    obtain ⟨c, p, rfl, hp, q⟩ := h
    refine ⟨_, (no_implicit_lambda% (pss_cons (no_implicit_lambda% (ps_set (i := 2) nd rfl (Or.inl rfl) (no_implicit_lambda% (pe_cal C__law_draws hr (no_implicit_lambda% (pa_cons (no_implicit_lambda% (pv 0)) (no_implicit_lambda% (pa_cons (no_implicit_lambda% (pe_lst (no_implicit_lambda% (pa_ints (.c (.c (.c (.c (.c (.c (.c (.c (.c .n))))))))))))) (no_implicit_lambda% (pa_cons (no_implicit_lambda% (pv 1)) pa_nil))))))))))
        (no_implicit_lambda% (pss_cons (no_implicit_lambda% (ps_set (i := 3) nd rfl (Or.inr rfl) (no_implicit_lambda% (pe_ix (ix_listK K) (no_implicit_lambda% (pv 2)) pe_int (fun _ _ => rfl)))))
        (no_implicit_lambda% (pss_cons (no_implicit_lambda% (ps_ifJ (no_implicit_lambda% (pt_cmpR op_gt (no_implicit_lambda% (pe_ix (ix_listK K) (no_implicit_lambda% (pv 2)) pe_int (fun _ _ => rfl))) pe_int (nomark _))) (no_implicit_lambda% (pss_one (no_implicit_lambda% (ps_set (i := 3) nd rfl (Or.inr rfl) (no_implicit_lambda% (pe_ix (ix_listK K) (no_implicit_lambda% (pv 2)) (no_implicit_lambda% (pe_op op_add pe_int (no_implicit_lambda% (pe_callTy call_intN rfl T.int_ PyProof.Rows.boot_int (no_implicit_lambda% (pa_cons (no_implicit_lambda% (pe_cmpR op_eq (no_implicit_lambda% (pe_ix (ix_listK K) (no_implicit_lambda% (pv 2)) pe_int (fun _ _ => rfl))) pe_int (nomark _))) pa_nil)))))) (fun _ _ => rfl))))))) pss_nil))
        (no_implicit_lambda% (pss_cons (no_implicit_lambda% (ps_set (i := 4) nd rfl (Or.inr rfl) (no_implicit_lambda% (pe_op op_add pe_int (no_implicit_lambda% (pe_ix (ix_listK K) (no_implicit_lambda% (pv 2)) pe_int (fun _ _ => rfl)))))))
        (no_implicit_lambda% (pss_cons (no_implicit_lambda% (ps_ifJ (no_implicit_lambda% (pt_cmpR op_eq (no_implicit_lambda% (pe_ix (ix_listK K) (no_implicit_lambda% (pv 2)) pe_int (fun _ _ => rfl))) pe_int (nomark _))) (no_implicit_lambda% (pss_one (no_implicit_lambda% (ps_set (i := 4) nd rfl (Or.inr rfl) (no_implicit_lambda% (pe_op op_add pe_int (no_implicit_lambda% (pe_ix (ix_listK K) (no_implicit_lambda% (pv 2)) pe_int (fun _ _ => rfl))))))))) pss_nil))
        (no_implicit_lambda% (pss_cons (no_implicit_lambda% (ps_ifJ (no_implicit_lambda% (pt_cmpR op_eq (no_implicit_lambda% (pe_ix (ix_listK K) (no_implicit_lambda% (pv 2)) pe_int (fun _ _ => rfl))) pe_int (nomark _))) (no_implicit_lambda% (@ps_menu _ K 4 _ _ _ _ _ _ _ _ _ nd rfl (Or.inr rfl) (.c (.c (.c (.c (.c (.c (.c (.c (.c (.c (.c (.c (.c (.c .n)))))))))))))) (no_implicit_lambda% (pe_ix (ix_listK K) (no_implicit_lambda% (pv 2)) pe_int (fun _ _ => rfl))) (fun _ _ => rfl) rfl rfl (Or.inl rfl))) pss_nil))
        (no_implicit_lambda% (pss_cons (no_implicit_lambda% (ps_set (i := 5) nd rfl (Or.inr rfl) (no_implicit_lambda% (pe_cal C__law_bits hr (no_implicit_lambda% (pa_cons (no_implicit_lambda% (pe_cal C__law_spare hr (no_implicit_lambda% (pa_cons (no_implicit_lambda% (pv 0)) (no_implicit_lambda% (pa_cons pe_int pa_nil)))))) (no_implicit_lambda% (pa_cons (no_implicit_lambda% (pe_op op_add (no_implicit_lambda% (pv 3)) (no_implicit_lambda% (pv 4)))) (no_implicit_lambda% (pa_cons (no_implicit_lambda% (pv 1)) pa_nil))))))))))
        (no_implicit_lambda% (pss_cons (no_implicit_lambda% (ps_ifJ (no_implicit_lambda% (pt_cmpR op_eq (no_implicit_lambda% (pe_ix (ix_listK K) (no_implicit_lambda% (pv 2)) pe_int (fun _ _ => rfl))) pe_int (nomark _))) (no_implicit_lambda% (pss_one (no_implicit_lambda% (ps_set (i := 5) nd rfl (Or.inr rfl) (no_implicit_lambda% (pe_op op_rep (no_implicit_lambda% (pe_lst (no_implicit_lambda% (pa_cons pe_bl pa_nil)))) (no_implicit_lambda% (pe_op op_add (no_implicit_lambda% (pv 3)) (no_implicit_lambda% (pv 4)))))))))) pss_nil))
        (no_implicit_lambda% (pss_cons (no_implicit_lambda% (ps_ifJ (no_implicit_lambda% (pt_cmpR op_eq (no_implicit_lambda% (pe_ix (ix_listK K) (no_implicit_lambda% (pv 2)) pe_int (fun _ _ => rfl))) pe_int (nomark _))) (no_implicit_lambda% (pss_one (no_implicit_lambda% (ps_set (i := 5) nd rfl (Or.inr rfl) (no_implicit_lambda% (pe_op op_rep (no_implicit_lambda% (pe_lst (no_implicit_lambda% (pa_cons pe_bl pa_nil)))) (no_implicit_lambda% (pe_op op_add (no_implicit_lambda% (pv 3)) (no_implicit_lambda% (pv 4)))))))))) pss_nil))
        (no_implicit_lambda% (pss_cons (no_implicit_lambda% (ps_ifJ (no_implicit_lambda% (pt_cmpR op_eq (no_implicit_lambda% (pe_ix (ix_listK K) (no_implicit_lambda% (pv 2)) pe_int (fun _ _ => rfl))) pe_int (nomark _))) (no_implicit_lambda% (pss_cons (no_implicit_lambda% (ps_set (i := 6) nd rfl (Or.inr rfl) (no_implicit_lambda% (pe_callB (call_maxLK K rfl) rfl T.max_ PyProof.Rows.boot_max (no_implicit_lambda% (pa_cons (no_implicit_lambda% (pe_op op_cat (no_implicit_lambda% (pe_lst (no_implicit_lambda% (pa_cons pe_int pa_nil)))) (no_implicit_lambda% (pe_comp ["_law_by"] [4] (no_implicit_lambda% (pi_range2 rfl T.range_ (no_implicit_lambda% (pa_cons pe_int (no_implicit_lambda% (pa_cons (no_implicit_lambda% (pv 4)) pa_nil)))))) (fun _ => (no_implicit_lambda% (pg_name (i := 0) (show (["_law_by", "_law_step"] : List Str).Nodup from by decide +kernel) rfl (Or.inl rfl) (Or.inr rfl)))) (fun _ => (pcs_one (no_implicit_lambda% (pt_cmpR op_eq (no_implicit_lambda% (pe_op op_mod (no_implicit_lambda% (pv 1)) (no_implicit_lambda% (pv 0)))) pe_int (nomark _))))) (fun _ => (no_implicit_lambda% (pv 0))))))) pa_nil))))))
        (no_implicit_lambda% (pss_one (no_implicit_lambda% (ps_set (i := 5) nd rfl (Or.inr rfl) (no_implicit_lambda% (pe_op op_cat (no_implicit_lambda% (pe_slice (sl_listK K) (no_implicit_lambda% (pv 5)) po_none (po_some (no_implicit_lambda% (pv 3))))) (no_implicit_lambda% (pe_comp ["_law_k"] [5, 3, 6] (no_implicit_lambda% (pi_range1 rfl T.range_ (no_implicit_lambda% (pa_cons (no_implicit_lambda% (pv 4)) pa_nil)))) (fun _ => (no_implicit_lambda% (pg_name (i := 0) (show (["_law_k", "_law_bits_here", "_law_base", "_law_part"] : List Str).Nodup from by decide +kernel) rfl (Or.inl rfl) (Or.inr rfl)))) (fun _ => pcs_nil) (fun _ => (no_implicit_lambda% (pe_ix (ix_listK K) (no_implicit_lambda% (pv 1)) (no_implicit_lambda% (pe_op op_add (no_implicit_lambda% (pv 2)) (no_implicit_lambda% (pe_op op_mod (no_implicit_lambda% (pv 0)) (no_implicit_lambda% (pv 3)))))) (fun _ _ => rfl)))))))))))))) pss_nil))
        (no_implicit_lambda% (pss_cons (no_implicit_lambda% (ps_ifJ (no_implicit_lambda% (pt_cmpR op_eq (no_implicit_lambda% (pe_ix (ix_listK K) (no_implicit_lambda% (pv 2)) pe_int (fun _ _ => rfl))) pe_int (nomark _))) (no_implicit_lambda% (pss_one (no_implicit_lambda% (ps_for PassesOwn.never rfl (no_implicit_lambda% (pi_range3 rfl T.range_ (no_implicit_lambda% (pa_cons (no_implicit_lambda% (pe_op op_sub (no_implicit_lambda% (pv 3)) pe_int)) (no_implicit_lambda% (pa_cons (no_implicit_lambda% (pe_op op_sub (no_implicit_lambda% (pe_op op_fdivL (no_implicit_lambda% (pv 3)) pe_int)) pe_int)) (no_implicit_lambda% (pa_cons (no_implicit_lambda% (pe_un un_neg pe_int)) pa_nil)))))))) (no_implicit_lambda% (pg_name (i := 7) nd rfl (Or.inl rfl))) (no_implicit_lambda% (pss_one (no_implicit_lambda% (ps_asg (no_implicit_lambda% (pe_ix (ix_listK K) (no_implicit_lambda% (pv 5)) (no_implicit_lambda% (pe_op op_add (no_implicit_lambda% (pv 7)) (no_implicit_lambda% (pv 4)))) (fun _ _ => rfl))) (no_implicit_lambda% (pg_sub (no_implicit_lambda% (pv 5)) (no_implicit_lambda% (pv 7)) set_list)))))))))) pss_nil))
        (no_implicit_lambda% (pss_cons (no_implicit_lambda% (ps_ifJ (no_implicit_lambda% (pt_cmpR op_eq (no_implicit_lambda% (pe_ix (ix_listK K) (no_implicit_lambda% (pv 2)) pe_int (fun _ _ => rfl))) pe_int (nomark _))) (no_implicit_lambda% (pss_one (no_implicit_lambda% (ps_set (i := 5) nd rfl (Or.inr rfl) (no_implicit_lambda% (pe_op op_cat (no_implicit_lambda% (pe_slice (sl_listK K) (no_implicit_lambda% (pv 5)) po_none (po_some (no_implicit_lambda% (pv 3))))) (no_implicit_lambda% (pe_op op_rep (no_implicit_lambda% (pe_lst (no_implicit_lambda% (pa_cons pe_bl pa_nil)))) (no_implicit_lambda% (pv 4)))))))))) pss_nil))
        (no_implicit_lambda% (pss_one (no_implicit_lambda% (ps_ret (no_implicit_lambda% (pe_cal C__law_stair_of hr (no_implicit_lambda% (pa_cons (no_implicit_lambda% (pv 5)) (no_implicit_lambda% (pa_cons (no_implicit_lambda% (pv 3)) (no_implicit_lambda% (pa_cons (no_implicit_lambda% (pv 4)) pa_nil)))))))))))))))))))))))))))))))))))), ?_⟩
    walk_at "rd"
    refine ⟨small_line (by simp), rd_new fun w H1 e1 hw1 hw => ?_⟩
    walk_at "rd"
    refine ⟨c, w, [8, 13, 61, 3001, 8, 12, 60, 14, 6], p, rfl, hw1, by decide, by decide, hp, fun dq ds H2 e2 hd hdn hl hbd => ?_⟩
    obtain ⟨d0, d1, d2, d3, d4, d5, d6, d7, d8, rfl⟩ := nine hl
    have b0 := hbd 0 _ _ rfl rfl
    have b1 := hbd 1 _ _ rfl rfl
    have b2 := hbd 2 _ _ rfl rfl
    have b3 := hbd 3 _ _ rfl rfl
    have b4 := hbd 4 _ _ rfl rfl
    have b5 := hbd 5 _ _ rfl rfl
    have b6 := hbd 6 _ _ rfl rfl
    have b7 := hbd 7 _ _ rfl rfl
    have b8 := hbd 8 _ _ rfl rfl
    have eH : Ext H H2 := e1.trans e2
    walk_at "rd"
    refine rd_ixL (SqL.of hd) (v := .int d1) rfl ?_
    walk_at "rd"
    refine rd_ifJ (fun σ' H' => H' = H2 ∧ ∃ b, σ' = [some (.int c), some (.int p), some (.ref dq), some (.int b), none, none, none, none] ∧ 0 ≤ b ∧ b ≤ 3000) ?_ ?_
    · walk_at "rd"
      refine rd_ixL (SqL.of hd) (v := .int d0) rfl ?_
      walk_at "rd"
      refine ite2 (fun h => ?_) (fun h => ?_)
      · walk_at "rd"
        refine rd_ixL (SqL.of hd) (v := .int d0) rfl ?_
        walk_at "rd"
        cases hd0 : decide (d0 = 7) with
        | true =>
          refine rd_ixL (SqL.of hd) (v := .int d3) rfl ?_
          walk_at "rd"
          exact ⟨rfl, d3, rfl, by omega, by omega⟩
        | false =>
          refine rd_ixL (SqL.of hd) (v := .int d2) rfl ?_
          walk_at "rd"
          exact ⟨rfl, d2, rfl, by omega, by omega⟩
      · walk_at "rd"
        exact ⟨rfl, d1, rfl, by omega, by omega⟩
    rintro σ' H' ⟨rfl, b, rfl, hb0, hb1⟩
    walk_at "rd"
    refine rd_ixL (SqL.of hd) (v := .int d5) rfl ?_
    walk_at "rd"
    refine rd_ifJ (fun σ' H'' => H'' = H' ∧ ∃ s, σ' = [some (.int c), some (.int p), some (.ref dq), some (.int b), some (.int s), none, none, none] ∧ 1 ≤ s ∧ s ≤ 840) ?_ ?_
    · walk_at "rd"
      refine rd_ixL (SqL.of hd) (v := .int d4) rfl ?_
      walk_at "rd"
      refine ite2 (fun h => ?_) (fun h => ?_)
      · walk_at "rd"
        refine rd_ixL (SqL.of hd) (v := .int d6) rfl ?_
        walk_at "rd"
        exact ⟨rfl, _, rfl, by omega, by omega⟩
      · walk_at "rd"
        exact ⟨rfl, _, rfl, by omega, by omega⟩
    rintro σ' H'' ⟨rfl, s1, rfl, hs0, hs1⟩
    walk_at "rd"
    refine rd_ifJ (fun σ' H' => Ext H'' H' ∧ ∃ s, σ' = [some (.int c), some (.int p), some (.ref dq), some (.int b), some (.int s), none, none, none] ∧ 1 ≤ s ∧ s ≤ 840) ?_ ?_
    · walk_at "rd"
      refine rd_ixL (SqL.of hd) (v := .int d4) rfl ?_
      walk_at "rd"
      refine ite2 (fun h => ?_) (fun h => ?_)
      · walk_at "rd"
        refine ⟨small_line (by simp), rd_new fun m H3 e3 hm _ => ?_⟩
        walk_at "rd"
        refine rd_ixL (SqL.of (e3 _ _ hd)) (v := .int d7) rfl ?_
        obtain ⟨v, hv, hat⟩ := atI_mem (xs := [V.int 840, V.int 420, V.int 280, V.int 210, V.int 168, V.int 140, V.int 120, V.int 105, V.int 84, V.int 70, V.int 60, V.int 56, V.int 42, V.int 30]) (i := d7) (by omega) (by simp; omega)
        obtain ⟨z, rfl, hz0, hz1⟩ := menu_step hv
        refine rd_ixL (SqL.of hm) hat ?_
        walk_at "rd"
        exact ⟨e3, _, rfl, hz0, hz1⟩
      · walk_at "rd"
        exact ⟨fun _ _ h => h, _, rfl, hs0, hs1⟩
    clear hs0 hs1 s1
    rintro σ' H3 ⟨e3, s', rfl, hs0, hs1⟩
    clear b0 b1 b2 b3 b4 b5 b6 b7 b8 hbd
    have hd3 := e3 _ _ hd
    walk_at "rd"
    refine ⟨c, 9211512360960, rfl, by decide, by decide, fun z => ?_⟩
    walk_at "rd"
    refine ⟨z, b + s', p, rfl, by omega, by omega, hp, fun bq f H4 e4 hq4 hqn => ?_⟩
    have hd4 := e4 _ _ hd3
    have en4 : Ext H H4 := (eH.trans e3).trans e4
    -- from here on: the draws stand at dq, the bits somewhere that was free
    have hn0 : (b + s').toNat = b.toNat + s'.toNat := by omega
    walk_at "rd"
    refine rd_ifJ (fun σ' H' => Ext H3 H' ∧ ∃ (bq : Addr) (f : Nat → Bool), σ' = [some (.int c), some (.int p), some (.ref dq), some (.int b), some (.int s'), some (.ref bq), none, none] ∧ H3 bq = none ∧ H' bq = some (.lst (mkB (b + s').toNat f))) ?_ ?_
    · walk_at "rd"
      refine rd_ixL (SqL.of hd4) (v := .int d8) rfl ?_
      walk_at "rd"
      refine ite2 (fun h => ?_) (fun h => ?_)
      · walk_at "rd"
        refine ⟨small_line (by simp), rd_new fun m H5 e5 hm _ => ?_⟩
        walk_at "rd"
        refine rd_rep hm (by omega) (small_line (by simp; omega)) (rd_new fun m2 H6 e6 hm2 hn2 => ?_)
        walk_at "rd"
        rw [mkB_rep] at hm2
        exact ⟨e4.trans (e5.trans e6), m2, _, rfl, (e4.trans e5).none hn2, hm2⟩
      · walk_at "rd"
        exact ⟨e4, bq, f, rfl, hqn, hq4⟩
    clear hq4 hqn en4 hd4 e4
    rintro σ' H5 ⟨e5, bq, f, rfl, hqn, hq5⟩
    walk_at "rd"
    refine rd_ifJ (fun σ' H' => Ext H3 H' ∧ ∃ (bq : Addr) (f : Nat → Bool), σ' = [some (.int c), some (.int p), some (.ref dq), some (.int b), some (.int s'), some (.ref bq), none, none] ∧ H3 bq = none ∧ H' bq = some (.lst (mkB (b + s').toNat f))) ?_ ?_
    · walk_at "rd"
      refine rd_ixL (SqL.of (e5 _ _ hd3)) (v := .int d8) rfl ?_
      walk_at "rd"
      refine ite2 (fun h => ?_) (fun h => ?_)
      · walk_at "rd"
        refine ⟨small_line (by simp), rd_new fun m H6 e6 hm _ => ?_⟩
        walk_at "rd"
        refine rd_rep hm (by omega) (small_line (by simp; omega)) (rd_new fun m2 H7 e7 hm2 hn2 => ?_)
        walk_at "rd"
        rw [mkB_rep] at hm2
        exact ⟨e5.trans (e6.trans e7), m2, _, rfl, (e5.trans e6).none hn2, hm2⟩
      · walk_at "rd"
        exact ⟨e5, bq, f, rfl, hqn, hq5⟩
    clear hq5 hqn e5 bq f H5
    rintro σ' H5 ⟨e5, bq, f, rfl, hqn, hq5⟩
    walk_at "rd"
    refine rd_ifJ (fun σ' H' => Ext H3 H' ∧ ∃ (bq : Addr) (f : Nat → Bool) (pt : Option V), σ' = [some (.int c), some (.int p), some (.ref dq), some (.int b), some (.int s'), some (.ref bq), pt, none] ∧ H3 bq = none ∧ H' bq = some (.lst (mkB (b + s').toNat f))) ?_ ?_
    · walk_at "rd"
      refine rd_ixL (SqL.of (e5 _ _ hd3)) (v := .int d8) rfl ?_
      walk_at "rd"
      refine ite2 (fun h => ?_) (fun h => ?_)
      · walk_at "rd"
        refine ⟨small_line (by simp), rd_new fun m H6 e6 hm _ => ?_⟩
        walk_at "rd"
        refine rd_i2x (by omega) ?_
        refine comp_range (fun i ys H' => H' = H6 ∧ ∃ ns : List Int, ys = ns.map V.int ∧ ns.length ≤ i ∧ ∀ x ∈ ns, 1 ≤ x) (small_line (by omega)) ⟨rfl, [], rfl, Nat.le_refl _, by simp⟩ ?_ ?_ ?_
        · rintro i ys H' _ ⟨rfl, ns, rfl, hl', _⟩
          rw [List.length_map]; exact hl'
        · rintro i ys H' hi ⟨rfl, ns, rfl, hl', h1⟩
          walk_at "rd"
          refine ite2 (fun h => ?_) (fun h => ?_)
          · walk_at "rd"
            refine ⟨rfl, ns ++ [1 + (i : Int)], by rw [List.map_append]; rfl, by rw [List.length_append]; simp; omega, fun x hx => ?_⟩
            rcases List.mem_append.mp hx with hx | hx
            · exact h1 x hx
            · have := List.mem_singleton.mp hx; omega
          · exact ⟨rfl, ns, rfl, by omega, h1⟩
        · rintro ys H' p' ⟨rfl, ns, rfl, hl', h1⟩ hn
          have e7 : Ext H' (upd H' p' (.lst (ns.map V.int))) := ext_upd hn
          have hp' : (upd H' p' (.lst (ns.map V.int))) p' = some (.lst (ns.map V.int)) := upd_same
          generalize upd H' p' (.lst (ns.map V.int)) = H7 at e7 hp'
          refine rd_cat (e7 _ _ hm) hp' (small_line (by simp; omega)) (rd_new fun m3 H8 e8 hm3 _ => ?_)
          walk_at "rd"
          refine ⟨m3, 1 :: ns, rfl, SqL.of hm3, by simp, fun M hM _ => ?_⟩
          have hM1 : 1 ≤ M := by
            rcases List.mem_cons.mp hM with rfl | hM
            · decide
            · exact h1 M hM
          have e58 : Ext H3 H8 := e5.trans (e6.trans (e7.trans e8))
          have hq8 := e8 _ _ (e7 _ _ (e6 _ _ hq5))
          walk_at "rd"
          refine rd_slL (SqL.of hq8) (rd_new fun m4 H9 e9 hm4 _ => ?_)
          rw [mkB_cut hb0 (by omega)] at hm4
          walk_at "rd"
          refine rd_i1x (by omega) ?_
          refine comp_range (fun i ys H' => H' = H9 ∧ ys = mkB i fun k => f (b + (k : Int) % M).toNat) (small_line (by omega)) ⟨rfl, rfl⟩ ?_ ?_ ?_
          · rintro i ys H' _ ⟨rfl, rfl⟩
            rw [mkB_len]; exact Nat.le_refl _
          · rintro i ys H' hi ⟨rfl, rfl⟩
            have r0 : 0 ≤ (i : Int) % M := Int.emod_nonneg _ (by omega)
            have r1 : (i : Int) % M ≤ i := by
              have h1 := Int.mul_ediv_add_emod (i : Int) M
              have h2 : 0 ≤ (i : Int) / M := Int.ediv_nonneg (by omega) (by omega)
              have h3 : 0 ≤ M * ((i : Int) / M) := Int.mul_nonneg (by omega) h2
              omega
            walk_at "rd"
            refine iteT ?_
            walk_at "rd"
            rw [Int.zero_add]
            refine rd_ixL (SqL.of (e9 _ _ hq8)) (mkB_at (by omega) (by omega)) ?_
            refine ⟨rfl, ?_⟩
            rw [mkB_succ]
          · rintro ys H' p9 ⟨rfl, rfl⟩ hn9
            refine rd_cat (by rw [upd_ne (ne_of_none hm4 hn9)]; exact hm4) upd_same (small_line (by rw [mkB_len, mkB_len]; omega)) ?_
            have e10 : Ext H' (upd H' p9 (.lst (mkB s'.toNat fun k => f (b + (k : Int) % M).toNat))) := ext_upd hn9
            generalize upd H' p9 (.lst (mkB s'.toNat fun k => f (b + (k : Int) % M).toNat)) = H10 at e10
            refine rd_new fun m5 H11 e11 hm5 hn5 => ?_
            walk_at "rd"
            rw [mkB_append, ← hn0] at hm5
            exact ⟨e58.trans (e9.trans (e10.trans e11)), m5, _, _, rfl, (e58.trans (e9.trans e10)).none hn5, hm5⟩
      · walk_at "rd"
        exact ⟨e5, bq, f, none, rfl, hqn, hq5⟩
    clear hq5 hqn e5 bq f H5
    rintro σ' H5 ⟨e5, bq, f, pt, rfl, hqn, hq5⟩
    walk_at "rd"
    refine rd_ifJ (fun σ' H' => Ext H3 H' ∧ ∃ (bq : Addr) (f : Nat → Bool) (x : Option V), σ' = [some (.int c), some (.int p), some (.ref dq), some (.int b), some (.int s'), some (.ref bq), pt, x] ∧ H3 bq = none ∧ H' bq = some (.lst (mkB (b + s').toNat f))) ?_ ?_
    · walk_at "rd"
      refine rd_ixL (SqL.of (e5 _ _ hd3)) (v := .int d8) rfl ?_
      walk_at "rd"
      refine ite2 (fun h => ?_) (fun h => ?_)
      · walk_at "rd"
        refine rd_i3x (by unfold SmallR; omega) ?_
        refine forS (fun i σ H' => Ext H3 H' ∧ ∃ (f : Nat → Bool) (x : Option V), σ = [some (.int c), some (.int p), some (.ref dq), some (.int b), some (.int s'), some (.ref bq), pt, x] ∧ H' bq = some (.lst (mkB (b + s').toNat f))) ⟨e5, f, none, rfl, hq5⟩ ?_ ?_
        · rintro i σ H' hi ⟨e6, g, x, rfl, hq6⟩
          have hx := down_turn hi
          have hx2 : b / 2 ≥ 0 := by omega
          walk_at "rd"
          refine rd_ixL (SqL.of hq6) (mkB_at (by omega) (by omega)) ?_
          walk_at "rd"
          refine rd_setL hq6 (ixN_of (by omega) (by rw [mkB_len]; omega)) ?_
          rw [mkB_set _ _ (by omega)]
          exact ⟨ext_write e6 hqn, _, _, rfl, upd_same⟩
        · rintro σ H' ⟨e6, g, x, rfl, hq6⟩
          exact ⟨e6, bq, g, x, rfl, hqn, hq6⟩
      · walk_at "rd"
        exact ⟨e5, bq, f, none, rfl, hqn, hq5⟩
    clear hq5 hqn e5 bq f H5
    rintro σ' H5 ⟨e5, bq, f, x, rfl, hqn, hq5⟩
    walk_at "rd"
    refine rd_ifJ (fun σ' H' => Ext H3 H' ∧ ∃ (bq : Addr) (f : Nat → Bool), σ' = [some (.int c), some (.int p), some (.ref dq), some (.int b), some (.int s'), some (.ref bq), pt, x] ∧ H' bq = some (.lst (mkB (b + s').toNat f))) ?_ ?_
    · walk_at "rd"
      refine rd_ixL (SqL.of (e5 _ _ hd3)) (v := .int d8) rfl ?_
      walk_at "rd"
      refine ite2 (fun h => ?_) (fun h => ?_)
      · walk_at "rd"
        refine rd_slL (SqL.of hq5) (rd_new fun m4 H9 e9 hm4 _ => ?_)
        rw [mkB_cut hb0 (by omega)] at hm4
        walk_at "rd"
        refine ⟨small_line (by simp), rd_new fun m6 H10 e10 hm6 _ => ?_⟩
        walk_at "rd"
        refine rd_rep hm6 (by omega) (small_line (by simp; omega)) (rd_new fun m7 H11 e11 hm7 _ => ?_)
        rw [mkB_rep] at hm7
        refine rd_cat (e11 _ _ (e10 _ _ hm4)) hm7 (small_line (by rw [mkB_len, mkB_len]; omega)) (rd_new fun m8 H12 e12 hm8 _ => ?_)
        walk_at "rd"
        rw [mkB_append, ← hn0] at hm8
        exact ⟨e5.trans (e9.trans (e10.trans (e11.trans e12))), m8, _, rfl, hm8⟩
      · walk_at "rd"
        exact ⟨e5, bq, f, rfl, hq5⟩
    clear hq5 hqn e5 bq f H5
    rintro σ' H5 ⟨e5, bq, f, rfl, hq5⟩
    walk_at "rd"
    exact ⟨bq, b, s', _, f, rfl, hb0, hs0, by omega, hq5, by omega, fun v H6 e6 hst => q v b s' _ _ H6 ((eH.trans e3).trans (e5.trans e6)) hst (row_gd hb0 hs0 hb1 hs1)⟩
theorem mkB_drop {n : Nat} {f : Nat → Bool} {i : Int} (h0 : 0 ≤ i) (h : i ≤ n) : cutV (mkB n f) (some i) none = mkB (n - i.toNat) fun k => f (i.toNat + k) := by
  unfold cutV
  rw [mkB_len, HT.sIx_none]
  have e : HT.sIx n 0 (some i) = i.toNat := by
    show (if i < 0 then (i + (n : Int)).toNat else min i.toNat n) = i.toNat
    rw [if_neg (by omega)]
    omega
  rw [e]
  apply List.ext_getElem?
  intro k
  rcases Nat.lt_or_ge k (n - i.toNat) with hk | hk
  · rw [List.getElem?_take_of_lt hk, List.getElem?_drop, mkB_get _ (by omega), mkB_get _ hk]
  · rw [List.getElem?_eq_none (by rw [List.length_take, List.length_drop, mkB_len]; omega), List.getElem?_eq_none (by rw [mkB_len]; omega)]
noncomputable def dB (n : Nat) (f : Nat → Bool) : List PyData := (List.range n).map fun i => PyData.bool (f i)
theorem paired_map {α : Type} {R : V → PyData → Prop} {g : α → V} {k : α → PyData} (h : ∀ x, R (g x) (k x)) : ∀ l : List α, Paired R (l.map g) (l.map k)
  | [] => .nil
  | x :: l => .cons (h x) (paired_map h l)
theorem rep_mkB {H : Hp} {p : Addr} {n : Nat} {f : Nat → Bool} (h : H p = some (.lst (mkB n f))) : RepD H 1 (.ref p) (.list (dB n f)) :=
  .inr ⟨p, mkB n f, dB n f, rfl, .inr ⟨h, rfl⟩, paired_map (fun i => (rfl : f i = f i)) _⟩
theorem eqv_map {α : Type} (f g : α → Bool) : ∀ l : List α, PyData.eqvAll (l.map fun i => PyData.bool (f i)) (l.map fun i => PyData.bool (g i)) = l.all fun i => f i == g i
  | [] => rfl
  | x :: l => by
    show (PyData.eqv (.bool (f x)) (.bool (g x)) && PyData.eqvAll (l.map fun i => PyData.bool (f i)) (l.map fun i => PyData.bool (g i))) = ((f x == g x) && l.all fun i => f i == g i)
    rw [eqv_map f g l]
    rfl
theorem eqv_dB {n : Nat} {f g : Nat → Bool} : PyData.eqv (.list (dB n f)) (.list (dB n g)) = true ↔ ∀ i, i < n → f i = g i := by
  show PyData.eqvAll (dB n f) (dB n g) = true ↔ _
  unfold dB
  rw [eqv_map, List.all_eq_true]
  simp only [List.mem_range, beq_iff_eq]
noncomputable def sp_marks_below (K : PySem.W.Frag) : Sp := fun vs H Q _ => ∃ v n b s o a, vs = [v, .int n] ∧ StAt H v b s o a ∧ Gd b s o a ∧ 0 ≤ n ∧ n ≤ 20000 ∧
  ∀ q H', Ext H H' → H q = none → H' q = some (.lst (mkB n.toNat (fn b s o a))) → Q (.ref q) H'
noncomputable abbrev s_marks_below : Stmt := top 24
theorem sc_marks_below : FnScope ["stair", "end", "marks", "number", "later"] ["stair", "end"] (defScope s_marks_below) := ⟨rfl, rfl, rfl, by decide +kernel, rfl, by decide +kernel, by decide +kernel⟩
theorem ok_marks_below {P : Program} {w : World} {K : PySem.W.Frag} {mg : Str → Option Value} {base : Heap} (D : Dfn K mg "marks_below" s_marks_below ["stair", "end"]) (T : Blt mg) : Cal P w K mg base "marks_below" 1 ["stair", "end"] (sp_marks_below K) := by
  have nd := (sc_marks_below).nd
  refine D.ok sc_marks_below (fun vs H Q E h => ?_) (fun X hX H vs Q E h => ?_)
  · obtain ⟨v, n, b, s, o, a, rfl, _⟩ := h; rfl
  · obtain ⟨f, cdv, A, outer, s, H0, E0, rfl, hr⟩ := hX
    obtain ⟨v, n, b, s', o, a, rfl, hv, hg, hn0, hn1, q⟩ := h
    obtain ⟨p, q', r, rfl, h1, h2, h3⟩ := hv
    have hs := hg.ok.hs
    have hs8 := hg.s8
    have hb0 := hg.ok.hb
    have hb3 := hg.b3
    refine ⟨_, (no_implicit_lambda% (pss_cons (no_implicit_lambda% (ps_set (i := 2) nd rfl (Or.inl rfl) (no_implicit_lambda% (pe_op op_rep (no_implicit_lambda% (pe_lst (no_implicit_lambda% (pa_cons pe_bl pa_nil)))) (no_implicit_lambda% (pv 1))))))
        (no_implicit_lambda% (pss_cons (no_implicit_lambda% (ps_for PassesOwn.never rfl (no_implicit_lambda% (pi_tupK K (no_implicit_lambda% (pe_ix (ix_tupK K) (no_implicit_lambda% (pv 0)) pe_int (fun _ _ => rfl))))) (no_implicit_lambda% (pg_name (i := 3) nd rfl (Or.inl rfl))) (no_implicit_lambda% (pss_one (no_implicit_lambda% (ps_ifJ (no_implicit_lambda% (pt_cmpR op_lt (no_implicit_lambda% (pv 3)) (no_implicit_lambda% (pv 1)) (nomark _))) (no_implicit_lambda% (pss_one (no_implicit_lambda% (ps_asg pe_bl (no_implicit_lambda% (pg_sub (no_implicit_lambda% (pv 2)) (no_implicit_lambda% (pv 3)) set_list)))))) pss_nil))))))
        (no_implicit_lambda% (pss_cons (no_implicit_lambda% (ps_for PassesOwn.never rfl (no_implicit_lambda% (pi_tupK K (no_implicit_lambda% (pe_ix (ix_tupK K) (no_implicit_lambda% (pv 0)) pe_int (fun _ _ => rfl))))) (no_implicit_lambda% (pg_name (i := 3) nd rfl (Or.inl rfl))) (no_implicit_lambda% (pss_one (no_implicit_lambda% (ps_for PassesOwn.never rfl (no_implicit_lambda% (pi_range3 rfl T.range_ (no_implicit_lambda% (pa_cons (no_implicit_lambda% (pv 3)) (no_implicit_lambda% (pa_cons (no_implicit_lambda% (pv 1)) (no_implicit_lambda% (pa_cons (no_implicit_lambda% (pe_ix (ix_tupK K) (no_implicit_lambda% (pv 0)) pe_int (fun _ _ => rfl))) pa_nil)))))))) (no_implicit_lambda% (pg_name (i := 4) nd rfl (Or.inl rfl))) (no_implicit_lambda% (pss_one (no_implicit_lambda% (ps_asg pe_bl (no_implicit_lambda% (pg_sub (no_implicit_lambda% (pv 2)) (no_implicit_lambda% (pv 4)) set_list))))))))))))
        (no_implicit_lambda% (pss_one (no_implicit_lambda% (ps_ret (no_implicit_lambda% (pv 2)))))))))))), ?_⟩
    walk_at "rd"
    refine ⟨small_line (by simp), rd_new fun m H1 e1 hm _ => ?_⟩
    walk_at "rd"
    refine rd_rep hm (by omega) (small_line (by simp; omega)) (rd_new fun m2 H2 e2 hm2 hn2 => ?_)
    rw [mkB_rep] at hm2
    have e12 : Ext H H2 := e1.trans e2
    have hmn : H m2 = none := e1.none hn2
    walk_at "rd"
    refine rd_ixT (SqT.of (e12 _ _ h1)) rfl ?_
    walk_at "rd"
    refine rd_iTx (SqT.of (e12 _ _ h2)) ?_
    refine forT (xs := o.map V.int) (fun i σ H' => Ext H H' ∧ ∃ x, σ = [some (.ref p), some (.int n), some (.ref m2), x, none] ∧ H' m2 = some (.lst (mkB n.toNat fun y => (o.take i).contains (y : Int))))
      ⟨e12, none, rfl, by simpa using hm2⟩ (fun i σ H' _ h => SqT.of (h.1 _ _ h2)) ?_ ?_
    · rintro i v' σ H' hi ⟨e, x, rfl, hm'⟩
      obtain ⟨z, rfl, hz⟩ := map_get hi
      have hz0 := (hg.ok.ho.2 z (List.mem_of_getElem? hz))
      have htake : o.take (i + 1) = o.take i ++ [z] := by rw [List.take_add_one, hz]; rfl
      walk_at "rd"
      refine rd_ifJ (fun σ' H' => Ext H H' ∧ ∃ x, σ' = [some (.ref p), some (.int n), some (.ref m2), x, none] ∧ H' m2 = some (.lst (mkB n.toNat fun y => (o.take (i + 1)).contains (y : Int)))) ?_ (fun _ _ h => h)
      walk_at "rd"
      by_cases hzn : z < n
      · rw [decide_eq_true hzn]
        refine iteT ?_
        walk_at "rd"
        refine rd_setL hm' (ixN_of (by omega) (by rw [mkB_len]; omega)) ?_
        rw [mkB_set _ _ (by omega)]
        refine ⟨ext_write e hmn, _, rfl, ?_⟩
        rw [upd_same]
        congr 2
        refine mkB_congr fun y hy => ?_
        rw [htake, List.contains_append]
        by_cases hyz : y = z.toNat
        · rw [if_pos hyz]
          have : (y : Int) = z := by omega
          rw [this]
          simp
        · rw [if_neg hyz]
          have : [z].contains (y : Int) = false := by
            rw [Bool.eq_false_iff]
            intro hc
            rw [List.contains_iff_mem, List.mem_singleton] at hc
            omega
          rw [this, Bool.or_false]
      · rw [decide_eq_false hzn]
        refine iteF ?_
        walk_at "rd"
        refine ⟨e, _, rfl, ?_⟩
        rw [hm']
        congr 2
        refine mkB_congr fun y hy => ?_
        rw [htake, List.contains_append]
        have : [z].contains (y : Int) = false := by
          rw [Bool.eq_false_iff]
          intro hc
          rw [List.contains_iff_mem, List.mem_singleton] at hc
          omega
        rw [this, Bool.or_false]
    · rintro σ H3 ⟨e3, x, rfl, hm3⟩
      rw [List.length_map, List.take_length] at hm3
      walk_at "rd"
      refine rd_ixT (SqT.of (e3 _ _ h1)) rfl ?_
      walk_at "rd"
      refine rd_iTx (SqT.of (e3 _ _ h3)) ?_
      refine forT (xs := a.map V.int) (fun i σ H' => Ext H H' ∧ ∃ x y, σ = [some (.ref p), some (.int n), some (.ref m2), x, y] ∧ H' m2 = some (.lst (mkB n.toNat (stepF s' o (a.take i)))))
        ⟨e3, _, _, rfl, by rw [hm3]; congr 2; exact mkB_congr fun y _ => by simp [stepF]⟩ (fun i σ H' _ h => SqT.of (h.1 _ _ h3)) ?_ ?_
      · rintro i v' σ H' hi ⟨e, x, y, rfl, hm'⟩
        obtain ⟨z, rfl, hz⟩ := map_get hi
        have hz0 := (hg.ok.ha.2 z (List.mem_of_getElem? hz))
        have htake : a.take (i + 1) = a.take i ++ [z] := by rw [List.take_add_one, hz]; rfl
        walk_at "rd"
        refine rd_ixT (SqT.of (e _ _ h1)) rfl ?_
        walk_at "rd"
        refine rd_i3x (by unfold SmallR; omega) ?_
        refine forS (fun j σ H' => Ext H H' ∧ ∃ y, σ = [some (.ref p), some (.int n), some (.ref m2), some (.int z), y] ∧ H' m2 = some (.lst (mkB n.toNat fun y => stepF s' o (a.take i) y || (List.range j).any fun k => decide ((y : Int) = z + (k : Nat) * s'))))
          ⟨e, _, rfl, by rw [hm']; congr 2; exact mkB_congr fun y _ => by simp⟩ ?_ ?_
        · rintro j σ H'' hj ⟨e', y', rfl, hm''⟩
          have hlt := nRng_up hs hj
          have hge : 0 ≤ (j : Int) * s' := Int.mul_nonneg (by omega) (by omega)
          walk_at "rd"
          refine rd_setL hm'' (ixN_of (by omega) (by rw [mkB_len]; omega)) ?_
          rw [mkB_set _ _ (by omega)]
          refine ⟨ext_write e' hmn, _, rfl, ?_⟩
          rw [upd_same]
          congr 2
          refine mkB_congr fun y hy => ?_
          rw [List.range_succ, List.any_append]
          by_cases hyz : y = (z + (j : Int) * s').toNat
          · rw [if_pos hyz]
            have : (y : Int) = z + (j : Nat) * s' := by omega
            simp [this]
          · rw [if_neg hyz]
            have : (List.any [j] fun k => decide ((y : Int) = z + (k : Nat) * s')) = false := by
              simp
              omega
            rw [this, Bool.or_false]
        · rintro σ H'' ⟨e', y', rfl, hm''⟩
          refine ⟨e', _, _, rfl, ?_⟩
          rw [hm'']
          congr 2
          refine mkB_congr fun y hy => ?_
          rw [htake]
          unfold stepF
          rw [List.any_append, Bool.or_assoc]
          congr 2
          rw [Bool.eq_iff_iff, List.any_eq_true]
          simp only [List.mem_range, decide_eq_true_eq, List.any_cons, List.any_nil, Bool.or_false, Bool.and_eq_true, beq_iff_eq]
          constructor
          · rintro ⟨k, hk, hy'⟩
            have hge : 0 ≤ (k : Int) * s' := Int.mul_nonneg (by omega) (by omega)
            refine ⟨by omega, ?_⟩
            rw [show (y : Int) - z = s' * (k : Int) by rw [Int.mul_comm]; omega]
            exact Int.mul_emod_right _ _
          · rintro ⟨hy1, hy2⟩
            obtain ⟨k, hk1, hk2⟩ := nRng_all (n := n) hs hy1 (by omega) hy2
            exact ⟨k, hk1, hk2⟩
      · rintro σ H4 ⟨e4, x', y', rfl, hm4⟩
        rw [List.length_map, List.take_length] at hm4
        walk_at "rd"
        refine q m2 H4 e4 hmn ?_
        rw [hm4]
        congr 2
        exact mkB_congr fun y _ => stepF_fn hg.ok y
theorem alike_cut {n d : Nat} {g : Nat → Bool} (hd : d ≤ n) (hz : n % d = 0) : PyData.eqv (.list (dB (n - d) fun k => g (d + k))) (.list (dB (n - d) g)) = true ↔ Alike g 0 n d := by
  rw [eqv_dB]
  constructor
  · intro h
    refine ⟨hz, fun i hi => ?_⟩
    have := h i (by omega)
    rw [show 0 + i + d = d + i by omega, this, Nat.zero_add]
  · intro h i hi
    have := h.2 i (by omega)
    rw [show 0 + i + d = d + i by omega, Nat.zero_add] at this
    exact this
noncomputable def sp_least_step (K : PySem.W.Frag) : Sp := fun vs H Q _ => ∃ (p : Addr) (n : Nat) (g : Nat → Bool), vs = [.ref p] ∧ 1 ≤ n ∧ n ≤ 20000 ∧ H p = some (.lst (mkB n g)) ∧
  ∀ (d : Nat) H', Ext H H' → 1 ≤ d → d ≤ n → Alike g 0 n d → (∀ e, 1 ≤ e → e < d → ¬ Alike g 0 n e) → Q (.int d) H'
noncomputable abbrev s_least_step : Stmt := top 25
theorem sc_least_step : FnScope ["turn", "whole", "step"] ["turn"] (defScope s_least_step) := ⟨rfl, rfl, rfl, by decide +kernel, rfl, by decide +kernel, by decide +kernel⟩
theorem ok_least_step {P : Program} {w : World} {K : PySem.W.Frag} {mg : Str → Option Value} {base : Heap} (D : Dfn K mg "least_step" s_least_step ["turn"]) (T : Blt mg) : Cal P w K mg base "least_step" 1 ["turn"] (sp_least_step K) := by
  have nd := (sc_least_step).nd
  refine D.ok sc_least_step (fun vs H Q E h => ?_) (fun X hX H vs Q E h => ?_)
  · obtain ⟨p, n, g, rfl, _⟩ := h; rfl
  · obtain ⟨f, cdv, A, outer, s, H0, E0, rfl, hr⟩ := hX
    obtain ⟨p, n, g, rfl, hn1, hn2, hp, q⟩ := h
    refine ⟨_, (no_implicit_lambda% (pss_cons (no_implicit_lambda% (ps_set (i := 1) nd rfl (Or.inl rfl) (no_implicit_lambda% (pe_callB (call_lenK K) rfl T.len_ PySem.boot_len (no_implicit_lambda% (pa_cons (no_implicit_lambda% (pv 0)) pa_nil))))))
        (no_implicit_lambda% (pss_cons (no_implicit_lambda% (ps_set (i := 2) nd rfl (Or.inl rfl) pe_int))
        (no_implicit_lambda% (pss_cons (no_implicit_lambda% (ps_whileJ PassesOwn.never (no_implicit_lambda% (PW.pt (pw_or (no_implicit_lambda% (pt_cmpR op_ne (no_implicit_lambda% (pe_op op_mod (no_implicit_lambda% (pv 1)) (no_implicit_lambda% (pv 2)))) pe_int (nomark _))) (pw_or1 (no_implicit_lambda% (pt_cmpR (op_neD hr) (no_implicit_lambda% (pe_slice (sl_listK K) (no_implicit_lambda% (pv 0)) (po_some (no_implicit_lambda% (pv 2))) po_none)) (no_implicit_lambda% (pe_slice (sl_listK K) (no_implicit_lambda% (pv 0)) po_none (po_some (no_implicit_lambda% (pe_op op_sub (no_implicit_lambda% (pv 1)) (no_implicit_lambda% (pv 2))))))) (nomark _))))))) (no_implicit_lambda% (pss_one (no_implicit_lambda% (ps_aug (i := 2) nd rfl (Or.inl rfl) pe_int ip_add))))))
        (no_implicit_lambda% (pss_one (no_implicit_lambda% (ps_ret (no_implicit_lambda% (pv 2)))))))))))), ?_⟩
    walk_at "rd"
    refine rd_lenL (SqL.of hp) ?_
    rw [mkB_len]
    walk_at "rd"
    refine rd_while (fun m σ H' => Ext H H' ∧ ∃ d : Nat, σ = [some (.ref p), some (.int n), some (.int d)] ∧ 1 ≤ d ∧ d ≤ n ∧ m = n - d ∧ ∀ e, 1 ≤ e → e < d → ¬ Alike g 0 n e)
      (fun σ H' => Ext H H' ∧ ∃ d : Nat, σ = [some (.ref p), some (.int n), some (.int d)] ∧ 1 ≤ d ∧ d ≤ n ∧ Alike g 0 n d ∧ ∀ e, 1 ≤ e → e < d → ¬ Alike g 0 n e) (n - 1)
      ⟨Ext.rfl' H, 1, rfl, Nat.le_refl _, hn1, rfl, fun e h1 h2 => by omega⟩ ?_ ?_
    rotate_left
    · rintro σ H' ⟨e, d, rfl, h1, h2, ha, hf⟩
      walk_at "rd"
      exact q d H' e h1 h2 ha hf
    rintro m σ H' ⟨e, d, rfl, h1, h2, rfl, hf⟩
    have hp' := e _ _ hp
    have hmod : ((n : Int) % (d : Int) = 0) ↔ n % d = 0 := by
      have : (n : Int) % (d : Int) = ((n % d : Nat) : Int) := rfl
      omega
    have next : ∀ H2, Ext H' H2 → ¬ Alike g 0 n d → ∃ m', m' < n - d ∧ Ext H H2 ∧ ∃ d' : Nat, [some (V.ref p), some (V.int n), some (V.int ((d : Int) + 1))] = [some (V.ref p), some (V.int n), some (V.int d')] ∧ 1 ≤ d' ∧ d' ≤ n ∧ m' = n - d' ∧ ∀ e, 1 ≤ e → e < d' → ¬ Alike g 0 n e := by
      intro H2 e2 hna
      have hlt : d < n := by
        rcases Nat.lt_or_ge d n with h | h
        · exact h
        · have : d = n := by omega
          subst this
          exact absurd ⟨Nat.mod_self d, fun i hi => by omega⟩ hna
      refine ⟨n - (d + 1), by omega, e.trans e2, d + 1, rfl, by omega, by omega, rfl, fun e' h3 h4 => ?_⟩
      rcases Nat.lt_or_ge e' d with h5 | h5
      · exact hf e' h3 h5
      · have : e' = d := by omega
        subst this
        exact hna
    walk_at "rd"
    by_cases hz : (n : Int) % (d : Int) = 0
    · rw [decide_eq_true hz]
      refine iteF ?_
      walk_at "rd"
      refine rd_slL (SqL.of hp') (rd_new fun p1 H1 e1 hp1 _ => ?_)
      walk_at "rd"
      refine rd_slL (SqL.of (e1 _ _ hp')) (rd_new fun p2 H2 e2 hp2 _ => ?_)
      rw [mkB_drop (by omega) (by omega), Int.toNat_natCast] at hp1
      rw [mkB_cut (by omega) (by omega), show ((n : Int) - (d : Int)).toNat = n - d by omega] at hp2
      refine ⟨1, 1, _, _, rep_mkB (e2 _ _ hp1), rep_mkB hp2, by decide, ?_⟩
      walk_at "rd"
      have hal := alike_cut (g := g) h2 (hmod.mp hz)
      cases hc : PyData.eqv (.list (dB (n - d) fun k => g (d + k))) (.list (dB (n - d) g)) with
      | true =>
        exact iteF ⟨e.trans (e1.trans e2), d, rfl, h1, h2, hal.mp hc, hf⟩
      | false =>
        refine iteT ⟨_, fun _ _ h => h, ?_⟩
        walk_at "rd"
        exact next H2 (e1.trans e2) fun h => by rw [hal.mpr h] at hc; cases hc
    · rw [decide_eq_false hz]
      refine iteT (iteT ⟨_, fun _ _ h => h, ?_⟩)
      walk_at "rd"
      exact next H' (Ext.rfl' H') fun h => hz (hmod.mpr h.1)
theorem alike_at {f : Nat → Bool} {b n d : Nat} : Alike (fun k => f (b + k)) 0 n d ↔ Alike f b n d := by
  unfold Alike
  simp only [Nat.zero_add, Nat.add_assoc]
noncomputable def sp_stair_of_marks (K : PySem.W.Frag) : Sp := fun vs H Q _ => ∃ (p : Addr) (b n : Nat) (f : Nat → Bool), vs = [.ref p, .int b] ∧ 1 ≤ n ∧ b + n ≤ 20000 ∧ H p = some (.lst (mkB (b + n) f)) ∧ Per f b n ∧
  ∀ v (l d : Nat) H', Ext H H' → Least f d l → l ≤ b → d ≤ n → StAt H' v l d (row f 0 l) (row f l d) → Q v H'
noncomputable abbrev s_stair_of_marks : Stmt := top 26
theorem sc_stair_of_marks : FnScope ["marks", "base", "step", "low", "once", "again"] ["marks", "base"] (defScope s_stair_of_marks) := ⟨rfl, rfl, rfl, by decide +kernel, rfl, by decide +kernel, by decide +kernel⟩
theorem ok_stair_of_marks {P : Program} {w : World} {K : PySem.W.Frag} {mg : Str → Option Value} {base : Heap} (D : Dfn K mg "stair_of_marks" s_stair_of_marks ["marks", "base"]) (T : Blt mg) (C_least_step : Cal P w K mg base "least_step" 1 ["turn"] (sp_least_step K)) : Cal P w K mg base "stair_of_marks" 2 ["marks", "base"] (sp_stair_of_marks K) := by
  have nd := (sc_stair_of_marks).nd
  refine D.ok sc_stair_of_marks (fun vs H Q E h => ?_) (fun X hX H vs Q E h => ?_)
  · obtain ⟨p, b, n, f, rfl, _⟩ := h; rfl
  · obtain ⟨f, cdv, A, outer, s, H0, E0, rfl, hr⟩ := hX
    obtain ⟨p, b, n, g, rfl, hn1, hbn, hp, hper, q⟩ := h
    refine ⟨_, (no_implicit_lambda% (pss_cons (no_implicit_lambda% (ps_set (i := 2) nd rfl (Or.inl rfl) (no_implicit_lambda% (pe_cal C_least_step hr (no_implicit_lambda% (pa_cons (no_implicit_lambda% (pe_slice (sl_listK K) (no_implicit_lambda% (pv 0)) (po_some (no_implicit_lambda% (pv 1))) po_none)) pa_nil))))))
        (no_implicit_lambda% (pss_cons (no_implicit_lambda% (ps_set (i := 3) nd rfl (Or.inl rfl) (no_implicit_lambda% (pv 1))))
        (no_implicit_lambda% (pss_cons (no_implicit_lambda% (ps_whileJ PassesOwn.never (no_implicit_lambda% (PW.pt (pw_and (no_implicit_lambda% (pt_cmpR op_gt (no_implicit_lambda% (pv 3)) pe_int (nomark _))) (pw_and1 (no_implicit_lambda% (pt_cmpR op_eq (no_implicit_lambda% (pe_ix (ix_listK K) (no_implicit_lambda% (pv 0)) (no_implicit_lambda% (pe_op op_sub (no_implicit_lambda% (pv 3)) pe_int)) (fun _ _ => rfl))) (no_implicit_lambda% (pe_ix (ix_listK K) (no_implicit_lambda% (pv 0)) (no_implicit_lambda% (pe_op op_add (no_implicit_lambda% (pe_op op_sub (no_implicit_lambda% (pv 3)) pe_int)) (no_implicit_lambda% (pv 2)))) (fun _ _ => rfl))) (nomark _))))))) (no_implicit_lambda% (pss_one (no_implicit_lambda% (ps_aug (i := 3) nd rfl (Or.inl rfl) pe_int ip_sub))))))
        (no_implicit_lambda% (pss_cons (no_implicit_lambda% (ps_setComp (i := 4) ["number"] [0] nd rfl (Or.inl rfl) (no_implicit_lambda% (pi_range1 rfl T.range_ (no_implicit_lambda% (pa_cons (no_implicit_lambda% (pv 3)) pa_nil)))) (fun _ => (no_implicit_lambda% (pg_name (i := 0) (show (["number", "marks"] : List Str).Nodup from by decide +kernel) rfl (Or.inl rfl) (Or.inr rfl)))) (fun _ => (pcs_one (no_implicit_lambda% (pt_val (no_implicit_lambda% (pe_ix (ix_listK K) (no_implicit_lambda% (pv 1)) (no_implicit_lambda% (pv 0)) (fun _ _ => rfl))))))) (fun _ => (no_implicit_lambda% (pv 0)))))
        (no_implicit_lambda% (pss_cons (no_implicit_lambda% (ps_setComp (i := 5) ["number"] [0] nd rfl (Or.inl rfl) (no_implicit_lambda% (pi_range2 rfl T.range_ (no_implicit_lambda% (pa_cons (no_implicit_lambda% (pv 3)) (no_implicit_lambda% (pa_cons (no_implicit_lambda% (pe_op op_add (no_implicit_lambda% (pv 3)) (no_implicit_lambda% (pv 2)))) pa_nil)))))) (fun _ => (no_implicit_lambda% (pg_name (i := 0) (show (["number", "marks"] : List Str).Nodup from by decide +kernel) rfl (Or.inl rfl) (Or.inr rfl)))) (fun _ => (pcs_one (no_implicit_lambda% (pt_val (no_implicit_lambda% (pe_ix (ix_listK K) (no_implicit_lambda% (pv 1)) (no_implicit_lambda% (pv 0)) (fun _ _ => rfl))))))) (fun _ => (no_implicit_lambda% (pv 0)))))
        (no_implicit_lambda% (pss_one (no_implicit_lambda% (ps_ret (no_implicit_lambda% (pe_tup (no_implicit_lambda% (pa_cons (no_implicit_lambda% (pv 3)) (no_implicit_lambda% (pa_cons (no_implicit_lambda% (pv 2)) (no_implicit_lambda% (pa_cons (no_implicit_lambda% (pe_callTy (call_tupK K) rfl T.tuple_ PyProof.Rows.boot_tuple (no_implicit_lambda% (pa_cons (no_implicit_lambda% (pv 4)) pa_nil)))) (no_implicit_lambda% (pa_cons (no_implicit_lambda% (pe_callTy (call_tupK K) rfl T.tuple_ PyProof.Rows.boot_tuple (no_implicit_lambda% (pa_cons (no_implicit_lambda% (pv 5)) pa_nil)))) pa_nil)))))))))))))))))))))))), ?_⟩
    walk_at "rd"
    refine rd_slL (SqL.of hp) (rd_new fun p1 H1 e1 hp1 _ => ?_)
    rw [mkB_drop (by omega) (by omega), Int.toNat_natCast, show b + n - b = n by omega] at hp1
    walk_at "rd"
    refine ⟨p1, n, _, rfl, hn1, by omega, hp1, fun d H2 e2 hd1 hd2 hal hfirst => ?_⟩
    have hal' := alike_at.mp hal
    have hfirst' : ∀ e, 1 ≤ e → e < d → ¬ Alike g b n e := fun e h3 h4 h5 => hfirst e h3 h4 (alike_at.mpr h5)
    have e02 : Ext H H2 := e1.trans e2
    have hp2 := e02 _ _ hp
    walk_at "rd"
    refine rd_while (fun m σ H' => H' = H2 ∧ ∃ l : Nat, σ = [some (.ref p), some (.int b), some (.int d), some (.int l), none, none] ∧ l ≤ b ∧ m = l ∧ ∀ x, l ≤ x → x < b → g x = g (x + d))
      (fun σ H' => H' = H2 ∧ ∃ l : Nat, σ = [some (.ref p), some (.int b), some (.int d), some (.int l), none, none] ∧ l ≤ b ∧ (∀ x, l ≤ x → x < b → g x = g (x + d)) ∧ (l = 0 ∨ g (l - 1) ≠ g (l - 1 + d))) b
      ⟨rfl, b, rfl, Nat.le_refl _, rfl, fun x h1 h2 => by omega⟩ ?_ ?_
    · rintro m σ H' ⟨rfl, l, rfl, hl, rfl, hdown⟩
      walk_at "rd"
      by_cases h0 : (0 : Int) < (m : Int)
      · rw [decide_eq_true h0]
        refine iteT ?_
        walk_at "rd"
        refine rd_ixL (SqL.of hp2) (mkB_at (by omega) (by omega)) ?_
        walk_at "rd"
        refine rd_ixL (SqL.of hp2) (mkB_at (by omega) (by omega)) ?_
        walk_at "rd"
        rw [show ((m : Int) - 1).toNat = m - 1 by omega, show ((m : Int) - 1 + (d : Int)).toNat = m - 1 + d by omega]
        cases hc : g (m - 1) == g (m - 1 + d) with
        | true =>
          refine iteT ⟨_, fun _ _ h => h, ?_⟩
          walk_at "rd"
          refine ⟨m - 1, by omega, rfl, m - 1, by rw [show ((m - 1 : Nat) : Int) = (m : Int) - 1 by omega]; rfl, by omega, rfl, fun x h1 h2 => ?_⟩
          rcases Nat.lt_or_ge x m with h3 | h3
          · have : x = m - 1 := by omega
            rw [this]
            exact eq_of_beq hc
          · exact hdown x h3 h2
        | false => exact iteF ⟨rfl, m, rfl, hl, hdown, .inr fun h => by rw [h] at hc; simp at hc⟩
      · rw [decide_eq_false h0]
        exact iteF (iteF ⟨rfl, m, rfl, hl, hdown, .inl (by omega)⟩)
    rintro σ H' ⟨rfl, l, rfl, hl, hdown, hstop⟩
    have hleast : Least g d l := least_of hper hn1 hd1 hal' hfirst' hl hdown hstop
    walk_at "rd"
    refine rd_i1x (by omega) ?_
    rw [Int.toNat_natCast]
    refine comp_range (fun i ys H3 => H3 = H' ∧ ys = (row g 0 i).map V.int) (small_line (by omega)) ⟨rfl, rfl⟩ ?_ ?_ ?_
    · rintro i ys H3 _ ⟨rfl, rfl⟩
      rw [List.length_map]; exact row_len g 0 i
    · rintro i ys H3 hi ⟨rfl, hy⟩
      walk_at "rd"
      refine rd_ixL (SqL.of hp2) (mkB_at (by omega) (by omega)) ?_
      walk_at "rd"
      rw [show ((0 : Int) + (i : Int)).toNat = i by omega]
      have e0 : g (0 + i) = g i := by rw [Nat.zero_add]
      cases hg : g i with
      | true =>
        refine iteT ?_
        walk_at "rd"
        refine ⟨rfl, ?_⟩
        rw [← row_step hy (e0.trans hg)]
        congr 3
        all_goals omega
      | false => exact iteF ⟨rfl, row_skip hy (e0.trans hg)⟩
    rintro ys H3 p3 ⟨rfl, rfl⟩ hp3
    have e4 : Ext H3 (upd H3 p3 (.lst ((row g 0 l).map V.int))) := ext_upd hp3
    have h4 : (upd H3 p3 (.lst ((row g 0 l).map V.int))) p3 = _ := upd_same
    generalize upd H3 p3 (.lst ((row g 0 l).map V.int)) = H4 at e4 h4
    have hp4 := e4 _ _ hp2
    walk_at "rd"
    refine rd_i2x (by omega) ?_
    rw [show ((l : Int) + (d : Int) - (l : Int)).toNat = d by omega]
    refine comp_range (fun i ys H5 => H5 = H4 ∧ ys = (row g l i).map V.int) (small_line (by omega)) ⟨rfl, rfl⟩ ?_ ?_ ?_
    · rintro i ys H5 _ ⟨rfl, rfl⟩
      rw [List.length_map]; exact row_len g _ i
    · rintro i ys H5 hi ⟨rfl, hy⟩
      walk_at "rd"
      refine rd_ixL (SqL.of hp4) (mkB_at (by omega) (by omega)) ?_
      walk_at "rd"
      rw [show ((l : Int) + (i : Int)).toNat = l + i by omega]
      cases hg : g (l + i) with
      | true =>
        refine iteT ?_
        walk_at "rd"
        refine ⟨rfl, ?_⟩
        rw [← row_step hy hg]
        congr 3
        all_goals omega
      | false => exact iteF ⟨rfl, row_skip hy hg⟩
    rintro ys H5 p5 ⟨rfl, rfl⟩ hp5
    have e6 : Ext H5 (upd H5 p5 (.lst ((row g l d).map V.int))) := ext_upd hp5
    have h6 : (upd H5 p5 (.lst ((row g l d).map V.int))) p5 = _ := upd_same
    generalize upd H5 p5 (.lst ((row g l d).map V.int)) = H6 at e6 h6
    walk_at "rd"
    refine rd_tupL (SqL.of (e6 _ _ h4)) (rd_new fun t1 H7 e7 ht1 _ => ?_)
    walk_at "rd"
    refine rd_tupL (SqL.of (e7 _ _ h6)) (rd_new fun t2 H8 e8 ht2 _ => ?_)
    walk_at "rd"
    refine ⟨small_line (by simp), rd_new fun t H9 e9 ht _ => ?_⟩
    exact q _ l d H9 (e02.trans (e4.trans (e6.trans (e7.trans (e8.trans e9))))) hleast hl hd2 ⟨t, t1, t2, rfl, ht, e9 _ _ (e8 _ _ ht1), e9 _ _ ht2⟩
noncomputable def sp_least (K : PySem.W.Frag) : Sp := fun vs H Q E => ∃ v, vs = [v] ∧ ((∃ b s o a, StAt H v b s o a ∧ Gd b s o a ∧
  ∀ v' (l d : Nat) H', Ext H H' → Least (fn b s o a) d l → (l : Int) ≤ b → (d : Int) ≤ s → StAt H' v' l d (row (fn b s o a) 0 l) (row (fn b s o a) l d) → Q v' H') ∨ BadS K H v E)
noncomputable abbrev s_least : Stmt := top 27
theorem sc_least : FnScope ["stair"] ["stair"] (defScope s_least) := ⟨rfl, rfl, rfl, by decide +kernel, rfl, by decide +kernel, by decide +kernel⟩
theorem ok_least {P : Program} {w : World} {K : PySem.W.Frag} {mg : Str → Option Value} {base : Heap} (D : Dfn K mg "least" s_least ["stair"]) (T : Blt mg) (C_stair_of_marks : Cal P w K mg base "stair_of_marks" 2 ["marks", "base"] (sp_stair_of_marks K)) (C_marks_below : Cal P w K mg base "marks_below" 1 ["stair", "end"] (sp_marks_below K)) (CX_refuse_bad_stair : CalX P w K mg base "refuse_bad_stair" 6 ["thing"] (sp_refuse_bad_stair K)) : CalX P w K mg base "least" 7 ["stair"] (sp_least K) := by
  have nd := (sc_least).nd
  refine D.okX sc_least (fun vs H Q E h => ?_) (fun f cdv A outer s H vs Q E hr h => ?_)
  · obtain ⟨v, rfl, _⟩ := h; rfl
  · obtain ⟨v, rfl, hh⟩ := h
    refine ⟨_, (no_implicit_lambda% (pss_cons (no_implicit_lambda% (ps_expr (no_implicit_lambda% (pe_calX CX_refuse_bad_stair hr (no_implicit_lambda% (pa_cons (no_implicit_lambda% (pv 0)) pa_nil))))))
        (no_implicit_lambda% (pss_one (no_implicit_lambda% (ps_ret (no_implicit_lambda% (pe_cal C_stair_of_marks hr (no_implicit_lambda% (pa_cons (no_implicit_lambda% (pe_cal C_marks_below hr (no_implicit_lambda% (pa_cons (no_implicit_lambda% (pv 0)) (no_implicit_lambda% (pa_cons (no_implicit_lambda% (pe_op op_add (no_implicit_lambda% (pe_ix (ix_tupK K) (no_implicit_lambda% (pv 0)) pe_int (fun _ _ => rfl))) (no_implicit_lambda% (pe_ix (ix_tupK K) (no_implicit_lambda% (pv 0)) pe_int (fun _ _ => rfl))))) pa_nil)))))) (no_implicit_lambda% (pa_cons (no_implicit_lambda% (pe_ix (ix_tupK K) (no_implicit_lambda% (pv 0)) pe_int (fun _ _ => rfl))) pa_nil)))))))))))), ?_⟩
    walk_at "rd"
    rcases hh with ⟨b, s', o, a, hv, hg, q⟩ | hb
    rotate_left
    · exact ⟨v, rfl, .inr hb⟩
    have hb0 := hg.ok.hb
    have hs0 := hg.ok.hs
    have hb3 := hg.b3
    have hs8 := hg.s8
    refine ⟨v, rfl, .inl ⟨b, s', o, a, hv, hg, ?_⟩⟩
    obtain ⟨p, oq, ar, rfl, h1, h2, h3⟩ := id hv
    walk_at "rd"
    refine rd_ixT (SqT.of h1) rfl ?_
    walk_at "rd"
    refine rd_ixT (SqT.of h1) rfl ?_
    walk_at "rd"
    refine ⟨_, b + s', b, s', o, a, rfl, hv, hg, by omega, by omega, fun m H1 e1 hmn hm => ?_⟩
    walk_at "rd"
    refine rd_ixT (SqT.of (e1 _ _ h1)) rfl ?_
    walk_at "rd"
    rw [show (b + s').toNat = b.toNat + s'.toNat by omega] at hm
    refine ⟨m, b.toNat, s'.toNat, _, by rw [Int.toNat_of_nonneg hb0]; rfl, by omega, by omega, hm, fn_per hg.ok, fun v' l d H' e' hL hl hd hst => ?_⟩
    exact q v' l d H' (e1.trans e') hL (by omega) (by omega) hst
noncomputable def sp_greatest_divisor (K : PySem.W.Frag) : Sp := fun vs H Q _ => ∃ a b : Nat, vs = [.int a, .int b] ∧ Q (.int (Nat.gcd a b : Nat)) H
noncomputable abbrev s_greatest_divisor : Stmt := top 35
theorem sc_greatest_divisor : FnScope ["one", "other", "great", "small", "over"] ["one", "other"] (defScope s_greatest_divisor) := ⟨rfl, rfl, rfl, by decide +kernel, rfl, by decide +kernel, by decide +kernel⟩
theorem ok_greatest_divisor {P : Program} {w : World} {K : PySem.W.Frag} {mg : Str → Option Value} {base : Heap} (D : Dfn K mg "greatest_divisor" s_greatest_divisor ["one", "other"]) (T : Blt mg) : Cal P w K mg base "greatest_divisor" 1 ["one", "other"] (sp_greatest_divisor K) := by
  have nd := (sc_greatest_divisor).nd
  refine D.ok sc_greatest_divisor (fun vs H Q E h => ?_) (fun X hX H vs Q E h => ?_)
  · obtain ⟨a, b, rfl, _⟩ := h; rfl
  · obtain ⟨f, cdv, A, outer, s, H0, E0, rfl, hr⟩ := hX
    obtain ⟨a, b, rfl, q⟩ := h
    refine ⟨_, (no_implicit_lambda% (pss_cons (no_implicit_lambda% (ps_set (i := 2) nd rfl (Or.inl rfl) (no_implicit_lambda% (pv 0))))
        (no_implicit_lambda% (pss_cons (no_implicit_lambda% (ps_set (i := 3) nd rfl (Or.inl rfl) (no_implicit_lambda% (pv 1))))
        (no_implicit_lambda% (pss_cons (no_implicit_lambda% (ps_whileJ PassesOwn.never (no_implicit_lambda% (pt_cmpR op_gt (no_implicit_lambda% (pv 3)) pe_int (nomark _))) (no_implicit_lambda% (pss_cons (no_implicit_lambda% (ps_set (i := 4) nd rfl (Or.inl rfl) (no_implicit_lambda% (pe_op op_mod (no_implicit_lambda% (pv 2)) (no_implicit_lambda% (pv 3))))))
        (no_implicit_lambda% (pss_cons (no_implicit_lambda% (ps_set (i := 2) nd rfl (Or.inl rfl) (no_implicit_lambda% (pv 3))))
        (no_implicit_lambda% (pss_one (no_implicit_lambda% (ps_set (i := 3) nd rfl (Or.inl rfl) (no_implicit_lambda% (pv 4))))))))))))
        (no_implicit_lambda% (pss_one (no_implicit_lambda% (ps_ret (no_implicit_lambda% (pv 2)))))))))))), ?_⟩
    walk_at "rd"
    refine rd_while (fun m σ H' => H' = H ∧ ∃ (x y : Nat) (o : Option V), σ = [some (.int a), some (.int b), some (.int x), some (.int y), o] ∧ Nat.gcd x y = Nat.gcd a b ∧ m = y)
      (fun σ H' => H' = H ∧ ∃ (x : Nat) (s : St), σ = some (.int a) :: some (.int b) :: some (.int x) :: s ∧ x = Nat.gcd a b) b ⟨rfl, a, b, none, rfl, rfl, rfl⟩ ?_ ?_
    · rintro m σ H' ⟨rfl, x, y, o, rfl, hg, rfl⟩
      walk_at "rd"
      by_cases h0 : (0 : Int) < (m : Int)
      · rw [decide_eq_true h0]
        refine iteT ⟨_, fun _ _ h => h, ?_⟩
        walk_at "rd"
        refine ⟨x % m, Nat.mod_lt _ (by omega), rfl, m, x % m, _, rfl, by rw [gcd_step, hg], rfl⟩
      · rw [decide_eq_false h0]
        have hm : m = 0 := by omega
        subst hm
        exact iteF ⟨rfl, x, _, rfl, by rw [← hg, Nat.gcd_zero_right]⟩
    rintro σ H' ⟨rfl, x, s1, rfl, rfl⟩
    walk_at "rd"
    exact q
noncomputable def sp__law_shared (K : PySem.W.Frag) : Sp := fun vs H Q _ => ∃ a b : Nat, vs = [.int a, .int b] ∧ Q (.int (Nat.gcd a b : Nat)) H
noncomputable abbrev s__law_shared : Stmt := top 53
theorem sc__law_shared : FnScope ["_law_a", "_law_b"] ["_law_a", "_law_b"] (defScope s__law_shared) := ⟨rfl, rfl, rfl, by decide +kernel, rfl, by decide +kernel, by decide +kernel⟩
theorem ok__law_shared {P : Program} {w : World} {K : PySem.W.Frag} {mg : Str → Option Value} {base : Heap} (D : Dfn K mg "_law_shared" s__law_shared ["_law_a", "_law_b"]) (T : Blt mg) : Cal P w K mg base "_law_shared" 1 ["_law_a", "_law_b"] (sp__law_shared K) := by
  have nd := (sc__law_shared).nd
  refine D.ok sc__law_shared (fun vs H Q E h => ?_) (fun X hX H vs Q E h => ?_)
  · obtain ⟨a, b, rfl, _⟩ := h; rfl
  · obtain ⟨f, cdv, A, outer, s, H0, E0, rfl, hr⟩ := hX
    obtain ⟨a, b, rfl, q⟩ := h
    refine ⟨_, (no_implicit_lambda% (pss_cons (no_implicit_lambda% (ps_whileJ PassesOwn.never (no_implicit_lambda% (pt_cmpR op_gt (no_implicit_lambda% (pv 1)) pe_int (nomark _))) (no_implicit_lambda% (pss_one (no_implicit_lambda% (ps_par (i := 0) (j := 1) rfl nd rfl rfl (by decide) rfl rfl (no_implicit_lambda% (pa_cons (no_implicit_lambda% (pv 1)) (no_implicit_lambda% (pa_cons (no_implicit_lambda% (pe_op op_mod (no_implicit_lambda% (pv 0)) (no_implicit_lambda% (pv 1)))) pa_nil)))) rfl))))))
        (no_implicit_lambda% (pss_one (no_implicit_lambda% (ps_ret (no_implicit_lambda% (pv 0)))))))), ?_⟩
    walk_at "rd"
    refine rd_while (fun m σ H' => H' = H ∧ ∃ (x y : Nat), σ = [some (.int x), some (.int y)] ∧ Nat.gcd x y = Nat.gcd a b ∧ m = y)
      (fun σ H' => H' = H ∧ ∃ (x : Nat) (s : St), σ = some (.int x) :: s ∧ x = Nat.gcd a b) b ⟨rfl, a, b, rfl, rfl, rfl⟩ ?_ ?_
    · rintro m σ H' ⟨rfl, x, y, rfl, hg, rfl⟩
      walk_at "rd"
      by_cases h0 : (0 : Int) < (m : Int)
      · rw [decide_eq_true h0]
        refine iteT ⟨_, fun _ _ h => h, ?_⟩
        walk_at "rd"
        refine ⟨x % m, Nat.mod_lt _ (by omega), rfl, m, x % m, rfl, by rw [gcd_step, hg], rfl⟩
      · rw [decide_eq_false h0]
        have hm : m = 0 := by omega
        subst hm
        exact iteF ⟨rfl, x, _, rfl, by rw [← hg, Nat.gcd_zero_right]⟩
    rintro σ H' ⟨rfl, x, s1, rfl, rfl⟩
    walk_at "rd"
    exact q
noncomputable def SN (H : Hp) (v : V) (b s : Nat) (o a : List Int) : Prop := StAt H v b s o a ∧ Gd b s o a
theorem SN.of {H : Hp} {v : V} {b s : Int} {o a : List Int} (h : StAt H v b s o a) (g : Gd b s o a) : SN H v b.toNat s.toNat o a := by
  have hb := g.ok.hb
  have hs := g.ok.hs
  have e1 : ((b.toNat : Nat) : Int) = b := Int.toNat_of_nonneg hb
  have e2 : ((s.toNat : Nat) : Int) = s := Int.toNat_of_nonneg (by omega)
  unfold SN
  rw [e1, e2]
  exact ⟨h, g⟩
theorem SN.s1 {H : Hp} {v : V} {b s : Nat} {o a : List Int} (h : SN H v b s o a) : 1 ≤ s := by have := h.2.ok.hs; omega
theorem SN.s8 {H : Hp} {v : V} {b s : Nat} {o a : List Int} (h : SN H v b s o a) : s ≤ 840 := by have := h.2.s8; omega
theorem SN.b3 {H : Hp} {v : V} {b s : Nat} {o a : List Int} (h : SN H v b s o a) : b ≤ 3000 := by have := h.2.b3; omega
noncomputable def sp_common_step (K : PySem.W.Frag) : Sp := fun vs H Q _ => ∃ v1 v2 b1 s1 o1 a1 b2 s2 o2 a2, vs = [v1, v2] ∧ SN H v1 b1 s1 o1 a1 ∧ SN H v2 b2 s2 o2 a2 ∧ Q (.int (cm s1 s2 : Nat)) H
noncomputable abbrev s_common_step : Stmt := top 36
theorem sc_common_step : FnScope ["one", "other"] ["one", "other"] (defScope s_common_step) := ⟨rfl, rfl, rfl, by decide +kernel, rfl, by decide +kernel, by decide +kernel⟩
theorem ok_common_step {P : Program} {w : World} {K : PySem.W.Frag} {mg : Str → Option Value} {base : Heap} (D : Dfn K mg "common_step" s_common_step ["one", "other"]) (T : Blt mg) (C_greatest_divisor : Cal P w K mg base "greatest_divisor" 1 ["one", "other"] (sp_greatest_divisor K)) : Cal P w K mg base "common_step" 2 ["one", "other"] (sp_common_step K) := by
  have nd := (sc_common_step).nd
  refine D.ok sc_common_step (fun vs H Q E h => ?_) (fun X hX H vs Q E h => ?_)
  · obtain ⟨v1, v2, b1, s1, o1, a1, b2, s2, o2, a2, rfl, _⟩ := h; rfl
  · obtain ⟨f, cdv, A, outer, s, H0, E0, rfl, hr⟩ := hX
    obtain ⟨v1, v2, b1, s1, o1, a1, b2, s2, o2, a2, rfl, h1, h2, q⟩ := h
    have g1 := h1.s1
    have g8 := h1.s8
    have f1 := h2.s1
    have f8 := h2.s8
    obtain ⟨⟨p1, q1, r1, rfl, k1, _, _⟩, _⟩ := h1
    obtain ⟨⟨p2, q2, r2, rfl, k2, _, _⟩, _⟩ := h2
    refine ⟨_, (no_implicit_lambda% (pss_one (no_implicit_lambda% (ps_ret (no_implicit_lambda% (pe_op op_mul (no_implicit_lambda% (pe_op op_fdivL (no_implicit_lambda% (pe_ix (ix_tupK K) (no_implicit_lambda% (pv 0)) pe_int (fun _ _ => rfl))) (no_implicit_lambda% (pe_cal C_greatest_divisor hr (no_implicit_lambda% (pa_cons (no_implicit_lambda% (pe_ix (ix_tupK K) (no_implicit_lambda% (pv 0)) pe_int (fun _ _ => rfl))) (no_implicit_lambda% (pa_cons (no_implicit_lambda% (pe_ix (ix_tupK K) (no_implicit_lambda% (pv 1)) pe_int (fun _ _ => rfl))) pa_nil)))))))) (no_implicit_lambda% (pe_ix (ix_tupK K) (no_implicit_lambda% (pv 1)) pe_int (fun _ _ => rfl))))))))), ?_⟩
    walk_at "rd"
    refine rd_ixT (SqT.of k1) rfl ?_
    walk_at "rd"
    refine rd_ixT (SqT.of k1) rfl ?_
    walk_at "rd"
    refine rd_ixT (SqT.of k2) rfl ?_
    walk_at "rd"
    refine ⟨s1, s2, rfl, ?_⟩
    have hg : 0 < Nat.gcd s1 s2 := Nat.gcd_pos_of_pos_left s2 g1
    have hg2 : Nat.gcd s1 s2 ≤ s1 := Nat.le_of_dvd g1 (Nat.gcd_dvd_left s1 s2)
    refine rd_I (show (0 : Int) < ((Nat.gcd s1 s2 : Nat) : Int) ∧ ((Nat.gcd s1 s2 : Nat) : Int) < 2 ^ 64 by omega) ?_
    walk_at "rd"
    refine rd_ixT (SqT.of k2) rfl ?_
    refine rd_I (show CMul _ _ from .inr (by omega)) ?_
    have e : ((s1 : Int) / ((Nat.gcd s1 s2 : Nat) : Int)) * (s2 : Int) = ((cm s1 s2 : Nat) : Int) := by
      unfold cm
      rw [Int.natCast_mul]
      rfl
    rw [e]
    exact q
theorem SN.et {H H' : Hp} (e : Et H H') {v : V} {b s : Nat} {o a : List Int} (h : SN H v b s o a) : SN H' v b s o a := ⟨h.1.et e, h.2⟩
noncomputable def PairNo (H : Hp) (v u : V) : Prop := NoS H v ∨ (Kn H 2 v ∧ stairV H v = true ∧ NoS H u)
theorem PairNo.et {H H' : Hp} {v u : V} (e : Et H H') (h : PairNo H v u) : PairNo H' v u := by
  rcases h with h | ⟨h1, h2, h3⟩
  · exact .inl (h.et e)
  · exact .inr ⟨h1.et e, (stairV_et e h1).trans h2, h3.et e⟩
noncomputable def PairGr (H : Hp) (v u : V) : Prop := (∃ b1 s1 o1 a1 b2 s2 o2 a2, StAt H v b1 s1 o1 a1 ∧ Ok b1 s1 o1 a1 ∧ StAt H u b2 s2 o2 a2 ∧ Ok b2 s2 o2 a2 ∧ (3000 < b1 ∨ 840 < s1 ∨ 3000 < b2 ∨ 840 < s2)) ∨
  ∃ b1 s1 o1 a1 b2 s2 o2 a2, SN H v b1 s1 o1 a1 ∧ SN H u b2 s2 o2 a2 ∧ 840 < cm s1 s2
theorem PairGr.et {H H' : Hp} {v u : V} (e : Et H H') (h : PairGr H v u) : PairGr H' v u := by
  rcases h with ⟨b1, s1, o1, a1, b2, s2, o2, a2, h1, h2, h3, h4, h5⟩ | ⟨b1, s1, o1, a1, b2, s2, o2, a2, h1, h2, h3⟩
  · exact .inl ⟨b1, s1, o1, a1, b2, s2, o2, a2, h1.et e, h2, h3.et e, h4, h5⟩
  · exact .inr ⟨b1, s1, o1, a1, b2, s2, o2, a2, h1.et e, h2.et e, h3⟩
noncomputable def BadP (K : PySem.W.Frag) (H : Hp) (v u : V) (E : XK) : Prop := (PairNo H v u ∧ E (.ref (cA K "NoStair")) none H) ∨ (PairGr H v u ∧ E (.ref (cA K "TooGreat")) none H)
noncomputable def sp_refuse_bad_pair (K : PySem.W.Frag) : Sp := fun vs H Q E => ∃ v1 v2, vs = [v1, v2] ∧ ((∃ b1 s1 o1 a1 b2 s2 o2 a2, SN H v1 b1 s1 o1 a1 ∧ SN H v2 b2 s2 o2 a2 ∧ cm s1 s2 ≤ 840 ∧ Q .non H) ∨ BadP K H v1 v2 E)
noncomputable abbrev s_refuse_bad_pair : Stmt := top 37
theorem sc_refuse_bad_pair : FnScope ["one", "other"] ["one", "other"] (defScope s_refuse_bad_pair) := ⟨rfl, rfl, rfl, by decide +kernel, rfl, by decide +kernel, by decide +kernel⟩
theorem ok_refuse_bad_pair {P : Program} {w : World} {K : PySem.W.Frag} {mg : Str → Option Value} {base : Heap} (D : Dfn K mg "refuse_bad_pair" s_refuse_bad_pair ["one", "other"]) (T : Blt mg) (g_GREATEST_STEP : ∃ t, mg "GREATEST_STEP" = some (.int 840 t)) (XF : Xf K mg base allC raisedC) (C_common_step : Cal P w K mg base "common_step" 2 ["one", "other"] (sp_common_step K)) (CX_refuse_great_stair : CalX P w K mg base "refuse_great_stair" 1 ["stair"] (sp_refuse_great_stair K)) (CX_refuse_no_stair : CalX P w K mg base "refuse_no_stair" 5 ["thing"] (sp_refuse_no_stair K)) : CalX P w K mg base "refuse_bad_pair" 6 ["one", "other"] (sp_refuse_bad_pair K) := by
  have nd := (sc_refuse_bad_pair).nd
  refine D.okX sc_refuse_bad_pair (fun vs H Q E h => ?_) (fun f cdv A outer s H vs Q E hr h => ?_)
  · obtain ⟨v1, v2, rfl, _⟩ := h; rfl
  · obtain ⟨t_GREATEST_STEP, c_GREATEST_STEP⟩ := g_GREATEST_STEP
    obtain ⟨v1, v2, rfl, hh⟩ := h
    refine ⟨_, (no_implicit_lambda% (pss_cons (no_implicit_lambda% (ps_expr (no_implicit_lambda% (pe_calX CX_refuse_no_stair hr (no_implicit_lambda% (pa_cons (no_implicit_lambda% (pv 0)) pa_nil))))))
        (no_implicit_lambda% (pss_cons (no_implicit_lambda% (ps_expr (no_implicit_lambda% (pe_calX CX_refuse_no_stair hr (no_implicit_lambda% (pa_cons (no_implicit_lambda% (pv 1)) pa_nil))))))
        (no_implicit_lambda% (pss_cons (no_implicit_lambda% (ps_expr (no_implicit_lambda% (pe_calX CX_refuse_great_stair hr (no_implicit_lambda% (pa_cons (no_implicit_lambda% (pv 0)) pa_nil))))))
        (no_implicit_lambda% (pss_cons (no_implicit_lambda% (ps_expr (no_implicit_lambda% (pe_calX CX_refuse_great_stair hr (no_implicit_lambda% (pa_cons (no_implicit_lambda% (pv 1)) pa_nil))))))
        (no_implicit_lambda% (pss_one (no_implicit_lambda% (ps_if (no_implicit_lambda% (pt_cmpR op_gt (no_implicit_lambda% (pe_cal C_common_step hr (no_implicit_lambda% (pa_cons (no_implicit_lambda% (pv 0)) (no_implicit_lambda% (pa_cons (no_implicit_lambda% (pv 1)) pa_nil)))))) (no_implicit_lambda% (pe_glob (v := .int 840) rfl c_GREATEST_STEP ⟨_, rfl⟩)) (nomark _))) (no_implicit_lambda% (pss_one (no_implicit_lambda% (ps_raise (XF.own "TooGreat" (by decide +kernel)) PySem.F.excBase_ValueError (no_implicit_lambda% (pa_cons (no_implicit_lambda% (pe_fstr (no_implicit_lambda% (pe_glob (v := .int 840) rfl c_GREATEST_STEP ⟨_, rfl⟩)))) pa_nil)))))) pss_nil)))))))))))), ?_⟩
    walk_at "rd"
    rcases hh with ⟨b1, s1, o1, a1, b2, s2, o2, a2, h1, h2, hc, q⟩ | ⟨hn | ⟨k1, y1, hn⟩, q⟩ | ⟨⟨b1, s1, o1, a1, b2, s2, o2, a2, h1, g1, h2, g2, hg⟩ | ⟨b1, s1, o1, a1, b2, s2, o2, a2, h1, h2, hc⟩, q⟩
    · refine ⟨v1, rfl, h1.1.kn, ?_⟩
      rw [h1.1.yes h1.2.ok, if_pos rfl]
      walk_at "rd"
      refine ⟨v2, rfl, h2.1.kn, ?_⟩
      rw [h2.1.yes h2.2.ok, if_pos rfl]
      walk_at "rd"
      refine ⟨v1, _, _, _, _, rfl, h1.1, .inl ⟨h1.2.b3, h1.2.s8, ?_⟩⟩
      walk_at "rd"
      refine ⟨v2, _, _, _, _, rfl, h2.1, .inl ⟨h2.2.b3, h2.2.s8, ?_⟩⟩
      walk_at "rd"
      refine ⟨v1, v2, b1, s1, o1, a1, b2, s2, o2, a2, rfl, h1, h2, ?_⟩
      walk_at "rd"
      rw [decide_eq_false (show ¬ (840 : Int) < ((cm s1 s2 : Nat) : Int) by omega)]
      exact iteF q
    · refine ⟨v1, rfl, hn.1, ?_⟩
      rw [hn.2]
      exact iteF q
    · refine ⟨v1, rfl, k1, ?_⟩
      rw [y1, if_pos rfl]
      walk_at "rd"
      refine ⟨v2, rfl, hn.1, ?_⟩
      rw [hn.2]
      exact iteF q
    · refine ⟨v1, rfl, h1.kn, ?_⟩
      rw [h1.yes g1, if_pos rfl]
      walk_at "rd"
      refine ⟨v2, rfl, h2.kn, ?_⟩
      rw [h2.yes g2, if_pos rfl]
      walk_at "rd"
      by_cases hb : 3000 < b1 ∨ 840 < s1
      · exact ⟨v1, _, _, _, _, rfl, h1, .inr ⟨hb, q⟩⟩
      · refine ⟨v1, _, _, _, _, rfl, h1, .inl ⟨by omega, by omega, ?_⟩⟩
        walk_at "rd"
        exact ⟨v2, _, _, _, _, rfl, h2, .inr ⟨by omega, q⟩⟩
    · refine ⟨v1, rfl, h1.1.kn, ?_⟩
      rw [h1.1.yes h1.2.ok, if_pos rfl]
      walk_at "rd"
      refine ⟨v2, rfl, h2.1.kn, ?_⟩
      rw [h2.1.yes h2.2.ok, if_pos rfl]
      walk_at "rd"
      refine ⟨v1, _, _, _, _, rfl, h1.1, .inl ⟨h1.2.b3, h1.2.s8, ?_⟩⟩
      walk_at "rd"
      refine ⟨v2, _, _, _, _, rfl, h2.1, .inl ⟨h2.2.b3, h2.2.s8, ?_⟩⟩
      walk_at "rd"
      refine ⟨v1, v2, b1, s1, o1, a1, b2, s2, o2, a2, rfl, h1, h2, ?_⟩
      walk_at "rd"
      rw [decide_eq_true (show (840 : Int) < ((cm s1 s2 : Nat) : Int) by omega)]
      refine iteT ?_
      walk_at "rd"
      refine ⟨by decide, by decide +kernel, fun z => ?_⟩
      walk_at "rd"
      exact ⟨(show 1 ≤ sizeLine by decide), q⟩
noncomputable def sp_chosen (K : PySem.W.Frag) : Sp := fun vs H Q E => ∃ v1 v2 f, vs = [v1, v2, .ref f] ∧ ((∃ g b1 s1 o1 a1 b2 s2 o2 a2, SN H v1 b1 s1 o1 a1 ∧ SN H v2 b2 s2 o2 a2 ∧ cm s1 s2 ≤ 840 ∧ IsLam H f g ∧
  ∀ v (l d : Nat) H', Ext H H' → Least (pairF g (fn b1 s1 o1 a1) (fn b2 s2 o2 a2)) d l → l ≤ max b1 b2 → d ≤ cm s1 s2 → StAt H' v l d (row (pairF g (fn b1 s1 o1 a1) (fn b2 s2 o2 a2)) 0 l) (row (pairF g (fn b1 s1 o1 a1) (fn b2 s2 o2 a2)) l d) → Q v H') ∨ BadP K H v1 v2 E)
theorem fn_perN {b s : Nat} {o a : List Int} (g : Gd b s o a) : Per (fn b s o a) b s := by
  have := fn_per g.ok
  simpa using this
noncomputable abbrev s_chosen : Stmt := top 38
theorem sc_chosen : FnScope ["one", "other", "choice", "base", "end", "marks"] ["one", "other", "choice"] (defScope s_chosen) := ⟨rfl, rfl, rfl, by decide +kernel, rfl, by decide +kernel, by decide +kernel⟩
theorem ok_chosen {P : Program} {w : World} {K : PySem.W.Frag} {mg : Str → Option Value} {base : Heap} (D : Dfn K mg "chosen" s_chosen ["one", "other", "choice"]) (T : Blt mg) (C_stair_of_marks : Cal P w K mg base "stair_of_marks" 2 ["marks", "base"] (sp_stair_of_marks K)) (C_marks_below : Cal P w K mg base "marks_below" 1 ["stair", "end"] (sp_marks_below K)) (C_common_step : Cal P w K mg base "common_step" 2 ["one", "other"] (sp_common_step K)) (CX_refuse_bad_pair : CalX P w K mg base "refuse_bad_pair" 6 ["one", "other"] (sp_refuse_bad_pair K)) : CalX P w K mg base "chosen" 7 ["one", "other", "choice"] (sp_chosen K) := by
  have nd := (sc_chosen).nd
  refine D.okX sc_chosen (fun vs H Q E h => ?_) (fun f cdv A outer s H vs Q E hr h => ?_)
  · obtain ⟨v1, v2, f, rfl, _⟩ := h; rfl
  · obtain ⟨v1, v2, fl, rfl, hh⟩ := h
    refine ⟨_, (no_implicit_lambda% (pss_cons (no_implicit_lambda% (ps_expr (no_implicit_lambda% (pe_calX CX_refuse_bad_pair hr (no_implicit_lambda% (pa_cons (no_implicit_lambda% (pv 0)) (no_implicit_lambda% (pa_cons (no_implicit_lambda% (pv 1)) pa_nil))))))))
        (no_implicit_lambda% (pss_cons (no_implicit_lambda% (ps_set (i := 3) nd rfl (Or.inl rfl) (no_implicit_lambda% (pe_callB (call_max2N rfl) rfl T.max_ PyProof.Rows.boot_max (no_implicit_lambda% (pa_cons (no_implicit_lambda% (pe_ix (ix_tupK K) (no_implicit_lambda% (pv 0)) pe_int (fun _ _ => rfl))) (no_implicit_lambda% (pa_cons (no_implicit_lambda% (pe_ix (ix_tupK K) (no_implicit_lambda% (pv 1)) pe_int (fun _ _ => rfl))) pa_nil))))))))
        (no_implicit_lambda% (pss_cons (no_implicit_lambda% (ps_set (i := 4) nd rfl (Or.inl rfl) (no_implicit_lambda% (pe_op op_add (no_implicit_lambda% (pv 3)) (no_implicit_lambda% (pe_cal C_common_step hr (no_implicit_lambda% (pa_cons (no_implicit_lambda% (pv 0)) (no_implicit_lambda% (pa_cons (no_implicit_lambda% (pv 1)) pa_nil))))))))))
        (no_implicit_lambda% (pss_cons (no_implicit_lambda% (ps_setComp (i := 5) ["p", "q"] [2] nd rfl (Or.inl rfl) (no_implicit_lambda% (pi_zip K rfl T.zip_ (no_implicit_lambda% (pa_cons (no_implicit_lambda% (pe_cal C_marks_below hr (no_implicit_lambda% (pa_cons (no_implicit_lambda% (pv 0)) (no_implicit_lambda% (pa_cons (no_implicit_lambda% (pv 4)) pa_nil)))))) (no_implicit_lambda% (pa_cons (no_implicit_lambda% (pe_cal C_marks_below hr (no_implicit_lambda% (pa_cons (no_implicit_lambda% (pv 1)) (no_implicit_lambda% (pa_cons (no_implicit_lambda% (pv 4)) pa_nil)))))) pa_nil)))))) (fun _ => (no_implicit_lambda% (pg_tupK (n := 2) K rfl (pgs_cons (no_implicit_lambda% (pg_name (i := 0) (show (["p", "q", "choice"] : List Str).Nodup from by decide +kernel) rfl (Or.inl rfl) (Or.inr rfl))) (pgs_cons (no_implicit_lambda% (pg_name (i := 1) (show (["p", "q", "choice"] : List Str).Nodup from by decide +kernel) rfl (Or.inl rfl) (Or.inr rfl))) pgs_nil))))) (fun _ => pcs_nil) (fun _ => (no_implicit_lambda% (pe_calV hr (no_implicit_lambda% (pv 2)) (no_implicit_lambda% (pa_cons (no_implicit_lambda% (pv 0)) (no_implicit_lambda% (pa_cons (no_implicit_lambda% (pv 1)) pa_nil)))))))))
        (no_implicit_lambda% (pss_one (no_implicit_lambda% (ps_ret (no_implicit_lambda% (pe_cal C_stair_of_marks hr (no_implicit_lambda% (pa_cons (no_implicit_lambda% (pv 5)) (no_implicit_lambda% (pa_cons (no_implicit_lambda% (pv 3)) pa_nil)))))))))))))))))), ?_⟩
    walk_at "rd"
    rcases hh with ⟨g, b1, s1, o1, a1, b2, s2, o2, a2, h1, h2, hc, hlam, q⟩ | hb
    rotate_left
    · exact ⟨v1, v2, rfl, .inr hb⟩
    have x1 := h1.b3
    have x2 := h2.b3
    have c1 := cm_pos h1.s1 h2.s1
    refine ⟨v1, v2, rfl, .inl ⟨b1, s1, o1, a1, b2, s2, o2, a2, h1, h2, hc, ?_⟩⟩
    obtain ⟨p1, q1, r1, rfl, k1, _, _⟩ := id h1.1
    obtain ⟨p2, q2, r2, rfl, k2, _, _⟩ := id h2.1
    walk_at "rd"
    refine rd_ixT (SqT.of k1) rfl ?_
    walk_at "rd"
    refine rd_ixT (SqT.of k2) rfl ?_
    walk_at "rd"
    have em : (if (b2 : Int) > (b1 : Int) then (b2 : Int) else (b1 : Int)) = ((max b1 b2 : Nat) : Int) := by split <;> omega
    rw [em]
    refine ⟨_, _, b1, s1, o1, a1, b2, s2, o2, a2, rfl, h1, h2, ?_⟩
    walk_at "rd"
    refine ⟨_, ((max b1 b2 : Nat) : Int) + ((cm s1 s2 : Nat) : Int), b1, s1, o1, a1, rfl, h1.1, h1.2, by omega, by omega, fun m1 H1 e1 hn1 hm1 => ?_⟩
    walk_at "rd"
    refine ⟨_, ((max b1 b2 : Nat) : Int) + ((cm s1 s2 : Nat) : Int), b2, s2, o2, a2, rfl, h2.1.ext e1, h2.2, by omega, by omega, fun m2 H2 e2 hn2 hm2 => ?_⟩
    have et : (((max b1 b2 : Nat) : Int) + ((cm s1 s2 : Nat) : Int)).toNat = max b1 b2 + cm s1 s2 := by omega
    rw [et] at hm1 hm2
    have hm1' := e2 _ _ hm1
    walk_at "rd"
    refine rd_zipL (SqL.of hm1') (SqL.of hm2) ?_
    refine comp_zipL (xs := mkB (max b1 b2 + cm s1 s2) (fn b1 s1 o1 a1)) (ys := mkB (max b1 b2 + cm s1 s2) (fn b2 s2 o2 a2)) (fun i zs H' => Ext H2 H' ∧ zs = mkB i (pairF g (fn b1 s1 o1 a1) (fn b2 s2 o2 a2))) (small_line (by rw [mkB_len]; omega)) ⟨Ext.rfl' H2, rfl⟩ ?_ ?_ ?_
    · rintro i zs H' ⟨e, rfl⟩
      exact ⟨SqL.of (e _ _ hm1'), SqL.of (e _ _ hm2), by rw [mkB_len]; exact Nat.le_refl _⟩
    · rintro i u v zs H' p4 H4 hu hv ⟨e, rfl⟩ e4 h4 hn4
      have hi : i < max b1 b2 + cm s1 s2 := by
        have := (List.getElem?_eq_some_iff.mp hu).1
        rwa [mkB_len] at this
      rw [mkB_get _ hi] at hu hv
      cases hu
      cases hv
      have hl4 := hlam.ext (e1.trans (e2.trans (e.trans e4)))
      refine rd_gtup (SqT.of h4) rfl ?_
      walk_at "rd"
      refine iteT ?_
      walk_at "rd"
      refine ⟨⟨fl, g, rfl, hl4⟩, ?_⟩
      walk_at "rd"
      refine ⟨fl, g, _, _, rfl, rfl, hl4, e.trans e4, ?_⟩
      rw [mkB_succ]
      rfl
    rintro zs H' p5 ⟨e, rfl⟩ hp5
    rw [mkB_len, mkB_len, Nat.min_self]
    walk_at "rd"
    have e6 : Ext H' (upd H' p5 (.lst (mkB (max b1 b2 + cm s1 s2) (pairF g (fn b1 s1 o1 a1) (fn b2 s2 o2 a2))))) := ext_upd hp5
    refine ⟨p5, max b1 b2, cm s1 s2, _, rfl, c1, by omega, upd_same, pair_per (fn_perN h1.2) (fn_perN h2.2), fun v l d H7 e7 hL hl hd hst => ?_⟩
    exact q v l d H7 (e1.trans (e2.trans (e.trans (e6.trans e7)))) hL hl hd hst
noncomputable def firstV : List Int → V
  | [] => .non
  | x :: _ => .int x
noncomputable def sp_first_of (K : PySem.W.Frag) : Sp := fun vs H Q E => ∃ v, vs = [v] ∧ ((∃ b s o a, StAt H v b s o a ∧ Gd b s o a ∧ ∀ H', Ext H H' → Q (firstV (o ++ a)) H') ∨ BadS K H v E)
noncomputable abbrev s_first_of : Stmt := top 29
theorem sc_first_of : FnScope ["stair", "numbers"] ["stair"] (defScope s_first_of) := ⟨rfl, rfl, rfl, by decide +kernel, rfl, by decide +kernel, by decide +kernel⟩
theorem ok_first_of {P : Program} {w : World} {K : PySem.W.Frag} {mg : Str → Option Value} {base : Heap} (D : Dfn K mg "first_of" s_first_of ["stair"]) (T : Blt mg) (CX_refuse_bad_stair : CalX P w K mg base "refuse_bad_stair" 6 ["thing"] (sp_refuse_bad_stair K)) : CalX P w K mg base "first_of" 7 ["stair"] (sp_first_of K) := by
  have nd := (sc_first_of).nd
  refine D.okX sc_first_of (fun vs H Q E h => ?_) (fun f cdv A outer s H vs Q E hr h => ?_)
  · obtain ⟨v, rfl, _⟩ := h; rfl
  · obtain ⟨v, rfl, hh⟩ := h
    refine ⟨_, (no_implicit_lambda% (pss_cons (no_implicit_lambda% (ps_expr (no_implicit_lambda% (pe_calX CX_refuse_bad_stair hr (no_implicit_lambda% (pa_cons (no_implicit_lambda% (pv 0)) pa_nil))))))
        (no_implicit_lambda% (pss_cons (no_implicit_lambda% (ps_set (i := 1) nd rfl (Or.inl rfl) (no_implicit_lambda% (pe_op op_catT1 (no_implicit_lambda% (pe_ix (ix_tupK K) (no_implicit_lambda% (pv 0)) pe_int (fun _ _ => rfl))) (no_implicit_lambda% (pe_ix (ix_tupK K) (no_implicit_lambda% (pv 0)) pe_int (fun _ _ => rfl)))))))
        (no_implicit_lambda% (pss_one (no_implicit_lambda% (ps_ret (no_implicit_lambda% (pe_ifExp (no_implicit_lambda% (pt_truthK K (no_implicit_lambda% (pv 1)) (fun _ => rfl))) (no_implicit_lambda% (pe_ix (ix_tupK K) (no_implicit_lambda% (pv 1)) pe_int (fun _ _ => rfl))) pe_non)))))))))), ?_⟩
    walk_at "rd"
    rcases hh with ⟨b, s', o, a, hv, hg, q⟩ | hb
    rotate_left
    · exact ⟨v, rfl, .inr hb⟩
    have lo := hg.lo
    have la := hg.la
    refine ⟨v, rfl, .inl ⟨b, s', o, a, hv, hg, ?_⟩⟩
    obtain ⟨p, q', r, rfl, h1, h2, h3⟩ := hv
    walk_at "rd"
    refine rd_ixT (SqT.of h1) rfl ?_
    walk_at "rd"
    refine rd_ixT (SqT.of h1) rfl ?_
    refine rd_catT1 h2 h3 (small_line (by rw [List.length_map, List.length_map]; omega)) fun t H' e ht => ?_
    rw [← List.map_append] at ht
    walk_at "rd"
    refine ⟨!((o ++ a).map V.int).isEmpty, .inr (.inl ⟨_, SqT.of ht, rfl⟩), ?_⟩
    have hq := q H' e
    cases hoa : o ++ a with
    | nil =>
      rw [hoa] at hq
      refine iteF ?_
      walk_at "rd"
      exact hq
    | cons x xs =>
      rw [hoa] at hq ht
      refine iteT ?_
      walk_at "rd"
      refine rd_ixT (SqT.of ht) (v := .int x) (atI_nat (j := 0) rfl) ?_
      exact hq
noncomputable def andF : Bool → Bool → Bool := fun x y => x && y
noncomputable def orF : Bool → Bool → Bool := fun x y => x || y
noncomputable def lessF : Bool → Bool → Bool := fun x y => x && !y
noncomputable def neF : Bool → Bool → Bool := fun x y => !(x == y)
theorem row_gdN {f : Nat → Bool} {l d : Nat} (h1 : 1 ≤ d) (h2 : l ≤ 3000) (h3 : d ≤ 840) : Gd l d (row f 0 l) (row f l d) := ⟨row_ok f l d h1, by omega, by omega⟩
noncomputable def Dis (K : PySem.W.Frag) : Prop := ∀ x ∈ (["both", "either", "less", "parting"] : List Str), ∀ y ∈ (["both", "either", "less", "parting"] : List Str), x ≠ y → ∀ c T c' T', PySem.W.tabIn K x = some (c, T) → PySem.W.tabIn K y = some (c', T') → T' ≠ T
noncomputable def disB (K : PySem.W.Frag) : Bool := (["both", "either", "less", "parting"] : List Str).all fun x => (["both", "either", "less", "parting"] : List Str).all fun y => x == y || (match PySem.W.tabIn K x, PySem.W.tabIn K y with | some a, some b => b.2 != a.2 | _, _ => true)
theorem dis_of {K : PySem.W.Frag} (h : disB K = true) : Dis K := fun x hx y hy hn c T c' T' e1 e2 => by
  have h1 := List.all_eq_true.mp (List.all_eq_true.mp h x hx) y hy
  rw [e1, e2, Bool.or_eq_true] at h1
  rcases h1 with h1 | h1
  · exact absurd (eq_of_beq h1) hn
  · exact bne_iff_ne.mp h1
structure Tabs4 (K : PySem.W.Frag) (H : Hp) : Prop where
  both : TabOk K "both" ("both" ++ ".<locals>." ++ "<lambda>") 144 30 H
  either : TabOk K "either" ("either" ++ ".<locals>." ++ "<lambda>") 146 30 H
  less : TabOk K "less" ("less" ++ ".<locals>." ++ "<lambda>") 148 30 H
  parting : TabOk K "parting" ("parting" ++ ".<locals>." ++ "<lambda>") 150 39 H
theorem Tabs4.ext {K : PySem.W.Frag} {H H' : Hp} (e : Ext H H') (h : Tabs4 K H) : Tabs4 K H' := ⟨h.both.ext e, h.either.ext e, h.less.ext e, h.parting.ext e⟩
noncomputable def GoodP (H : Hp) (v u : V) : Prop := ∃ b1 s1 o1 a1 b2 s2 o2 a2, SN H v b1 s1 o1 a1 ∧ SN H u b2 s2 o2 a2 ∧ cm s1 s2 ≤ 840
theorem GoodP.et {H H' : Hp} {v u : V} (e : Et H H') (h : GoodP H v u) : GoodP H' v u := by
  obtain ⟨b1, s1, o1, a1, b2, s2, o2, a2, h1, h2, h3⟩ := h
  exact ⟨b1, s1, o1, a1, b2, s2, o2, a2, h1.et e, h2.et e, h3⟩
noncomputable def Two (K : PySem.W.Frag) (H : Hp) (v u : V) (E : XK) (R : Hp → Prop) : Prop := Dis K ∧ Tabs4 K H ∧
  ((GoodP H v u ∧ ∀ H', Et H H' → Tabs4 K H' → R H') ∨ (PairNo H v u ∧ ∀ H', Et H H' → Tabs4 K H' → E (.ref (cA K "NoStair")) none H') ∨ (PairGr H v u ∧ ∀ H', Et H H' → Tabs4 K H' → E (.ref (cA K "TooGreat")) none H'))
noncomputable def sp_both (K : PySem.W.Frag) : Sp := fun vs H Q E => ∃ v1 v2, vs = [v1, v2] ∧ Two K H v1 v2 E (fun H' => ∀ v b s o a, StAt H' v b s o a → Gd b s o a → Q v H')
noncomputable abbrev s_both : Stmt := top 39
theorem sc_both : FnScope ["one", "other"] ["one", "other"] (defScope s_both) := ⟨rfl, rfl, rfl, by decide +kernel, rfl, by decide +kernel, by decide +kernel⟩
theorem ok_both {P : Program} {w : World} {K : PySem.W.Frag} {mg : Str → Option Value} {base : Heap} (D : Dfn K mg "both" s_both ["one", "other"]) (T : Blt mg) {c9 T9 : Addr} (B : Tab K mg base "both" c9 T9) (CX_chosen : CalX P w K mg base "chosen" 7 ["one", "other", "choice"] (sp_chosen K)) : CalX P w K mg base "both" 8 ["one", "other"] (sp_both K) := by
  have nd := (sc_both).nd
  refine D.okLX B sc_both (fun vs H Q E h => ?_) (fun f A outer s H vs Q E hr h => ?_)
  · obtain ⟨v1, v2, rfl, _⟩ := h; rfl
  · obtain ⟨v1, v2, rfl, dis, htab, hh⟩ := h
    refine ⟨_, (no_implicit_lambda% (pss_one (no_implicit_lambda% (ps_ret (no_implicit_lambda% (pe_calX CX_chosen hr (no_implicit_lambda% (pa_cons (no_implicit_lambda% (pv 0)) (no_implicit_lambda% (pa_cons (no_implicit_lambda% (pv 1)) (no_implicit_lambda% (pa_cons (no_implicit_lambda% (pe_lam rfl rfl B.hd B.blt B.gl (by decide +kernel) rfl rfl)) pa_nil)))))))))))), ?_⟩
    walk_at "rd"
    refine rd_lamT2 (x := "both") htab.both B.tin fun fl c' H1 e1 ht1 ot hf hc1 => ?_
    have t4 : Tabs4 K H1 := ⟨ht1, ot "either" _ _ _ (fun c2 T2 e2 => dis "both" (by simp) "either" (by simp) (by decide +kernel) _ _ _ _ B.tin e2) htab.either, ot "less" _ _ _ (fun c2 T2 e2 => dis "both" (by simp) "less" (by simp) (by decide +kernel) _ _ _ _ B.tin e2) htab.less, ot "parting" _ _ _ (fun c2 T2 e2 => dis "both" (by simp) "parting" (by simp) (by decide +kernel) _ _ _ _ B.tin e2) htab.parting⟩
    walk_at "rd"
    rcases hh with ⟨hg, q⟩ | ⟨hn, q⟩ | ⟨hg, q⟩
    rotate_left
    · exact ⟨v1, v2, fl, rfl, .inr (.inl ⟨hn.et e1, q H1 e1 t4⟩)⟩
    · exact ⟨v1, v2, fl, rfl, .inr (.inr ⟨hg.et e1, q H1 e1 t4⟩)⟩
    obtain ⟨b1, s1, o1, a1, b2, s2, o2, a2, h1, h2, hc⟩ := hg
    have x1 := h1.b3
    have x2 := h2.b3
    refine ⟨v1, v2, fl, rfl, .inl ⟨andF, b1, s1, o1, a1, b2, s2, o2, a2, h1.et e1, h2.et e1, hc, ⟨c', _, _, _, _, hf, hc1, .and, ⟨⟨rfl, rfl, rfl, by decide +kernel, rfl, by decide +kernel, by decide +kernel⟩, rfl, rfl, fun _ _ _ _ _ _ _ => rfl⟩⟩, fun v l d H2 e2 hL hl hd hst => ?_⟩⟩
    exact q H2 (e1.trans e2.et) (t4.ext e2) v _ _ _ _ hst (row_gdN hL.pos (by omega) (by omega))
noncomputable def sp_either (K : PySem.W.Frag) : Sp := fun vs H Q E => ∃ v1 v2, vs = [v1, v2] ∧ Two K H v1 v2 E (fun H' => ∀ v b s o a, StAt H' v b s o a → Gd b s o a → Q v H')
noncomputable abbrev s_either : Stmt := top 40
theorem sc_either : FnScope ["one", "other"] ["one", "other"] (defScope s_either) := ⟨rfl, rfl, rfl, by decide +kernel, rfl, by decide +kernel, by decide +kernel⟩
theorem ok_either {P : Program} {w : World} {K : PySem.W.Frag} {mg : Str → Option Value} {base : Heap} (D : Dfn K mg "either" s_either ["one", "other"]) (T : Blt mg) {c9 T9 : Addr} (B : Tab K mg base "either" c9 T9) (CX_chosen : CalX P w K mg base "chosen" 7 ["one", "other", "choice"] (sp_chosen K)) : CalX P w K mg base "either" 8 ["one", "other"] (sp_either K) := by
  have nd := (sc_either).nd
  refine D.okLX B sc_either (fun vs H Q E h => ?_) (fun f A outer s H vs Q E hr h => ?_)
  · obtain ⟨v1, v2, rfl, _⟩ := h; rfl
  · obtain ⟨v1, v2, rfl, dis, htab, hh⟩ := h
    refine ⟨_, (no_implicit_lambda% (pss_one (no_implicit_lambda% (ps_ret (no_implicit_lambda% (pe_calX CX_chosen hr (no_implicit_lambda% (pa_cons (no_implicit_lambda% (pv 0)) (no_implicit_lambda% (pa_cons (no_implicit_lambda% (pv 1)) (no_implicit_lambda% (pa_cons (no_implicit_lambda% (pe_lam rfl rfl B.hd B.blt B.gl (by decide +kernel) rfl rfl)) pa_nil)))))))))))), ?_⟩
    walk_at "rd"
    refine rd_lamT2 (x := "either") htab.either B.tin fun fl c' H1 e1 ht1 ot hf hc1 => ?_
    have t4 : Tabs4 K H1 := ⟨ot "both" _ _ _ (fun c2 T2 e2 => dis "either" (by simp) "both" (by simp) (by decide +kernel) _ _ _ _ B.tin e2) htab.both, ht1, ot "less" _ _ _ (fun c2 T2 e2 => dis "either" (by simp) "less" (by simp) (by decide +kernel) _ _ _ _ B.tin e2) htab.less, ot "parting" _ _ _ (fun c2 T2 e2 => dis "either" (by simp) "parting" (by simp) (by decide +kernel) _ _ _ _ B.tin e2) htab.parting⟩
    walk_at "rd"
    rcases hh with ⟨hg, q⟩ | ⟨hn, q⟩ | ⟨hg, q⟩
    rotate_left
    · exact ⟨v1, v2, fl, rfl, .inr (.inl ⟨hn.et e1, q H1 e1 t4⟩)⟩
    · exact ⟨v1, v2, fl, rfl, .inr (.inr ⟨hg.et e1, q H1 e1 t4⟩)⟩
    obtain ⟨b1, s1, o1, a1, b2, s2, o2, a2, h1, h2, hc⟩ := hg
    have x1 := h1.b3
    have x2 := h2.b3
    refine ⟨v1, v2, fl, rfl, .inl ⟨orF, b1, s1, o1, a1, b2, s2, o2, a2, h1.et e1, h2.et e1, hc, ⟨c', _, _, _, _, hf, hc1, .or, ⟨⟨rfl, rfl, rfl, by decide +kernel, rfl, by decide +kernel, by decide +kernel⟩, rfl, rfl, fun _ _ _ _ _ _ _ => rfl⟩⟩, fun v l d H2 e2 hL hl hd hst => ?_⟩⟩
    exact q H2 (e1.trans e2.et) (t4.ext e2) v _ _ _ _ hst (row_gdN hL.pos (by omega) (by omega))
noncomputable def sp_less (K : PySem.W.Frag) : Sp := fun vs H Q E => ∃ v1 v2, vs = [v1, v2] ∧ Two K H v1 v2 E (fun H' => ∀ v b s o a, StAt H' v b s o a → Gd b s o a → Q v H')
noncomputable abbrev s_less : Stmt := top 41
theorem sc_less : FnScope ["one", "other"] ["one", "other"] (defScope s_less) := ⟨rfl, rfl, rfl, by decide +kernel, rfl, by decide +kernel, by decide +kernel⟩
theorem ok_less {P : Program} {w : World} {K : PySem.W.Frag} {mg : Str → Option Value} {base : Heap} (D : Dfn K mg "less" s_less ["one", "other"]) (T : Blt mg) {c9 T9 : Addr} (B : Tab K mg base "less" c9 T9) (CX_chosen : CalX P w K mg base "chosen" 7 ["one", "other", "choice"] (sp_chosen K)) : CalX P w K mg base "less" 8 ["one", "other"] (sp_less K) := by
  have nd := (sc_less).nd
  refine D.okLX B sc_less (fun vs H Q E h => ?_) (fun f A outer s H vs Q E hr h => ?_)
  · obtain ⟨v1, v2, rfl, _⟩ := h; rfl
  · obtain ⟨v1, v2, rfl, dis, htab, hh⟩ := h
    refine ⟨_, (no_implicit_lambda% (pss_one (no_implicit_lambda% (ps_ret (no_implicit_lambda% (pe_calX CX_chosen hr (no_implicit_lambda% (pa_cons (no_implicit_lambda% (pv 0)) (no_implicit_lambda% (pa_cons (no_implicit_lambda% (pv 1)) (no_implicit_lambda% (pa_cons (no_implicit_lambda% (pe_lam rfl rfl B.hd B.blt B.gl (by decide +kernel) rfl rfl)) pa_nil)))))))))))), ?_⟩
    walk_at "rd"
    refine rd_lamT2 (x := "less") htab.less B.tin fun fl c' H1 e1 ht1 ot hf hc1 => ?_
    have t4 : Tabs4 K H1 := ⟨ot "both" _ _ _ (fun c2 T2 e2 => dis "less" (by simp) "both" (by simp) (by decide +kernel) _ _ _ _ B.tin e2) htab.both, ot "either" _ _ _ (fun c2 T2 e2 => dis "less" (by simp) "either" (by simp) (by decide +kernel) _ _ _ _ B.tin e2) htab.either, ht1, ot "parting" _ _ _ (fun c2 T2 e2 => dis "less" (by simp) "parting" (by simp) (by decide +kernel) _ _ _ _ B.tin e2) htab.parting⟩
    walk_at "rd"
    rcases hh with ⟨hg, q⟩ | ⟨hn, q⟩ | ⟨hg, q⟩
    rotate_left
    · exact ⟨v1, v2, fl, rfl, .inr (.inl ⟨hn.et e1, q H1 e1 t4⟩)⟩
    · exact ⟨v1, v2, fl, rfl, .inr (.inr ⟨hg.et e1, q H1 e1 t4⟩)⟩
    obtain ⟨b1, s1, o1, a1, b2, s2, o2, a2, h1, h2, hc⟩ := hg
    have x1 := h1.b3
    have x2 := h2.b3
    refine ⟨v1, v2, fl, rfl, .inl ⟨lessF, b1, s1, o1, a1, b2, s2, o2, a2, h1.et e1, h2.et e1, hc, ⟨c', _, _, _, _, hf, hc1, .less, ⟨⟨rfl, rfl, rfl, by decide +kernel, rfl, by decide +kernel, by decide +kernel⟩, rfl, rfl, fun _ _ _ _ _ _ _ => rfl⟩⟩, fun v l d H2 e2 hL hl hd hst => ?_⟩⟩
    exact q H2 (e1.trans e2.et) (t4.ext e2) v _ _ _ _ hst (row_gdN hL.pos (by omega) (by omega))
noncomputable def sp_parting (K : PySem.W.Frag) : Sp := fun vs H Q E => ∃ v1 v2, vs = [v1, v2] ∧ Two K H v1 v2 E (fun H' => ∀ v, Q v H')
noncomputable abbrev s_parting : Stmt := top 42
theorem sc_parting : FnScope ["one", "other"] ["one", "other"] (defScope s_parting) := ⟨rfl, rfl, rfl, by decide +kernel, rfl, by decide +kernel, by decide +kernel⟩
theorem ok_parting {P : Program} {w : World} {K : PySem.W.Frag} {mg : Str → Option Value} {base : Heap} (D : Dfn K mg "parting" s_parting ["one", "other"]) (T : Blt mg) {c9 T9 : Addr} (B : Tab K mg base "parting" c9 T9) (CX_first_of : CalX P w K mg base "first_of" 7 ["stair"] (sp_first_of K)) (CX_chosen : CalX P w K mg base "chosen" 7 ["one", "other", "choice"] (sp_chosen K)) : CalX P w K mg base "parting" 8 ["one", "other"] (sp_parting K) := by
  have nd := (sc_parting).nd
  refine D.okLX B sc_parting (fun vs H Q E h => ?_) (fun f A outer s H vs Q E hr h => ?_)
  · obtain ⟨v1, v2, rfl, _⟩ := h; rfl
  · obtain ⟨v1, v2, rfl, dis, htab, hh⟩ := h
    refine ⟨_, (no_implicit_lambda% (pss_one (no_implicit_lambda% (ps_ret (no_implicit_lambda% (pe_calX CX_first_of hr (no_implicit_lambda% (pa_cons (no_implicit_lambda% (pe_calX CX_chosen hr (no_implicit_lambda% (pa_cons (no_implicit_lambda% (pv 0)) (no_implicit_lambda% (pa_cons (no_implicit_lambda% (pv 1)) (no_implicit_lambda% (pa_cons (no_implicit_lambda% (pe_lam rfl rfl B.hd B.blt B.gl (by decide +kernel) rfl rfl)) pa_nil)))))))) pa_nil)))))))), ?_⟩
    walk_at "rd"
    refine rd_lamT2 (x := "parting") htab.parting B.tin fun fl c' H1 e1 ht1 ot hf hc1 => ?_
    have t4 : Tabs4 K H1 := ⟨ot "both" _ _ _ (fun c2 T2 e2 => dis "parting" (by simp) "both" (by simp) (by decide +kernel) _ _ _ _ B.tin e2) htab.both, ot "either" _ _ _ (fun c2 T2 e2 => dis "parting" (by simp) "either" (by simp) (by decide +kernel) _ _ _ _ B.tin e2) htab.either, ot "less" _ _ _ (fun c2 T2 e2 => dis "parting" (by simp) "less" (by simp) (by decide +kernel) _ _ _ _ B.tin e2) htab.less, ht1⟩
    walk_at "rd"
    rcases hh with ⟨hg, q⟩ | ⟨hn, q⟩ | ⟨hg, q⟩
    rotate_left
    · exact ⟨v1, v2, fl, rfl, .inr (.inl ⟨hn.et e1, q H1 e1 t4⟩)⟩
    · exact ⟨v1, v2, fl, rfl, .inr (.inr ⟨hg.et e1, q H1 e1 t4⟩)⟩
    obtain ⟨b1, s1, o1, a1, b2, s2, o2, a2, h1, h2, hc⟩ := hg
    have x1 := h1.b3
    have x2 := h2.b3
    refine ⟨v1, v2, fl, rfl, .inl ⟨neF, b1, s1, o1, a1, b2, s2, o2, a2, h1.et e1, h2.et e1, hc, ⟨c', _, _, _, _, hf, hc1, .ne, ⟨⟨rfl, rfl, rfl, by decide +kernel, rfl, by decide +kernel, by decide +kernel⟩, rfl, rfl, fun _ _ _ _ _ _ _ => rfl⟩⟩, fun v l d H2 e2 hL hl hd hst => ?_⟩⟩
    walk_at "rd"
    refine ⟨v, rfl, .inl ⟨_, _, _, _, hst, row_gdN hL.pos (by omega) (by omega), fun H3 e3 => ?_⟩⟩
    exact q H3 (e1.trans (e2.trans e3).et) (t4.ext (e2.trans e3)) _
noncomputable def sp_within (K : PySem.W.Frag) : Sp := fun vs H Q E => ∃ v1 v2, vs = [v1, v2] ∧ Two K H v1 v2 E (fun H' => ∀ v, Q v H')
noncomputable abbrev s_within : Stmt := top 43
theorem sc_within : FnScope ["one", "other"] ["one", "other"] (defScope s_within) := ⟨rfl, rfl, rfl, by decide +kernel, rfl, by decide +kernel, by decide +kernel⟩
theorem ok_within {P : Program} {w : World} {K : PySem.W.Frag} {mg : Str → Option Value} {base : Heap} (D : Dfn K mg "within" s_within ["one", "other"]) (T : Blt mg) (CX_first_of : CalX P w K mg base "first_of" 7 ["stair"] (sp_first_of K)) (CX_less : CalX P w K mg base "less" 8 ["one", "other"] (sp_less K)) : CalX P w K mg base "within" 9 ["one", "other"] (sp_within K) := by
  have nd := (sc_within).nd
  refine D.okX sc_within (fun vs H Q E h => ?_) (fun f cdv A outer s H vs Q E hr h => ?_)
  · obtain ⟨v1, v2, rfl, _⟩ := h; rfl
  · obtain ⟨v1, v2, rfl, dis, htab, hh⟩ := h
    refine ⟨_, (no_implicit_lambda% (pss_one (no_implicit_lambda% (ps_ret (no_implicit_lambda% (pe_cmpR op_isN (no_implicit_lambda% (pe_calX CX_first_of hr (no_implicit_lambda% (pa_cons (no_implicit_lambda% (pe_calX CX_less hr (no_implicit_lambda% (pa_cons (no_implicit_lambda% (pv 0)) (no_implicit_lambda% (pa_cons (no_implicit_lambda% (pv 1)) pa_nil)))))) pa_nil)))) pe_non (nomark _))))))), ?_⟩
    walk_at "rd"
    refine ⟨v1, v2, rfl, dis, htab, ?_⟩
    rcases hh with ⟨hg, q⟩ | ⟨hn, q⟩ | ⟨hg, q⟩
    · refine .inl ⟨hg, fun H1 e1 t1 v b s o a hst hgd => ?_⟩
      walk_at "rd"
      refine ⟨v, rfl, .inl ⟨b, s, o, a, hst, hgd, fun H2 e2 => ?_⟩⟩
      walk_at "rd"
      exact ⟨rfl, q H2 (e1.trans e2.et) (t1.ext e2) _⟩
    · exact .inr (.inl ⟨hn, q⟩)
    · exact .inr (.inr ⟨hg, q⟩)
noncomputable def sp_rest_of (K : PySem.W.Frag) : Sp := fun vs H Q E => ∃ v, vs = [v] ∧ ((∃ (b s : Nat) (o a : List Int), SN H v b s o a ∧ ∀ v' H', Ext H H' → Q v' H') ∨ BadS K H v E)
noncomputable abbrev s_rest_of : Stmt := top 32
theorem sc_rest_of : FnScope ["stair", "marks"] ["stair"] (defScope s_rest_of) := ⟨rfl, rfl, rfl, by decide +kernel, rfl, by decide +kernel, by decide +kernel⟩
theorem ok_rest_of {P : Program} {w : World} {K : PySem.W.Frag} {mg : Str → Option Value} {base : Heap} (D : Dfn K mg "rest_of" s_rest_of ["stair"]) (T : Blt mg) (C_stair_of_marks : Cal P w K mg base "stair_of_marks" 2 ["marks", "base"] (sp_stair_of_marks K)) (C_marks_below : Cal P w K mg base "marks_below" 1 ["stair", "end"] (sp_marks_below K)) (CX_refuse_bad_stair : CalX P w K mg base "refuse_bad_stair" 6 ["thing"] (sp_refuse_bad_stair K)) : CalX P w K mg base "rest_of" 7 ["stair"] (sp_rest_of K) := by
  have nd := (sc_rest_of).nd
  refine D.okX sc_rest_of (fun vs H Q E h => ?_) (fun f cdv A outer s H vs Q E hr h => ?_)
  · obtain ⟨v, rfl, _⟩ := h; rfl
  · obtain ⟨v, rfl, hh⟩ := h
    refine ⟨_, (no_implicit_lambda% (pss_cons (no_implicit_lambda% (ps_expr (no_implicit_lambda% (pe_calX CX_refuse_bad_stair hr (no_implicit_lambda% (pa_cons (no_implicit_lambda% (pv 0)) pa_nil))))))
        (no_implicit_lambda% (pss_cons (no_implicit_lambda% (ps_set (i := 1) nd rfl (Or.inl rfl) (no_implicit_lambda% (pe_cal C_marks_below hr (no_implicit_lambda% (pa_cons (no_implicit_lambda% (pv 0)) (no_implicit_lambda% (pa_cons (no_implicit_lambda% (pe_op op_add (no_implicit_lambda% (pe_ix (ix_tupK K) (no_implicit_lambda% (pv 0)) pe_int (fun _ _ => rfl))) (no_implicit_lambda% (pe_ix (ix_tupK K) (no_implicit_lambda% (pv 0)) pe_int (fun _ _ => rfl))))) pa_nil))))))))
        (no_implicit_lambda% (pss_one (no_implicit_lambda% (ps_ret (no_implicit_lambda% (pe_cal C_stair_of_marks hr (no_implicit_lambda% (pa_cons (no_implicit_lambda% (pe_comp ["mark"] [] (no_implicit_lambda% (pi_listK K (no_implicit_lambda% (pv 1)))) (fun _ => (no_implicit_lambda% (pg_name (i := 0) (show (["mark"] : List Str).Nodup from by decide +kernel) rfl (Or.inl rfl) (Or.inr rfl)))) (fun _ => pcs_nil) (fun _ => (no_implicit_lambda% (pe_not (no_implicit_lambda% (pv 0))))))) (no_implicit_lambda% (pa_cons (no_implicit_lambda% (pe_ix (ix_tupK K) (no_implicit_lambda% (pv 0)) pe_int (fun _ _ => rfl))) pa_nil)))))))))))))), ?_⟩
    walk_at "rd"
    rcases hh with ⟨b, s1, o, a, hv, q⟩ | hb
    rotate_left
    · exact ⟨v, rfl, .inr hb⟩
    have x1 := hv.b3
    have y1 := hv.s1
    have y8 := hv.s8
    have hper := fn_perN hv.2
    refine ⟨v, rfl, .inl ⟨_, _, _, _, hv.1, hv.2, ?_⟩⟩
    obtain ⟨p, oq, ar, rfl, k1, _, _⟩ := id hv.1
    walk_at "rd"
    refine rd_ixT (SqT.of k1) rfl ?_
    walk_at "rd"
    refine rd_ixT (SqT.of k1) rfl ?_
    walk_at "rd"
    refine ⟨_, (b : Int) + (s1 : Int), b, s1, o, a, rfl, hv.1, hv.2, by omega, by omega, fun m H1 e1 hn1 hm1 => ?_⟩
    rw [show ((b : Int) + (s1 : Int)).toNat = b + s1 by omega] at hm1
    walk_at "rd"
    refine rd_iLx (SqL.of hm1) ?_
    refine comp_list (xs := mkB (b + s1) (fn b s1 o a)) (fun i ys H' => H' = H1 ∧ ys = mkB i fun x => !(fn b s1 o a x)) (small_line (by rw [mkB_len]; omega)) ⟨rfl, rfl⟩ ?_ ?_ ?_
    · rintro i ys H' _ ⟨rfl, rfl⟩
      exact ⟨SqL.of hm1, by rw [mkB_len]; exact Nat.le_refl _⟩
    · rintro i u ys H' hi ⟨rfl, rfl⟩
      have hi' : i < b + s1 := by
        have := (List.getElem?_eq_some_iff.mp hi).1
        rwa [mkB_len] at this
      rw [mkB_get _ hi'] at hi
      cases hi
      walk_at "rd"
      refine iteT ?_
      walk_at "rd"
      refine ⟨rfl, ?_⟩
      rw [mkB_succ]
    rintro ys H' p5 ⟨rfl, rfl⟩ hp5
    rw [mkB_len]
    have e5 : Ext H' (upd H' p5 (.lst (mkB (b + s1) fun x => !(fn b s1 o a x)))) := ext_upd hp5
    have h5 : (upd H' p5 (.lst (mkB (b + s1) fun x => !(fn b s1 o a x)))) p5 = _ := upd_same
    generalize upd H' p5 (.lst (mkB (b + s1) fun x => !(fn b s1 o a x))) = H5 at e5 h5
    walk_at "rd"
    refine rd_ixT (SqT.of (e5 _ _ (e1 _ _ k1))) rfl ?_
    walk_at "rd"
    refine ⟨p5, b, s1, _, rfl, y1, by omega, h5, fun x hx => by simp only [hper x hx], fun v' l d H7 e7 hL hl hd hst => ?_⟩
    exact q v' H7 (e1.trans (e5.trans e7))
noncomputable def mvF (k : Int) (f : Nat → Bool) : Nat → Bool := fun x => decide (k ≤ (x : Int)) && f ((x : Int) - k).toNat
theorem mvF_per {k : Int} {f : Nat → Bool} {b s B : Nat} (h : Per f b s) (h1 : (b : Int) + k ≤ B) : Per (mvF k f) B s := fun x hx => by
  unfold mvF
  have e1 : decide (k ≤ ((x + s : Nat) : Int)) = true := decide_eq_true (by omega)
  have e2 : decide (k ≤ (x : Int)) = true := decide_eq_true (by omega)
  rw [e1, e2, Bool.true_and, Bool.true_and, show (((x + s : Nat) : Int) - k).toNat = ((x : Int) - k).toNat + s by omega]
  exact h _ (by omega)
theorem mv_list {k : Int} {f : Nat → Bool} {n B s : Nat} {z c : Nat} (hz : (z : Int) - c = k) (h0 : z = 0 ∨ c = 0) (hn : (n : Int) = B - k + s) (hc : c ≤ n) : mkB z (fun _ => false) ++ mkB (n - c) (fun i => f (c + i)) = mkB (B + s) (mvF k f) := by
  rw [mkB_append, show z + (n - c) = B + s by omega]
  refine mkB_congr fun i hi => ?_
  unfold mvF
  by_cases h : i < z
  · rw [if_pos h, decide_eq_false (by omega), Bool.false_and]
  · rw [if_neg h, decide_eq_true (by omega), Bool.true_and]
    congr 1
    omega
noncomputable def sp_moved (K : PySem.W.Frag) : Sp := fun vs H Q E => ∃ (v : V) (k : Int), vs = [v, .int k] ∧ -3000 ≤ k ∧ k ≤ 3000 ∧ ((∃ (b s : Nat) (o a : List Int), SN H v b s o a ∧ ∀ v' H', Ext H H' → Q v' H') ∨ BadS K H v E)
noncomputable abbrev s_moved : Stmt := top 33
theorem sc_moved : FnScope ["stair", "k", "base", "marks"] ["stair", "k"] (defScope s_moved) := ⟨rfl, rfl, rfl, by decide +kernel, rfl, by decide +kernel, by decide +kernel⟩
theorem ok_moved {P : Program} {w : World} {K : PySem.W.Frag} {mg : Str → Option Value} {base : Heap} (D : Dfn K mg "moved" s_moved ["stair", "k"]) (T : Blt mg) (g_GREATEST_MOVE : ∃ t, mg "GREATEST_MOVE" = some (.int 3000 t)) (XF : Xf K mg base allC raisedC) (C_stair_of_marks : Cal P w K mg base "stair_of_marks" 2 ["marks", "base"] (sp_stair_of_marks K)) (C_marks_below : Cal P w K mg base "marks_below" 1 ["stair", "end"] (sp_marks_below K)) (CX_refuse_bad_stair : CalX P w K mg base "refuse_bad_stair" 6 ["thing"] (sp_refuse_bad_stair K)) : CalX P w K mg base "moved" 7 ["stair", "k"] (sp_moved K) := by
  have nd := (sc_moved).nd
  refine D.okX sc_moved (fun vs H Q E h => ?_) (fun f cdv A outer s H vs Q E hr h => ?_)
  · obtain ⟨v, k, rfl, _⟩ := h; rfl
  · obtain ⟨t_GREATEST_MOVE, c_GREATEST_MOVE⟩ := g_GREATEST_MOVE
    obtain ⟨v, k, rfl, hk1, hk2, hh⟩ := h
    refine ⟨_, (no_implicit_lambda% (pss_cons (no_implicit_lambda% (ps_expr (no_implicit_lambda% (pe_calX CX_refuse_bad_stair hr (no_implicit_lambda% (pa_cons (no_implicit_lambda% (pv 0)) pa_nil))))))
        (no_implicit_lambda% (pss_cons (no_implicit_lambda% (ps_if (no_implicit_lambda% (pt_cmpR op_gt (no_implicit_lambda% (pe_callB call_abs rfl T.abs_ PyProof.Rows.boot_abs (no_implicit_lambda% (pa_cons (no_implicit_lambda% (pv 1)) pa_nil)))) (no_implicit_lambda% (pe_glob (v := .int 3000) rfl c_GREATEST_MOVE ⟨_, rfl⟩)) (nomark _))) (no_implicit_lambda% (pss_one (no_implicit_lambda% (ps_raise (XF.own "TooGreat" (by decide +kernel)) PySem.F.excBase_ValueError (no_implicit_lambda% (pa_cons (no_implicit_lambda% (pe_fstr (no_implicit_lambda% (pe_glob (v := .int 3000) rfl c_GREATEST_MOVE ⟨_, rfl⟩)))) pa_nil)))))) pss_nil))
        (no_implicit_lambda% (pss_cons (no_implicit_lambda% (ps_set (i := 2) nd rfl (Or.inl rfl) (no_implicit_lambda% (pe_callB (call_max2N rfl) rfl T.max_ PyProof.Rows.boot_max (no_implicit_lambda% (pa_cons pe_int (no_implicit_lambda% (pa_cons (no_implicit_lambda% (pe_op op_add (no_implicit_lambda% (pe_ix (ix_tupK K) (no_implicit_lambda% (pv 0)) pe_int (fun _ _ => rfl))) (no_implicit_lambda% (pv 1)))) pa_nil))))))))
        (no_implicit_lambda% (pss_cons (no_implicit_lambda% (ps_set (i := 3) nd rfl (Or.inl rfl) (no_implicit_lambda% (pe_cal C_marks_below hr (no_implicit_lambda% (pa_cons (no_implicit_lambda% (pv 0)) (no_implicit_lambda% (pa_cons (no_implicit_lambda% (pe_op op_add (no_implicit_lambda% (pe_op op_sub (no_implicit_lambda% (pv 2)) (no_implicit_lambda% (pv 1)))) (no_implicit_lambda% (pe_ix (ix_tupK K) (no_implicit_lambda% (pv 0)) pe_int (fun _ _ => rfl))))) pa_nil))))))))
        (no_implicit_lambda% (pss_one (no_implicit_lambda% (ps_ret (no_implicit_lambda% (pe_cal C_stair_of_marks hr (no_implicit_lambda% (pa_cons (no_implicit_lambda% (pe_op op_cat (no_implicit_lambda% (pe_op op_rep (no_implicit_lambda% (pe_lst (no_implicit_lambda% (pa_cons pe_bl pa_nil)))) (no_implicit_lambda% (pe_callB (call_max2N rfl) rfl T.max_ PyProof.Rows.boot_max (no_implicit_lambda% (pa_cons pe_int (no_implicit_lambda% (pa_cons (no_implicit_lambda% (pv 1)) pa_nil)))))))) (no_implicit_lambda% (pe_slice (sl_listK K) (no_implicit_lambda% (pv 3)) (po_some (no_implicit_lambda% (pe_callB (call_max2N rfl) rfl T.max_ PyProof.Rows.boot_max (no_implicit_lambda% (pa_cons pe_int (no_implicit_lambda% (pa_cons (no_implicit_lambda% (pe_un un_neg (no_implicit_lambda% (pv 1)))) pa_nil))))))) po_none)))) (no_implicit_lambda% (pa_cons (no_implicit_lambda% (pv 2)) pa_nil)))))))))))))))))), ?_⟩
    walk_at "rd"
    rcases hh with ⟨b, s1, o, a, hv, q⟩ | hb
    rotate_left
    · exact ⟨v, rfl, .inr hb⟩
    have x1 := hv.b3
    have y1 := hv.s1
    have y8 := hv.s8
    have hper := fn_perN hv.2
    refine ⟨v, rfl, .inl ⟨_, _, _, _, hv.1, hv.2, ?_⟩⟩
    obtain ⟨p, oq, ar, rfl, k1, _, _⟩ := id hv.1
    walk_at "rd"
    refine ⟨k, rfl, ?_⟩
    walk_at "rd"
    rw [decide_eq_false (show ¬ (3000 : Int) < (if k < 0 then -k else k) by split <;> omega)]
    refine iteF ?_
    walk_at "rd"
    refine rd_ixT (SqT.of k1) rfl ?_
    walk_at "rd"
    obtain ⟨B, hB⟩ : ∃ B : Nat, (if (b : Int) + k > 0 then (b : Int) + k else 0) = (B : Int) := ⟨(if (b : Int) + k > 0 then (b : Int) + k else 0).toNat, by split <;> omega⟩
    have hB' : (B : Int) = max 0 ((b : Int) + k) := by rw [← hB]; split <;> omega
    rw [hB]
    clear hB
    refine rd_ixT (SqT.of k1) rfl ?_
    walk_at "rd"
    obtain ⟨n, hn⟩ : ∃ n : Nat, (B : Int) - k + (s1 : Int) = (n : Int) := ⟨((B : Int) - k + (s1 : Int)).toNat, by omega⟩
    rw [hn]
    refine ⟨_, (n : Int), b, s1, o, a, rfl, hv.1, hv.2, by omega, by omega, fun m H1 e1 hmn hm => ?_⟩
    rw [Int.toNat_natCast] at hm
    walk_at "rd"
    refine ⟨small_line (by simp), rd_new fun m2 H2 e2 hm2 _ => ?_⟩
    walk_at "rd"
    obtain ⟨Z, hZ⟩ : ∃ Z : Nat, (if k > 0 then k else 0) = (Z : Int) := ⟨(if k > 0 then k else 0).toNat, by split <;> omega⟩
    obtain ⟨C, hC⟩ : ∃ C : Nat, (if -k > 0 then -k else 0) = (C : Int) := ⟨(if -k > 0 then -k else 0).toNat, by split <;> omega⟩
    have hZC : (Z : Int) - C = k ∧ (Z = 0 ∨ C = 0) := by
      split at hZ <;> split at hC <;> omega
    rw [hZ]
    clear hZ
    refine rd_rep hm2 (by omega) (small_line (by simp; omega)) (rd_new fun m3 H3 e3 hm3 _ => ?_)
    rw [mkB_rep, Int.toNat_natCast] at hm3
    walk_at "rd"
    rw [hC]
    clear hC
    refine rd_slL (SqL.of (e3 _ _ (e2 _ _ hm))) (rd_new fun m4 H4 e4 hm4 _ => ?_)
    rw [mkB_drop (by omega) (by omega), Int.toNat_natCast] at hm4
    refine rd_cat (e4 _ _ hm3) hm4 (small_line (by rw [mkB_len, mkB_len]; omega)) (rd_new fun m5 H5 e5 hm5 _ => ?_)
    rw [mv_list hZC.1 hZC.2 (B := B) (s := s1) (by omega) (by omega)] at hm5
    walk_at "rd"
    refine ⟨m5, B, s1, _, rfl, y1, by omega, hm5, mvF_per hper (by omega), fun v' l d H6 e6 hL hl hd hst => ?_⟩
    exact q v' H6 (e1.trans (e2.trans (e3.trans (e4.trans (e5.trans e6)))))
noncomputable def GoodS (H : Hp) (v : V) : Prop := ∃ b s o a, StAt H v b s o a ∧ Gd b s o a
theorem GoodS.et {H H' : Hp} {v : V} (e : Et H H') (h : GoodS H v) : GoodS H' v := by
  obtain ⟨b, s, o, a, h1, h2⟩ := h
  exact ⟨b, s, o, a, h1.et e, h2⟩
noncomputable def sp__law_one (K : PySem.W.Frag) : Sp := fun vs H Q E => ∃ (k : Int) (v : V), vs = [.int k, v] ∧ ((GoodS H v ∧ ∀ u H', Ext H H' → Q u H') ∨ BadS K H v E)
noncomputable abbrev s__law_one : Stmt := top 54
theorem sc__law_one : FnScope ["_law_way", "_law_stair"] ["_law_way", "_law_stair"] (defScope s__law_one) := ⟨rfl, rfl, rfl, by decide +kernel, rfl, by decide +kernel, by decide +kernel⟩
theorem ok__law_one {P : Program} {w : World} {K : PySem.W.Frag} {mg : Str → Option Value} {base : Heap} (D : Dfn K mg "_law_one" s__law_one ["_law_way", "_law_stair"]) (T : Blt mg) (CX_moved : CalX P w K mg base "moved" 7 ["stair", "k"] (sp_moved K)) (CX_rest_of : CalX P w K mg base "rest_of" 7 ["stair"] (sp_rest_of K)) (CX_how_many : CalX P w K mg base "how_many" 7 ["stair", "x"] (sp_how_many K)) (CX_first_of : CalX P w K mg base "first_of" 7 ["stair"] (sp_first_of K)) (CX_holds : CalX P w K mg base "holds" 7 ["stair", "x"] (sp_holds K)) (CX_least : CalX P w K mg base "least" 7 ["stair"] (sp_least K)) : CalX P w K mg base "_law_one" 8 ["_law_way", "_law_stair"] (sp__law_one K) := by
  have nd := (sc__law_one).nd
  refine D.okX sc__law_one (fun vs H Q E h => ?_) (fun f cdv A outer s H vs Q E hr h => ?_)
  · obtain ⟨k, v, rfl, _⟩ := h; rfl
  · obtain ⟨k, v, rfl, hh⟩ := h
    refine ⟨_, (no_implicit_lambda% (pss_cons (no_implicit_lambda% (ps_if (no_implicit_lambda% (pt_cmpR op_eq (no_implicit_lambda% (pv 0)) pe_int (nomark _))) (no_implicit_lambda% (pss_one (no_implicit_lambda% (ps_ret (no_implicit_lambda% (pe_calX CX_least hr (no_implicit_lambda% (pa_cons (no_implicit_lambda% (pv 1)) pa_nil)))))))) pss_nil))
        (no_implicit_lambda% (pss_cons (no_implicit_lambda% (ps_if (no_implicit_lambda% (pt_cmpR op_eq (no_implicit_lambda% (pv 0)) pe_int (nomark _))) (no_implicit_lambda% (pss_one (no_implicit_lambda% (ps_ret (no_implicit_lambda% (pe_calX CX_holds hr (no_implicit_lambda% (pa_cons (no_implicit_lambda% (pv 1)) (no_implicit_lambda% (pa_cons pe_int pa_nil)))))))))) pss_nil))
        (no_implicit_lambda% (pss_cons (no_implicit_lambda% (ps_if (no_implicit_lambda% (pt_cmpR op_eq (no_implicit_lambda% (pv 0)) pe_int (nomark _))) (no_implicit_lambda% (pss_one (no_implicit_lambda% (ps_ret (no_implicit_lambda% (pe_calX CX_first_of hr (no_implicit_lambda% (pa_cons (no_implicit_lambda% (pv 1)) pa_nil)))))))) pss_nil))
        (no_implicit_lambda% (pss_cons (no_implicit_lambda% (ps_if (no_implicit_lambda% (pt_cmpR op_eq (no_implicit_lambda% (pv 0)) pe_int (nomark _))) (no_implicit_lambda% (pss_one (no_implicit_lambda% (ps_ret (no_implicit_lambda% (pe_calX CX_how_many hr (no_implicit_lambda% (pa_cons (no_implicit_lambda% (pv 1)) (no_implicit_lambda% (pa_cons pe_int pa_nil)))))))))) pss_nil))
        (no_implicit_lambda% (pss_cons (no_implicit_lambda% (ps_if (no_implicit_lambda% (pt_cmpR op_eq (no_implicit_lambda% (pv 0)) pe_int (nomark _))) (no_implicit_lambda% (pss_one (no_implicit_lambda% (ps_ret (no_implicit_lambda% (pe_calX CX_rest_of hr (no_implicit_lambda% (pa_cons (no_implicit_lambda% (pv 1)) pa_nil)))))))) pss_nil))
        (no_implicit_lambda% (pss_one (no_implicit_lambda% (ps_ret (no_implicit_lambda% (pe_calX CX_moved hr (no_implicit_lambda% (pa_cons (no_implicit_lambda% (pv 1)) (no_implicit_lambda% (pa_cons pe_int pa_nil)))))))))))))))))))), ?_⟩
    walk_at "rd"
    refine ite2 (fun _ => ?_) (fun _ => ?_)
    · walk_at "rd"
      rcases hh with ⟨⟨b, s', o, a, hv, hg⟩, q⟩ | hb
      · exact ⟨v, rfl, .inl ⟨b, s', o, a, hv, hg, fun v' l d H' e _ _ _ _ => q _ H' e⟩⟩
      · exact ⟨v, rfl, .inr hb⟩
    walk_at "rd"
    refine ite2 (fun _ => ?_) (fun _ => ?_)
    · walk_at "rd"
      rcases hh with ⟨⟨b, s', o, a, hv, hg⟩, q⟩ | hb
      · exact ⟨v, _, rfl, .inl ⟨b, s', o, a, hv, hg, q _ H (Ext.rfl' H)⟩⟩
      · exact ⟨v, _, rfl, .inr hb⟩
    walk_at "rd"
    refine ite2 (fun _ => ?_) (fun _ => ?_)
    · walk_at "rd"
      rcases hh with ⟨⟨b, s', o, a, hv, hg⟩, q⟩ | hb
      · exact ⟨v, rfl, .inl ⟨b, s', o, a, hv, hg, fun H' e => q _ H' e⟩⟩
      · exact ⟨v, rfl, .inr hb⟩
    walk_at "rd"
    refine ite2 (fun _ => ?_) (fun _ => ?_)
    · walk_at "rd"
      rcases hh with ⟨⟨b, s', o, a, hv, hg⟩, q⟩ | hb
      · exact ⟨v, _, rfl, .inl ⟨b, s', o, a, hv, hg, fun H' e => q _ H' e⟩⟩
      · exact ⟨v, _, rfl, .inr hb⟩
    walk_at "rd"
    refine ite2 (fun _ => ?_) (fun _ => ?_)
    · walk_at "rd"
      rcases hh with ⟨⟨b, s', o, a, hv, hg⟩, q⟩ | hb
      · exact ⟨v, rfl, .inl ⟨_, _, o, a, SN.of hv hg, fun v' H' e => q _ H' e⟩⟩
      · exact ⟨v, rfl, .inr hb⟩
    walk_at "rd"
    rcases hh with ⟨⟨b, s', o, a, hv, hg⟩, q⟩ | hb
    · exact ⟨v, _, rfl, by decide, by decide, .inl ⟨_, _, o, a, SN.of hv hg, fun v' H' e => q _ H' e⟩⟩
    · exact ⟨v, _, rfl, by decide, by decide, .inr hb⟩
theorem Two.mono {K : PySem.W.Frag} {H : Hp} {v u : V} {E : XK} {R R' : Hp → Prop} (h : Two K H v u E R) (g : ∀ H', R H' → R' H') : Two K H v u E R' := by
  obtain ⟨h1, h2, ⟨h3, q⟩ | h3⟩ := h
  · exact ⟨h1, h2, .inl ⟨h3, fun H' e t => g H' (q H' e t)⟩⟩
  · exact ⟨h1, h2, .inr h3⟩
noncomputable def sp__law_two (K : PySem.W.Frag) : Sp := fun vs H Q E => ∃ (k : Int) (v u : V), vs = [.int k, v, u] ∧ Two K H v u E (fun H' => ∀ w, Q w H')
noncomputable abbrev s__law_two : Stmt := top 55
theorem sc__law_two : FnScope ["_law_way", "_law_stair", "_law_other"] ["_law_way", "_law_stair", "_law_other"] (defScope s__law_two) := ⟨rfl, rfl, rfl, by decide +kernel, rfl, by decide +kernel, by decide +kernel⟩
theorem ok__law_two {P : Program} {w : World} {K : PySem.W.Frag} {mg : Str → Option Value} {base : Heap} (D : Dfn K mg "_law_two" s__law_two ["_law_way", "_law_stair", "_law_other"]) (T : Blt mg) (CX_less : CalX P w K mg base "less" 8 ["one", "other"] (sp_less K)) (CX_either : CalX P w K mg base "either" 8 ["one", "other"] (sp_either K)) (CX_both : CalX P w K mg base "both" 8 ["one", "other"] (sp_both K)) (CX_within : CalX P w K mg base "within" 9 ["one", "other"] (sp_within K)) (CX_parting : CalX P w K mg base "parting" 8 ["one", "other"] (sp_parting K)) : CalX P w K mg base "_law_two" 10 ["_law_way", "_law_stair", "_law_other"] (sp__law_two K) := by
  have nd := (sc__law_two).nd
  refine D.okX sc__law_two (fun vs H Q E h => ?_) (fun f cdv A outer s H vs Q E hr h => ?_)
  · obtain ⟨k, v, u, rfl, _⟩ := h; rfl
  · obtain ⟨k, v, u, rfl, hh⟩ := h
    refine ⟨_, (no_implicit_lambda% (pss_cons (no_implicit_lambda% (ps_if (no_implicit_lambda% (pt_cmpR op_eq (no_implicit_lambda% (pv 0)) pe_int (nomark _))) (no_implicit_lambda% (pss_one (no_implicit_lambda% (ps_ret (no_implicit_lambda% (pe_calX CX_parting hr (no_implicit_lambda% (pa_cons (no_implicit_lambda% (pv 1)) (no_implicit_lambda% (pa_cons (no_implicit_lambda% (pv 2)) pa_nil)))))))))) pss_nil))
        (no_implicit_lambda% (pss_cons (no_implicit_lambda% (ps_if (no_implicit_lambda% (pt_cmpR op_eq (no_implicit_lambda% (pv 0)) pe_int (nomark _))) (no_implicit_lambda% (pss_one (no_implicit_lambda% (ps_ret (no_implicit_lambda% (pe_calX CX_within hr (no_implicit_lambda% (pa_cons (no_implicit_lambda% (pv 1)) (no_implicit_lambda% (pa_cons (no_implicit_lambda% (pv 2)) pa_nil)))))))))) pss_nil))
        (no_implicit_lambda% (pss_cons (no_implicit_lambda% (ps_if (no_implicit_lambda% (pt_cmpR op_eq (no_implicit_lambda% (pv 0)) pe_int (nomark _))) (no_implicit_lambda% (pss_one (no_implicit_lambda% (ps_ret (no_implicit_lambda% (pe_calX CX_both hr (no_implicit_lambda% (pa_cons (no_implicit_lambda% (pv 1)) (no_implicit_lambda% (pa_cons (no_implicit_lambda% (pv 2)) pa_nil)))))))))) pss_nil))
        (no_implicit_lambda% (pss_cons (no_implicit_lambda% (ps_if (no_implicit_lambda% (pt_cmpR op_eq (no_implicit_lambda% (pv 0)) pe_int (nomark _))) (no_implicit_lambda% (pss_one (no_implicit_lambda% (ps_ret (no_implicit_lambda% (pe_calX CX_either hr (no_implicit_lambda% (pa_cons (no_implicit_lambda% (pv 1)) (no_implicit_lambda% (pa_cons (no_implicit_lambda% (pv 2)) pa_nil)))))))))) pss_nil))
        (no_implicit_lambda% (pss_one (no_implicit_lambda% (ps_ret (no_implicit_lambda% (pe_calX CX_less hr (no_implicit_lambda% (pa_cons (no_implicit_lambda% (pv 1)) (no_implicit_lambda% (pa_cons (no_implicit_lambda% (pv 2)) pa_nil)))))))))))))))))), ?_⟩
    walk_at "rd"
    refine ite2 (fun _ => ?_) (fun _ => ?_)
    · walk_at "rd"
      exact ⟨v, u, rfl, hh⟩
    walk_at "rd"
    refine ite2 (fun _ => ?_) (fun _ => ?_)
    · walk_at "rd"
      exact ⟨v, u, rfl, hh⟩
    walk_at "rd"
    refine ite2 (fun _ => ?_) (fun _ => ?_)
    · walk_at "rd"
      exact ⟨v, u, rfl, hh.mono fun H' r w _ _ _ _ _ _ => r w⟩
    walk_at "rd"
    refine ite2 (fun _ => ?_) (fun _ => ?_)
    · walk_at "rd"
      exact ⟨v, u, rfl, hh.mono fun H' r w _ _ _ _ _ _ => r w⟩
    walk_at "rd"
    exact ⟨v, u, rfl, hh.mono fun H' r w _ _ _ _ _ _ => r w⟩
noncomputable def Ans (H : Hp) (k : Int) (v u : V) (z : Str) : Prop :=
  (k < 6 ∧ ((GoodS H v ∧ z = "told") ∨ (NoS H v ∧ z = "stair") ∨ (GrS H v ∧ z = "great"))) ∨ (6 ≤ k ∧ ((GoodP H v u ∧ z = "told") ∨ (PairNo H v u ∧ z = "stair") ∨ (PairGr H v u ∧ z = "great")))
noncomputable def sp__law_asked (K : PySem.W.Frag) : Sp := fun vs H Q _ => ∃ (k : Int) (v u : V) (z : Str), vs = [.int k, v, u] ∧ Dis K ∧ Tabs4 K H ∧ Ans H k v u z ∧ ∀ H', Et H H' → Tabs4 K H' → Q (.str z) H'
noncomputable abbrev s__law_asked : Stmt := top 56
theorem sc__law_asked : FnScope ["_law_way", "_law_stair", "_law_other", "_law_word", "e", "_law_sorts"] ["_law_way", "_law_stair", "_law_other"] (defScope s__law_asked) := ⟨rfl, rfl, rfl, by decide +kernel, rfl, by decide +kernel, by decide +kernel⟩
theorem ok__law_asked {P : Program} {w : World} {K : PySem.W.Frag} {mg : Str → Option Value} {base : Heap} (D : Dfn K mg "_law_asked" s__law_asked ["_law_way", "_law_stair", "_law_other"]) (T : Blt mg) (XF : Xf K mg base allC raisedC) (CX__law_one : CalX P w K mg base "_law_one" 8 ["_law_way", "_law_stair"] (sp__law_one K)) (CX__law_two : CalX P w K mg base "_law_two" 10 ["_law_way", "_law_stair", "_law_other"] (sp__law_two K)) : Cal P w K mg base "_law_asked" 11 ["_law_way", "_law_stair", "_law_other"] (sp__law_asked K) := by
  have nd := (sc__law_asked).nd
  refine D.ok sc__law_asked (fun vs H Q E h => ?_) (fun X hX H vs Q E h => ?_)
  · obtain ⟨k, v, u, z, rfl, _⟩ := h; rfl
  · obtain ⟨f, cdv, A, outer, s, H0, E0, rfl, hr⟩ := hX
    obtain ⟨k, v, u, z, rfl, dis, htab, hh, q⟩ := h
    refine ⟨_, (no_implicit_lambda% (pss_cons (no_implicit_lambda% (ps_set (i := 3) nd rfl (Or.inl rfl) pe_str))
        (no_implicit_lambda% (pss_cons (no_implicit_lambda% (ps_try (i := 4) rfl rfl nd rfl rfl rfl (XF.cl "StairError" (by decide +kernel)) rfl (by decide) (pbs_cons (pb_if (no_implicit_lambda% (pt_cmpR op_lt (no_implicit_lambda% (pv 0)) pe_int (nomark _))) (pbs_cons (pb_call CX__law_one hr (no_implicit_lambda% (pa_cons (no_implicit_lambda% (pv 0)) (no_implicit_lambda% (pa_cons (no_implicit_lambda% (pv 1)) pa_nil))))) pbs_nil) (pbs_cons (pb_call CX__law_two hr (no_implicit_lambda% (pa_cons (no_implicit_lambda% (pe_op op_sub (no_implicit_lambda% (pv 0)) pe_int)) (no_implicit_lambda% (pa_cons (no_implicit_lambda% (pv 1)) (no_implicit_lambda% (pa_cons (no_implicit_lambda% (pv 2)) pa_nil))))))) pbs_nil)) pbs_nil) (fun x oe Dx hK hc => (no_implicit_lambda% (pss_cons (no_implicit_lambda% (ps_set (i := 5) nd rfl (Or.inl rfl) (no_implicit_lambda% (pe_lst (no_implicit_lambda% (pa_cons (no_implicit_lambda% (pe_callB (call_isiX hK hc) rfl T.isinstance_ PyProof.Rows.boot_isinstance (no_implicit_lambda% (pa_cons (no_implicit_lambda% (pv 4)) (no_implicit_lambda% (pa_cons (no_implicit_lambda% (pe_glob (v := .ref (cA K "NoStair")) rfl (XF.cl "NoStair" (by decide +kernel)) rfl)) pa_nil)))))) (no_implicit_lambda% (pa_cons (no_implicit_lambda% (pe_callB (call_isiX hK hc) rfl T.isinstance_ PyProof.Rows.boot_isinstance (no_implicit_lambda% (pa_cons (no_implicit_lambda% (pv 4)) (no_implicit_lambda% (pa_cons (no_implicit_lambda% (pe_glob (v := .ref (cA K "TooGreat")) rfl (XF.cl "TooGreat" (by decide +kernel)) rfl)) pa_nil)))))) (no_implicit_lambda% (pa_cons (no_implicit_lambda% (pe_callB (call_isiX hK hc) rfl T.isinstance_ PyProof.Rows.boot_isinstance (no_implicit_lambda% (pa_cons (no_implicit_lambda% (pv 4)) (no_implicit_lambda% (pa_cons (no_implicit_lambda% (pe_glob (v := .ref (cA K "Endless")) rfl (XF.cl "Endless" (by decide +kernel)) rfl)) pa_nil)))))) (no_implicit_lambda% (pa_cons (no_implicit_lambda% (pe_callB (call_isiX hK hc) rfl T.isinstance_ PyProof.Rows.boot_isinstance (no_implicit_lambda% (pa_cons (no_implicit_lambda% (pv 4)) (no_implicit_lambda% (pa_cons (no_implicit_lambda% (pe_glob (v := .ref (cA K "NoDeed")) rfl (XF.cl "NoDeed" (by decide +kernel)) rfl)) pa_nil)))))) pa_nil))))))))))))
        (no_implicit_lambda% (pss_cons (no_implicit_lambda% (ps_set (i := 5) nd rfl (Or.inl rfl) (no_implicit_lambda% (pe_op op_cat (no_implicit_lambda% (pv 5)) (no_implicit_lambda% (pe_lst (no_implicit_lambda% (pa_cons (no_implicit_lambda% (pe_callB (call_isiX hK hc) rfl T.isinstance_ PyProof.Rows.boot_isinstance (no_implicit_lambda% (pa_cons (no_implicit_lambda% (pv 4)) (no_implicit_lambda% (pa_cons (no_implicit_lambda% (pe_glob (v := .ref (cA K "NoHouse")) rfl (XF.cl "NoHouse" (by decide +kernel)) rfl)) pa_nil)))))) (no_implicit_lambda% (pa_cons (no_implicit_lambda% (pe_callB (call_isiX hK hc) rfl T.isinstance_ PyProof.Rows.boot_isinstance (no_implicit_lambda% (pa_cons (no_implicit_lambda% (pv 4)) (no_implicit_lambda% (pa_cons (no_implicit_lambda% (pe_glob (v := .ref (cA K "NoLine")) rfl (XF.cl "NoLine" (by decide +kernel)) rfl)) pa_nil)))))) (no_implicit_lambda% (pa_cons (no_implicit_lambda% (pe_callB (call_isiX hK hc) rfl T.isinstance_ PyProof.Rows.boot_isinstance (no_implicit_lambda% (pa_cons (no_implicit_lambda% (pv 4)) (no_implicit_lambda% (pa_cons (no_implicit_lambda% (pe_glob (v := .ref (cA K "NoPlace")) rfl (XF.cl "NoPlace" (by decide +kernel)) rfl)) pa_nil)))))) (no_implicit_lambda% (pa_cons (no_implicit_lambda% (pe_callB (call_isiX hK hc) rfl T.isinstance_ PyProof.Rows.boot_isinstance (no_implicit_lambda% (pa_cons (no_implicit_lambda% (pv 4)) (no_implicit_lambda% (pa_cons (no_implicit_lambda% (pe_glob (v := .ref (cA K "NoText")) rfl (XF.cl "NoText" (by decide +kernel)) rfl)) pa_nil)))))) pa_nil))))))))))))))
        (no_implicit_lambda% (pss_cons (no_implicit_lambda% (ps_set (i := 5) nd rfl (Or.inl rfl) (no_implicit_lambda% (pe_op op_cat (no_implicit_lambda% (pv 5)) (no_implicit_lambda% (pe_lst (no_implicit_lambda% (pa_cons (no_implicit_lambda% (pe_callB (call_isiX hK hc) rfl T.isinstance_ PyProof.Rows.boot_isinstance (no_implicit_lambda% (pa_cons (no_implicit_lambda% (pv 4)) (no_implicit_lambda% (pa_cons (no_implicit_lambda% (pe_glob (v := .ref (cA K "NotBare")) rfl (XF.cl "NotBare" (by decide +kernel)) rfl)) pa_nil)))))) (no_implicit_lambda% (pa_cons (no_implicit_lambda% (pe_callB (call_isiX hK hc) rfl T.isinstance_ PyProof.Rows.boot_isinstance (no_implicit_lambda% (pa_cons (no_implicit_lambda% (pv 4)) (no_implicit_lambda% (pa_cons (no_implicit_lambda% (pe_glob (v := .ref (cA K "NoWalk")) rfl (XF.cl "NoWalk" (by decide +kernel)) rfl)) pa_nil)))))) (no_implicit_lambda% (pa_cons (no_implicit_lambda% (pe_callB (call_isiX hK hc) rfl T.isinstance_ PyProof.Rows.boot_isinstance (no_implicit_lambda% (pa_cons (no_implicit_lambda% (pv 4)) (no_implicit_lambda% (pa_cons (no_implicit_lambda% (pe_glob (v := .ref (cA K "NoWay")) rfl (XF.cl "NoWay" (by decide +kernel)) rfl)) pa_nil)))))) pa_nil))))))))))))
        (no_implicit_lambda% (pss_cons (no_implicit_lambda% (ps_set (i := 3) nd rfl (Or.inl rfl) pe_str))
        (no_implicit_lambda% (pss_one (no_implicit_lambda% (ps_ifJ (no_implicit_lambda% (PW.pt (pw_and (no_implicit_lambda% (pt_cmpR op_eq (no_implicit_lambda% (pe_bmK K PySem.F.plainAttrs_list PySem.F.slot_list_count PySem.F.type_list_count (mt_countK K) (no_implicit_lambda% (pv 5)) (no_implicit_lambda% (pa_cons pe_bl pa_nil)))) pe_int (nomark _))) (pw_and (no_implicit_lambda% (pt_val (no_implicit_lambda% (pe_callB (call_isiX hK hc) rfl T.isinstance_ PyProof.Rows.boot_isinstance (no_implicit_lambda% (pa_cons (no_implicit_lambda% (pv 4)) (no_implicit_lambda% (pa_cons (no_implicit_lambda% (pe_bltn (v := .ty "ValueError") rfl T.ValueError_ PyProof.Rows.Boot.«ValueError» rfl)) pa_nil)))))))) (pw_and1 (no_implicit_lambda% (pt_cmpR op_lt (no_implicit_lambda% (pe_bmK K PySem.F.plainAttrs_list PySem.F.slot_list_index PySem.F.type_list_index (mt_index K) (no_implicit_lambda% (pv 5)) (no_implicit_lambda% (pa_cons pe_bl pa_nil)))) pe_int (nomark _)))))))) (no_implicit_lambda% (pss_one (no_implicit_lambda% (ps_set (i := 3) nd rfl (Or.inl rfl) (no_implicit_lambda% (pe_ix (ix_listK K) (no_implicit_lambda% (pe_lst (no_implicit_lambda% (pa_cons pe_str (no_implicit_lambda% (pa_cons pe_str pa_nil)))))) (no_implicit_lambda% (pe_bmK K PySem.F.plainAttrs_list PySem.F.slot_list_index PySem.F.type_list_index (mt_index K) (no_implicit_lambda% (pv 5)) (no_implicit_lambda% (pa_cons pe_bl pa_nil)))) (fun _ _ => rfl))))))) pss_nil)))))))))))))))
        (no_implicit_lambda% (pss_one (no_implicit_lambda% (ps_ret (no_implicit_lambda% (pv 3)))))))))), ?_⟩
    walk_at "rd"
    rcases hh with ⟨hk, hh⟩ | ⟨hk, hh⟩
    · rw [decide_eq_true hk]
      refine iteT ?_
      walk_at "rd"
      rcases hh with ⟨hg, rfl⟩ | ⟨hn, rfl⟩ | ⟨hg, rfl⟩
      · refine ⟨k, v, rfl, .inl ⟨hg, fun w9 H1 e1 => ?_⟩⟩
        walk_at "rd"
        exact q H1 e1.et (htab.ext e1)
      · refine ⟨k, v, rfl, .inr (.inl ⟨hn, ?_⟩)⟩
        refine ⟨_, rfl, XF.up "NoStair" (by decide +kernel), XF.exk "NoStair" (by decide +kernel), fun x hx => ?_⟩
        walk_at "rd"
        refine rd_isiC (b := true) ((XF.kc "NoStair" (by decide +kernel) "NoStair" (by decide +kernel)).trans (by decide +kernel)) ?_
        walk_at "rd"
        refine rd_isiC (b := false) ((XF.kc "NoStair" (by decide +kernel) "TooGreat" (by decide +kernel)).trans (by decide +kernel)) ?_
        walk_at "rd"
        refine rd_isiC (b := false) ((XF.kc "NoStair" (by decide +kernel) "Endless" (by decide +kernel)).trans (by decide +kernel)) ?_
        walk_at "rd"
        refine rd_isiC (b := false) ((XF.kc "NoStair" (by decide +kernel) "NoDeed" (by decide +kernel)).trans (by decide +kernel)) ?_
        walk_at "rd"
        refine ⟨small_line (by simp), rd_new fun l2 H2 e2 k2 _ => ?_⟩
        walk_at "rd"
        refine rd_isiC (b := false) ((XF.kc "NoStair" (by decide +kernel) "NoHouse" (by decide +kernel)).trans (by decide +kernel)) ?_
        walk_at "rd"
        refine rd_isiC (b := false) ((XF.kc "NoStair" (by decide +kernel) "NoLine" (by decide +kernel)).trans (by decide +kernel)) ?_
        walk_at "rd"
        refine rd_isiC (b := false) ((XF.kc "NoStair" (by decide +kernel) "NoPlace" (by decide +kernel)).trans (by decide +kernel)) ?_
        walk_at "rd"
        refine rd_isiC (b := false) ((XF.kc "NoStair" (by decide +kernel) "NoText" (by decide +kernel)).trans (by decide +kernel)) ?_
        walk_at "rd"
        refine ⟨small_line (by simp), rd_new fun l3 H3 e3 k3 _ => ?_⟩
        walk_at "rd"
        refine rd_cat (e3 _ _ k2) k3 (small_line (by simp)) (rd_new fun l4 H4 e4 k4 _ => ?_)
        walk_at "rd"
        refine rd_isiC (b := false) ((XF.kc "NoStair" (by decide +kernel) "NotBare" (by decide +kernel)).trans (by decide +kernel)) ?_
        walk_at "rd"
        refine rd_isiC (b := false) ((XF.kc "NoStair" (by decide +kernel) "NoWalk" (by decide +kernel)).trans (by decide +kernel)) ?_
        walk_at "rd"
        refine rd_isiC (b := false) ((XF.kc "NoStair" (by decide +kernel) "NoWay" (by decide +kernel)).trans (by decide +kernel)) ?_
        walk_at "rd"
        refine ⟨small_line (by simp), rd_new fun l5 H5 e5 k5 _ => ?_⟩
        walk_at "rd"
        refine rd_cat (e5 _ _ k4) k5 (small_line (by simp)) (rd_new fun l6 H6 e6 k6 _ => ?_)
        have k6 : H6 l6 = some (.lst (List.map V.bl [true, false, false, false, false, false, false, false, false, false, false])) := k6
        have e16 : Ext H H6 := e2.trans (e3.trans (e4.trans (e5.trans e6)))
        clear e2 e3 e4 e5 e6 k2 k3 k4 k5
        walk_at "rd"
        refine rd_ifN ?_
        walk_at "rd"
        refine ⟨rd_tyL (SqL.of k6), ?_⟩
        walk_at "rd"
        refine ⟨l6, _, true, rfl, rfl, SqL.of k6, ?_⟩
        rw [show List.countP (· == true) [true, false, false, false, false, false, false, false, false, false, false] = 1 from rfl]
        walk_at "rd"
        refine iteT ?_
        walk_at "rd"
        refine rd_isiT (XF.kv "NoStair" (by decide +kernel)) ?_
        walk_at "rd"
        refine iteT ?_
        walk_at "rd"
        refine ⟨rd_tyL (SqL.of k6), ?_⟩
        walk_at "rd"
        have hno : ∀ m b, m < 0 → ([true, false, false, false, false, false, false, false, false, false, false] : List Bool)[m]? = some b → b ≠ true := fun m b hm hb => by omega
        refine ⟨l6, _, true, 0, rfl, rfl, SqL.of k6, rfl, hno, by decide, ?_⟩
        walk_at "rd"
        refine iteT ?_
        walk_at "rd"
        refine ⟨small_line (by simp), rd_new fun l7 H7 e7 k7 _ => ?_⟩
        walk_at "rd"
        refine ⟨rd_tyL (SqL.of (e7 _ _ k6)), ?_⟩
        walk_at "rd"
        refine ⟨l6, _, true, 0, rfl, rfl, SqL.of (e7 _ _ k6), rfl, hno, by decide, ?_⟩
        refine rd_ixL (SqL.of k7) (v := .str (Str.ofString "stair")) rfl ?_
        walk_at "rd"
        exact q H7 (e16.trans e7).et (htab.ext (e16.trans e7))
      · refine ⟨k, v, rfl, .inr (.inr ⟨hg, ?_⟩)⟩
        refine ⟨_, rfl, XF.up "TooGreat" (by decide +kernel), XF.exk "TooGreat" (by decide +kernel), fun x hx => ?_⟩
        walk_at "rd"
        refine rd_isiC (b := false) ((XF.kc "TooGreat" (by decide +kernel) "NoStair" (by decide +kernel)).trans (by decide +kernel)) ?_
        walk_at "rd"
        refine rd_isiC (b := true) ((XF.kc "TooGreat" (by decide +kernel) "TooGreat" (by decide +kernel)).trans (by decide +kernel)) ?_
        walk_at "rd"
        refine rd_isiC (b := false) ((XF.kc "TooGreat" (by decide +kernel) "Endless" (by decide +kernel)).trans (by decide +kernel)) ?_
        walk_at "rd"
        refine rd_isiC (b := false) ((XF.kc "TooGreat" (by decide +kernel) "NoDeed" (by decide +kernel)).trans (by decide +kernel)) ?_
        walk_at "rd"
        refine ⟨small_line (by simp), rd_new fun l2 H2 e2 k2 _ => ?_⟩
        walk_at "rd"
        refine rd_isiC (b := false) ((XF.kc "TooGreat" (by decide +kernel) "NoHouse" (by decide +kernel)).trans (by decide +kernel)) ?_
        walk_at "rd"
        refine rd_isiC (b := false) ((XF.kc "TooGreat" (by decide +kernel) "NoLine" (by decide +kernel)).trans (by decide +kernel)) ?_
        walk_at "rd"
        refine rd_isiC (b := false) ((XF.kc "TooGreat" (by decide +kernel) "NoPlace" (by decide +kernel)).trans (by decide +kernel)) ?_
        walk_at "rd"
        refine rd_isiC (b := false) ((XF.kc "TooGreat" (by decide +kernel) "NoText" (by decide +kernel)).trans (by decide +kernel)) ?_
        walk_at "rd"
        refine ⟨small_line (by simp), rd_new fun l3 H3 e3 k3 _ => ?_⟩
        walk_at "rd"
        refine rd_cat (e3 _ _ k2) k3 (small_line (by simp)) (rd_new fun l4 H4 e4 k4 _ => ?_)
        walk_at "rd"
        refine rd_isiC (b := false) ((XF.kc "TooGreat" (by decide +kernel) "NotBare" (by decide +kernel)).trans (by decide +kernel)) ?_
        walk_at "rd"
        refine rd_isiC (b := false) ((XF.kc "TooGreat" (by decide +kernel) "NoWalk" (by decide +kernel)).trans (by decide +kernel)) ?_
        walk_at "rd"
        refine rd_isiC (b := false) ((XF.kc "TooGreat" (by decide +kernel) "NoWay" (by decide +kernel)).trans (by decide +kernel)) ?_
        walk_at "rd"
        refine ⟨small_line (by simp), rd_new fun l5 H5 e5 k5 _ => ?_⟩
        walk_at "rd"
        refine rd_cat (e5 _ _ k4) k5 (small_line (by simp)) (rd_new fun l6 H6 e6 k6 _ => ?_)
        have k6 : H6 l6 = some (.lst (List.map V.bl [false, true, false, false, false, false, false, false, false, false, false])) := k6
        have e16 : Ext H H6 := e2.trans (e3.trans (e4.trans (e5.trans e6)))
        clear e2 e3 e4 e5 e6 k2 k3 k4 k5
        walk_at "rd"
        refine rd_ifN ?_
        walk_at "rd"
        refine ⟨rd_tyL (SqL.of k6), ?_⟩
        walk_at "rd"
        refine ⟨l6, _, true, rfl, rfl, SqL.of k6, ?_⟩
        rw [show List.countP (· == true) [false, true, false, false, false, false, false, false, false, false, false] = 1 from rfl]
        walk_at "rd"
        refine iteT ?_
        walk_at "rd"
        refine rd_isiT (XF.kv "TooGreat" (by decide +kernel)) ?_
        walk_at "rd"
        refine iteT ?_
        walk_at "rd"
        refine ⟨rd_tyL (SqL.of k6), ?_⟩
        walk_at "rd"
        have hno : ∀ m b, m < 1 → ([false, true, false, false, false, false, false, false, false, false, false] : List Bool)[m]? = some b → b ≠ true := fun m b hm hb => by
          have hm0 : m = 0 := by omega
          subst hm0
          cases hb
          exact Bool.false_ne_true
        refine ⟨l6, _, true, 1, rfl, rfl, SqL.of k6, rfl, hno, by decide, ?_⟩
        walk_at "rd"
        refine iteT ?_
        walk_at "rd"
        refine ⟨small_line (by simp), rd_new fun l7 H7 e7 k7 _ => ?_⟩
        walk_at "rd"
        refine ⟨rd_tyL (SqL.of (e7 _ _ k6)), ?_⟩
        walk_at "rd"
        refine ⟨l6, _, true, 1, rfl, rfl, SqL.of (e7 _ _ k6), rfl, hno, by decide, ?_⟩
        refine rd_ixL (SqL.of k7) (v := .str (Str.ofString "great")) rfl ?_
        walk_at "rd"
        exact q H7 (e16.trans e7).et (htab.ext (e16.trans e7))
    · rw [decide_eq_false (show ¬ k < 6 by omega)]
      refine iteF ?_
      walk_at "rd"
      refine ⟨k - 6, v, u, rfl, dis, htab, ?_⟩
      rcases hh with ⟨hg, rfl⟩ | ⟨hn, rfl⟩ | ⟨hg, rfl⟩
      · refine .inl ⟨hg, fun H1 e1 t1 w9 => ?_⟩
        walk_at "rd"
        exact q H1 e1 t1
      · refine .inr (.inl ⟨hn, fun H1 e1 t1 => ?_⟩)
        refine ⟨_, rfl, XF.up "NoStair" (by decide +kernel), XF.exk "NoStair" (by decide +kernel), fun x hx => ?_⟩
        walk_at "rd"
        refine rd_isiC (b := true) ((XF.kc "NoStair" (by decide +kernel) "NoStair" (by decide +kernel)).trans (by decide +kernel)) ?_
        walk_at "rd"
        refine rd_isiC (b := false) ((XF.kc "NoStair" (by decide +kernel) "TooGreat" (by decide +kernel)).trans (by decide +kernel)) ?_
        walk_at "rd"
        refine rd_isiC (b := false) ((XF.kc "NoStair" (by decide +kernel) "Endless" (by decide +kernel)).trans (by decide +kernel)) ?_
        walk_at "rd"
        refine rd_isiC (b := false) ((XF.kc "NoStair" (by decide +kernel) "NoDeed" (by decide +kernel)).trans (by decide +kernel)) ?_
        walk_at "rd"
        refine ⟨small_line (by simp), rd_new fun l2 H2 e2 k2 _ => ?_⟩
        walk_at "rd"
        refine rd_isiC (b := false) ((XF.kc "NoStair" (by decide +kernel) "NoHouse" (by decide +kernel)).trans (by decide +kernel)) ?_
        walk_at "rd"
        refine rd_isiC (b := false) ((XF.kc "NoStair" (by decide +kernel) "NoLine" (by decide +kernel)).trans (by decide +kernel)) ?_
        walk_at "rd"
        refine rd_isiC (b := false) ((XF.kc "NoStair" (by decide +kernel) "NoPlace" (by decide +kernel)).trans (by decide +kernel)) ?_
        walk_at "rd"
        refine rd_isiC (b := false) ((XF.kc "NoStair" (by decide +kernel) "NoText" (by decide +kernel)).trans (by decide +kernel)) ?_
        walk_at "rd"
        refine ⟨small_line (by simp), rd_new fun l3 H3 e3 k3 _ => ?_⟩
        walk_at "rd"
        refine rd_cat (e3 _ _ k2) k3 (small_line (by simp)) (rd_new fun l4 H4 e4 k4 _ => ?_)
        walk_at "rd"
        refine rd_isiC (b := false) ((XF.kc "NoStair" (by decide +kernel) "NotBare" (by decide +kernel)).trans (by decide +kernel)) ?_
        walk_at "rd"
        refine rd_isiC (b := false) ((XF.kc "NoStair" (by decide +kernel) "NoWalk" (by decide +kernel)).trans (by decide +kernel)) ?_
        walk_at "rd"
        refine rd_isiC (b := false) ((XF.kc "NoStair" (by decide +kernel) "NoWay" (by decide +kernel)).trans (by decide +kernel)) ?_
        walk_at "rd"
        refine ⟨small_line (by simp), rd_new fun l5 H5 e5 k5 _ => ?_⟩
        walk_at "rd"
        refine rd_cat (e5 _ _ k4) k5 (small_line (by simp)) (rd_new fun l6 H6 e6 k6 _ => ?_)
        have k6 : H6 l6 = some (.lst (List.map V.bl [true, false, false, false, false, false, false, false, false, false, false])) := k6
        have e16 : Ext H1 H6 := e2.trans (e3.trans (e4.trans (e5.trans e6)))
        clear e2 e3 e4 e5 e6 k2 k3 k4 k5
        walk_at "rd"
        refine rd_ifN ?_
        walk_at "rd"
        refine ⟨rd_tyL (SqL.of k6), ?_⟩
        walk_at "rd"
        refine ⟨l6, _, true, rfl, rfl, SqL.of k6, ?_⟩
        rw [show List.countP (· == true) [true, false, false, false, false, false, false, false, false, false, false] = 1 from rfl]
        walk_at "rd"
        refine iteT ?_
        walk_at "rd"
        refine rd_isiT (XF.kv "NoStair" (by decide +kernel)) ?_
        walk_at "rd"
        refine iteT ?_
        walk_at "rd"
        refine ⟨rd_tyL (SqL.of k6), ?_⟩
        walk_at "rd"
        have hno : ∀ m b, m < 0 → ([true, false, false, false, false, false, false, false, false, false, false] : List Bool)[m]? = some b → b ≠ true := fun m b hm hb => by omega
        refine ⟨l6, _, true, 0, rfl, rfl, SqL.of k6, rfl, hno, by decide, ?_⟩
        walk_at "rd"
        refine iteT ?_
        walk_at "rd"
        refine ⟨small_line (by simp), rd_new fun l7 H7 e7 k7 _ => ?_⟩
        walk_at "rd"
        refine ⟨rd_tyL (SqL.of (e7 _ _ k6)), ?_⟩
        walk_at "rd"
        refine ⟨l6, _, true, 0, rfl, rfl, SqL.of (e7 _ _ k6), rfl, hno, by decide, ?_⟩
        refine rd_ixL (SqL.of k7) (v := .str (Str.ofString "stair")) rfl ?_
        walk_at "rd"
        exact q H7 (e1.trans (e16.trans e7).et) (t1.ext (e16.trans e7))
      · refine .inr (.inr ⟨hg, fun H1 e1 t1 => ?_⟩)
        refine ⟨_, rfl, XF.up "TooGreat" (by decide +kernel), XF.exk "TooGreat" (by decide +kernel), fun x hx => ?_⟩
        walk_at "rd"
        refine rd_isiC (b := false) ((XF.kc "TooGreat" (by decide +kernel) "NoStair" (by decide +kernel)).trans (by decide +kernel)) ?_
        walk_at "rd"
        refine rd_isiC (b := true) ((XF.kc "TooGreat" (by decide +kernel) "TooGreat" (by decide +kernel)).trans (by decide +kernel)) ?_
        walk_at "rd"
        refine rd_isiC (b := false) ((XF.kc "TooGreat" (by decide +kernel) "Endless" (by decide +kernel)).trans (by decide +kernel)) ?_
        walk_at "rd"
        refine rd_isiC (b := false) ((XF.kc "TooGreat" (by decide +kernel) "NoDeed" (by decide +kernel)).trans (by decide +kernel)) ?_
        walk_at "rd"
        refine ⟨small_line (by simp), rd_new fun l2 H2 e2 k2 _ => ?_⟩
        walk_at "rd"
        refine rd_isiC (b := false) ((XF.kc "TooGreat" (by decide +kernel) "NoHouse" (by decide +kernel)).trans (by decide +kernel)) ?_
        walk_at "rd"
        refine rd_isiC (b := false) ((XF.kc "TooGreat" (by decide +kernel) "NoLine" (by decide +kernel)).trans (by decide +kernel)) ?_
        walk_at "rd"
        refine rd_isiC (b := false) ((XF.kc "TooGreat" (by decide +kernel) "NoPlace" (by decide +kernel)).trans (by decide +kernel)) ?_
        walk_at "rd"
        refine rd_isiC (b := false) ((XF.kc "TooGreat" (by decide +kernel) "NoText" (by decide +kernel)).trans (by decide +kernel)) ?_
        walk_at "rd"
        refine ⟨small_line (by simp), rd_new fun l3 H3 e3 k3 _ => ?_⟩
        walk_at "rd"
        refine rd_cat (e3 _ _ k2) k3 (small_line (by simp)) (rd_new fun l4 H4 e4 k4 _ => ?_)
        walk_at "rd"
        refine rd_isiC (b := false) ((XF.kc "TooGreat" (by decide +kernel) "NotBare" (by decide +kernel)).trans (by decide +kernel)) ?_
        walk_at "rd"
        refine rd_isiC (b := false) ((XF.kc "TooGreat" (by decide +kernel) "NoWalk" (by decide +kernel)).trans (by decide +kernel)) ?_
        walk_at "rd"
        refine rd_isiC (b := false) ((XF.kc "TooGreat" (by decide +kernel) "NoWay" (by decide +kernel)).trans (by decide +kernel)) ?_
        walk_at "rd"
        refine ⟨small_line (by simp), rd_new fun l5 H5 e5 k5 _ => ?_⟩
        walk_at "rd"
        refine rd_cat (e5 _ _ k4) k5 (small_line (by simp)) (rd_new fun l6 H6 e6 k6 _ => ?_)
        have k6 : H6 l6 = some (.lst (List.map V.bl [false, true, false, false, false, false, false, false, false, false, false])) := k6
        have e16 : Ext H1 H6 := e2.trans (e3.trans (e4.trans (e5.trans e6)))
        clear e2 e3 e4 e5 e6 k2 k3 k4 k5
        walk_at "rd"
        refine rd_ifN ?_
        walk_at "rd"
        refine ⟨rd_tyL (SqL.of k6), ?_⟩
        walk_at "rd"
        refine ⟨l6, _, true, rfl, rfl, SqL.of k6, ?_⟩
        rw [show List.countP (· == true) [false, true, false, false, false, false, false, false, false, false, false] = 1 from rfl]
        walk_at "rd"
        refine iteT ?_
        walk_at "rd"
        refine rd_isiT (XF.kv "TooGreat" (by decide +kernel)) ?_
        walk_at "rd"
        refine iteT ?_
        walk_at "rd"
        refine ⟨rd_tyL (SqL.of k6), ?_⟩
        walk_at "rd"
        have hno : ∀ m b, m < 1 → ([false, true, false, false, false, false, false, false, false, false, false] : List Bool)[m]? = some b → b ≠ true := fun m b hm hb => by
          have hm0 : m = 0 := by omega
          subst hm0
          cases hb
          exact Bool.false_ne_true
        refine ⟨l6, _, true, 1, rfl, rfl, SqL.of k6, rfl, hno, by decide, ?_⟩
        walk_at "rd"
        refine iteT ?_
        walk_at "rd"
        refine ⟨small_line (by simp), rd_new fun l7 H7 e7 k7 _ => ?_⟩
        walk_at "rd"
        refine ⟨rd_tyL (SqL.of (e7 _ _ k6)), ?_⟩
        walk_at "rd"
        refine ⟨l6, _, true, 1, rfl, rfl, SqL.of (e7 _ _ k6), rfl, hno, by decide, ?_⟩
        refine rd_ixL (SqL.of k7) (v := .str (Str.ofString "great")) rfl ?_
        walk_at "rd"
        exact q H7 (e1.trans (e16.trans e7).et) (t1.ext (e16.trans e7))
noncomputable def Kns (H : Hp) (d : Nat) (xs : List V) : Prop := ∀ x ∈ xs, Kn H d x
theorem Kns.nil (H : Hp) (d : Nat) : Kns H d [] := fun x hx => by cases hx
theorem Kns.cons {H : Hp} {d : Nat} {x : V} {xs : List V} (h : Kn H d x) (h' : Kns H d xs) : Kns H d (x :: xs) := fun y hy => by
  rcases List.mem_cons.mp hy with rfl | hy
  · exact h
  · exact h' y hy
noncomputable def flatK : V → Bool
  | .non => true
  | .bl _ => true
  | .int _ => true
  | .str _ => true
  | _ => false
theorem kn_flat {H : Hp} {d : Nat} {v : V} (h : flatK v = true) : Kn H d v := by
  have hk : ∃ n, kindV H v n := by
    cases v with
    | non => exact ⟨_, rfl⟩
    | bl b => exact ⟨_, rfl⟩
    | int i => exact ⟨_, rfl⟩
    | str z => exact ⟨_, rfl⟩
    | _ => cases h
  cases d with
  | zero => exact hk
  | succ d => exact ⟨hk, fun p xs e => by subst e; cases h⟩
theorem kn_tup {H : Hp} {d : Nat} {p : Addr} {xs : List V} (h : H p = some (.tup xs)) (hx : Kns H d xs) : Kn H (d + 1) (.ref p) :=
  ⟨⟨"tuple", .inr ⟨rfl, xs, h⟩⟩, fun p' ys e z x hm => by
    cases e
    rw [h] at z
    cases z
    exact hx x hm⟩
theorem kn_lst {H : Hp} {d : Nat} {p : Addr} {xs : List V} (h : H p = some (.lst xs)) : Kn H d (.ref p) := by
  cases d with
  | zero => exact ⟨"list", .inl ⟨rfl, xs, h⟩⟩
  | succ d => exact ⟨⟨"list", .inl ⟨rfl, xs, h⟩⟩, fun p' ys e z => by
      cases e
      rw [h] at z
      cases z⟩
theorem kn_ends {H : Hp} {p : Addr} {xs : List Int} {y : Int} (h : H p = some (.tup (xs.map V.int ++ [.int y]))) : Kn H 1 (.ref p) := kn_ints (xs := xs ++ [y]) (by rw [List.map_append]; exact h)
theorem stair_lst {H : Hp} {p : Addr} {xs : List V} (h : H p = some (.lst xs)) : stairV H (.ref p) = false := stairV_no fun p' ys e z => by
  cases e
  rw [h] at z
  cases z
theorem row_lst {H : Hp} {lo hi : Int} {p : Addr} {xs : List V} (h : H p = some (.lst xs)) : rowV H lo hi (.ref p) = false := rowV_no fun p' ys e z => by
  cases e
  rw [h] at z
  cases z
theorem places_eq {H : Hp} {b s : Int} {o a : V} : placesV H (.int b) (.int s) o a = (decide (0 ≤ b) && decide (1 ≤ s) && rowV H 0 b o && rowV H b (b + s) a) := rfl
theorem places_b {H : Hp} {b s : Int} {o a : V} (h : b < 0) : placesV H (.int b) (.int s) o a = false := by
  rw [places_eq, decide_eq_false (show ¬ 0 ≤ b by omega)]
  rfl
theorem places_s {H : Hp} {b s : Int} {o a : V} (h : s < 1) : placesV H (.int b) (.int s) o a = false := by
  rw [places_eq, decide_eq_false (show ¬ 1 ≤ s by omega), Bool.and_false]
  rfl
theorem places_o {H : Hp} {b s : Int} {o a : V} (h : rowV H 0 b o = false) : placesV H (.int b) (.int s) o a = false := by
  rw [places_eq, h, Bool.and_false]
  rfl
theorem places_a {H : Hp} {b s : Int} {o a : V} (h : rowV H b (b + s) a = false) : placesV H (.int b) (.int s) o a = false := by
  rw [places_eq, h, Bool.and_false]
theorem rising_end {lo hi y : Int} {xs : List Int} (h : hi ≤ y) : risingV lo hi (xs.map V.int ++ [.int y]) = false := by
  rw [Bool.eq_false_iff]
  intro c
  have c' : risingV lo hi ((xs ++ [y]).map V.int) = true := by rw [List.map_append]; exact c
  have := (rising_map.mp c').2 y (List.mem_append_right _ (List.mem_singleton.mpr rfl))
  omega
noncomputable def NoSl (H : Hp) (xs : List V) : Prop := ∀ x ∈ xs, NoS H x
theorem NoSl.nil (H : Hp) : NoSl H [] := fun x hx => by cases hx
theorem NoSl.cons {H : Hp} {x : V} {xs : List V} (h : NoS H x) (h' : NoSl H xs) : NoSl H (x :: xs) := fun y hy => by
  rcases List.mem_cons.mp hy with rfl | hy
  · exact h
  · exact h' y hy
theorem NoSl.ext {H H' : Hp} {xs : List V} (e : Ext H H') (h : NoSl H xs) : NoSl H' xs := fun x hx => (h x hx).et e.et
theorem NoSl.app {H : Hp} {xs ys : List V} (h : NoSl H xs) (h' : NoSl H ys) : NoSl H (xs ++ ys) := fun x hx => (List.mem_append.mp hx).elim (h x) (h' x)
noncomputable def NoSs (H : Hp) (p : Addr) (n : Nat) : Prop := ∃ xs, H p = some (.lst xs) ∧ xs.length = n ∧ NoSl H xs
theorem NoSs.ext {H H' : Hp} {p : Addr} {n : Nat} (e : Ext H H') (h : NoSs H p n) : NoSs H' p n := by
  obtain ⟨xs, h1, h2, h3⟩ := h
  exact ⟨xs, e _ _ h1, h2, h3.ext e⟩
noncomputable def sp__law_bad (K : PySem.W.Frag) : Sp := fun vs H Q _ => ∃ (k : Int) (v : V), vs = [.int k, v] ∧ 0 ≤ k ∧ k < 20 ∧ GoodS H v ∧ ∀ u H', Ext H H' → NoS H' u → Q u H'
noncomputable abbrev s__law_bad : Stmt := top 57
theorem sc__law_bad : FnScope ["_law_way", "_law_stair", "_law_base", "_law_step", "_law_once", "_law_again", "_law_some"] ["_law_way", "_law_stair"] (defScope s__law_bad) := ⟨rfl, rfl, rfl, by decide +kernel, rfl, by decide +kernel, by decide +kernel⟩
theorem ok__law_bad {P : Program} {w : World} {K : PySem.W.Frag} {mg : Str → Option Value} {base : Heap} (D : Dfn K mg "_law_bad" s__law_bad ["_law_way", "_law_stair"]) (T : Blt mg) : Cal P w K mg base "_law_bad" 1 ["_law_way", "_law_stair"] (sp__law_bad K) := by
  have nd := (sc__law_bad).nd
  refine D.ok sc__law_bad (fun vs H Q E h => ?_) (fun X hX H vs Q E h => ?_)
  · obtain ⟨k, v, rfl, _⟩ := h; rfl
  · obtain ⟨f, cdv, A, outer, s, H0, E0, rfl, hr⟩ := hX
    obtain ⟨k, v, rfl, k0, k20, ⟨b, s1, o, a, ⟨p, oq, ar, rfl, h1, h2, h3⟩, hg⟩, q⟩ := h
    have lo := hg.lo
    have la := hg.la
    refine ⟨_, (no_implicit_lambda% (@pss_cons _ _ _ _ _ (no_implicit_lambda% (@ps_asg _ _ _ _ _ _ (no_implicit_lambda% (pv 1)) (no_implicit_lambda% (pg_tupK (n := 4) K rfl (pgs_cons (no_implicit_lambda% (pg_name (i := 2) nd rfl (Or.inl rfl))) (pgs_cons (no_implicit_lambda% (pg_name (i := 3) nd rfl (Or.inl rfl))) (pgs_cons (no_implicit_lambda% (pg_name (i := 4) nd rfl (Or.inl rfl))) (pgs_cons (no_implicit_lambda% (pg_name (i := 5) nd rfl (Or.inl rfl))) pgs_nil)))))) rfl rfl rfl))
        (no_implicit_lambda% (@pss_cons _ _ _ _ _ (no_implicit_lambda% (@ps_set _ _ 6 _ _ _ _ nd rfl (Or.inl rfl) (no_implicit_lambda% (@pe_lst _ _ _ _ (no_implicit_lambda% (@pa_cons _ _ _ _ _ pe_non (no_implicit_lambda% (@pa_cons _ _ _ _ _ pe_int (no_implicit_lambda% (@pa_cons _ _ _ _ _ pe_str (no_implicit_lambda% (@pa_cons _ _ _ _ _ (no_implicit_lambda% (@pe_tup _ _ _ _ _ pa_nil)) (no_implicit_lambda% (@pa_cons _ _ _ _ _ (no_implicit_lambda% (pe_callTy (call_listK K) rfl T.list_ PyProof.Rows.boot_list (no_implicit_lambda% (@pa_cons _ _ _ _ _ (no_implicit_lambda% (pv 1)) pa_nil rfl)))) (no_implicit_lambda% (@pa_cons _ _ _ _ _ (no_implicit_lambda% (pe_slice sl_tup1 (no_implicit_lambda% (pv 1)) po_none (po_some pe_int))) (no_implicit_lambda% (@pa_cons _ _ _ _ _ (no_implicit_lambda% (pe_op op_catT1 (no_implicit_lambda% (pv 1)) (no_implicit_lambda% (@pe_tup _ _ _ _ _ (no_implicit_lambda% (@pa_cons _ _ _ _ _ pe_int pa_nil rfl)))))) (no_implicit_lambda% (@pa_cons _ _ _ _ _ (no_implicit_lambda% (@pe_tup _ _ _ _ _ (no_implicit_lambda% (@pa_cons _ _ _ _ _ (no_implicit_lambda% (pe_un un_neg pe_int)) (no_implicit_lambda% (@pa_cons _ _ _ _ _ (no_implicit_lambda% (pv 3)) (no_implicit_lambda% (@pa_cons _ _ _ _ _ (no_implicit_lambda% (@pe_tup _ _ _ _ _ pa_nil)) (no_implicit_lambda% (@pa_cons _ _ _ _ _ (no_implicit_lambda% (@pe_tup _ _ _ _ _ pa_nil)) pa_nil rfl)) rfl)) rfl)) rfl)))) (no_implicit_lambda% (@pa_cons _ _ _ _ _ (no_implicit_lambda% (@pe_tup _ _ _ _ _ (no_implicit_lambda% (@pa_cons _ _ _ _ _ (no_implicit_lambda% (pv 2)) (no_implicit_lambda% (@pa_cons _ _ _ _ _ pe_int (no_implicit_lambda% (@pa_cons _ _ _ _ _ (no_implicit_lambda% (pv 4)) (no_implicit_lambda% (@pa_cons _ _ _ _ _ (no_implicit_lambda% (@pe_tup _ _ _ _ _ pa_nil)) pa_nil rfl)) rfl)) rfl)) rfl)))) pa_nil rfl)) rfl)) rfl)) rfl)) rfl)) rfl)) rfl)) rfl)) rfl)))) rfl (Or.inl rfl)))
        (no_implicit_lambda% (@pss_cons _ _ _ _ _ (no_implicit_lambda% (@ps_set _ _ 6 _ _ _ _ nd rfl (Or.inl rfl) (no_implicit_lambda% (pe_op op_cat (no_implicit_lambda% (pv 6)) (no_implicit_lambda% (@pe_lst _ _ _ _ (no_implicit_lambda% (@pa_lit _ _ _ _ _ (.tup (.cons .bl (.cons .int (.cons (.tup .nil) (.cons (.tup .nil) .nil))))) (no_implicit_lambda% (@pa_cons _ _ _ _ _ (no_implicit_lambda% (@pe_tup _ _ _ _ _ (no_implicit_lambda% (@pa_cons _ _ _ _ _ (no_implicit_lambda% (pv 2)) (no_implicit_lambda% (@pa_cons _ _ _ _ _ (no_implicit_lambda% (pv 3)) (no_implicit_lambda% (@pa_cons _ _ _ _ _ (no_implicit_lambda% (pe_callTy (call_listK K) rfl T.list_ PyProof.Rows.boot_list (no_implicit_lambda% (@pa_cons _ _ _ _ _ (no_implicit_lambda% (pv 4)) pa_nil rfl)))) (no_implicit_lambda% (@pa_cons _ _ _ _ _ (no_implicit_lambda% (pv 5)) pa_nil rfl)) rfl)) rfl)) rfl)))) (no_implicit_lambda% (@pa_cons _ _ _ _ _ (no_implicit_lambda% (@pe_tup _ _ _ _ _ (no_implicit_lambda% (@pa_cons _ _ _ _ _ (no_implicit_lambda% (pv 2)) (no_implicit_lambda% (@pa_cons _ _ _ _ _ (no_implicit_lambda% (pv 3)) (no_implicit_lambda% (@pa_cons _ _ _ _ _ (no_implicit_lambda% (pv 4)) (no_implicit_lambda% (@pa_cons _ _ _ _ _ (no_implicit_lambda% (pe_callTy (call_listK K) rfl T.list_ PyProof.Rows.boot_list (no_implicit_lambda% (@pa_cons _ _ _ _ _ (no_implicit_lambda% (pv 5)) pa_nil rfl)))) pa_nil rfl)) rfl)) rfl)) rfl)))) pa_nil rfl)) rfl)))))))) rfl (Or.inl rfl)))
        (no_implicit_lambda% (@pss_cons _ _ _ _ _ (no_implicit_lambda% (@ps_set _ _ 6 _ _ _ _ nd rfl (Or.inl rfl) (no_implicit_lambda% (pe_op op_cat (no_implicit_lambda% (pv 6)) (no_implicit_lambda% (@pe_lst _ _ _ _ (no_implicit_lambda% (@pa_cons _ _ _ _ _ (no_implicit_lambda% (@pe_tup _ _ _ _ _ (no_implicit_lambda% (@pa_cons _ _ _ _ _ (no_implicit_lambda% (pv 2)) (no_implicit_lambda% (@pa_cons _ _ _ _ _ (no_implicit_lambda% (pv 3)) (no_implicit_lambda% (@pa_cons _ _ _ _ _ (no_implicit_lambda% (pe_op op_catT1 (no_implicit_lambda% (pv 4)) (no_implicit_lambda% (@pe_tup _ _ _ _ _ (no_implicit_lambda% (@pa_cons _ _ _ _ _ (no_implicit_lambda% (pv 2)) pa_nil rfl)))))) (no_implicit_lambda% (@pa_cons _ _ _ _ _ (no_implicit_lambda% (pv 5)) pa_nil rfl)) rfl)) rfl)) rfl)))) (no_implicit_lambda% (@pa_cons _ _ _ _ _ (no_implicit_lambda% (@pe_tup _ _ _ _ _ (no_implicit_lambda% (@pa_cons _ _ _ _ _ (no_implicit_lambda% (pv 2)) (no_implicit_lambda% (@pa_cons _ _ _ _ _ (no_implicit_lambda% (pv 3)) (no_implicit_lambda% (@pa_cons _ _ _ _ _ (no_implicit_lambda% (pv 4)) (no_implicit_lambda% (@pa_cons _ _ _ _ _ (no_implicit_lambda% (pe_op op_catT1 (no_implicit_lambda% (pv 5)) (no_implicit_lambda% (@pe_tup _ _ _ _ _ (no_implicit_lambda% (@pa_cons _ _ _ _ _ (no_implicit_lambda% (pe_op op_add (no_implicit_lambda% (pv 2)) (no_implicit_lambda% (pv 3)))) pa_nil rfl)))))) pa_nil rfl)) rfl)) rfl)) rfl)))) pa_nil rfl)) rfl)))))) rfl (Or.inl rfl)))
        (no_implicit_lambda% (@pss_cons _ _ _ _ _ (no_implicit_lambda% (@ps_set _ _ 6 _ _ _ _ nd rfl (Or.inl rfl) (no_implicit_lambda% (pe_op op_cat (no_implicit_lambda% (pv 6)) (no_implicit_lambda% (@pe_lst _ _ _ _ (no_implicit_lambda% (@pa_lit _ _ _ _ _ (.tup (.cons .int (.cons .int (.cons (.tup (.cons .int (.cons .int .nil))) (.cons (.tup .nil) .nil))))) (no_implicit_lambda% (@pa_lit _ _ _ _ _ (.tup (.cons .int (.cons .int (.cons (.tup (.cons .int (.cons .int .nil))) (.cons (.tup .nil) .nil))))) (no_implicit_lambda% (@pa_lit _ _ _ _ _ (.tup (.cons .int (.cons .int (.cons (.tup .nil) (.cons (.tup (.cons .int .nil)) .nil))))) (no_implicit_lambda% (@pa_lit _ _ _ _ _ (.tup (.cons .int (.cons .int (.cons (.tup .nil) (.cons (.tup (.cons .bl .nil)) .nil))))) (no_implicit_lambda% (@pa_lit _ _ _ _ _ (.tup (.cons .str (.cons .int (.cons (.tup .nil) (.cons (.tup .nil) .nil))))) pa_nil)))))))))))))) rfl (Or.inl rfl)))
        (no_implicit_lambda% (@pss_one _ _ _ (no_implicit_lambda% (@ps_ret _ _ _ _ (no_implicit_lambda% (@pe_ix _ _ _ _ _ _ _ (ix_listK K) (no_implicit_lambda% (pe_op op_cat (no_implicit_lambda% (pv 6)) (no_implicit_lambda% (@pe_lst _ _ _ _ (no_implicit_lambda% (@pa_lit _ _ _ _ _ (.tup (.cons .int (.cons .non (.cons (.tup .nil) (.cons (.tup .nil) .nil))))) pa_nil)))))) (no_implicit_lambda% (pv 0)) (fun _ _ => rfl))))))))))))))))), ?_⟩
    walk_at "rd"
    refine rd_gtup (SqT.of h1) rfl ?_
    walk_at "rd"
    refine ⟨small_line (by simp), rd_new fun p1 G1 e1 k1 _ => ?_⟩
    walk_at "rd"
    refine rd_listT (SqT.of (e1 _ _ h1)) (rd_new fun p2 G2 e2 k2 _ => ?_)
    walk_at "rd"
    refine rd_slT1 ((e1.trans e2) _ _ h1) fun p3 G3 e3 k3 => ?_
    walk_at "rd"
    refine ⟨small_line (by simp), rd_new fun p4 G4 e4 k4 _ => ?_⟩
    walk_at "rd"
    refine rd_catT1 ((e1.trans (e2.trans (e3.trans e4))) _ _ h1) k4 (small_line (by simp)) fun p5 G5 e5 k5 => ?_
    walk_at "rd"
    refine ⟨small_line (by simp), rd_new fun p6 G6 e6 k6 _ => ?_⟩
    walk_at "rd"
    refine ⟨small_line (by simp), rd_new fun p7 G7 e7 k7 _ => ?_⟩
    walk_at "rd"
    refine ⟨small_line (by simp), rd_new fun p8 G8 e8 k8 _ => ?_⟩
    walk_at "rd"
    refine ⟨small_line (by simp), rd_new fun p9 G9 e9 k9 _ => ?_⟩
    walk_at "rd"
    refine ⟨small_line (by simp), rd_new fun p10 G10 e10 k10 _ => ?_⟩
    walk_at "rd"
    refine ⟨small_line (by simp), rd_new fun p11 G11 e11 k11 _ => ?_⟩
    walk_at "rd"
    have F1 : NoSs G11 p11 9 := ⟨_, k11, by rfl, (.cons ⟨(kn_flat rfl), rfl⟩ (.cons ⟨(kn_flat rfl), rfl⟩ (.cons ⟨(kn_flat rfl), rfl⟩ (.cons ⟨(kn_tup ((e2.trans (e3.trans (e4.trans (e5.trans (e6.trans (e7.trans (e8.trans (e9.trans (e10.trans e11))))))))) _ _ k1) (.nil _ _)), (stairV_len ((e2.trans (e3.trans (e4.trans (e5.trans (e6.trans (e7.trans (e8.trans (e9.trans (e10.trans e11))))))))) _ _ k1) (by simp))⟩ (.cons ⟨(kn_lst ((e3.trans (e4.trans (e5.trans (e6.trans (e7.trans (e8.trans (e9.trans (e10.trans e11)))))))) _ _ k2)), (stair_lst ((e3.trans (e4.trans (e5.trans (e6.trans (e7.trans (e8.trans (e9.trans (e10.trans e11)))))))) _ _ k2))⟩ (.cons ⟨(kn_tup (xs := [.int b, .int s1, .ref oq]) ((e4.trans (e5.trans (e6.trans (e7.trans (e8.trans (e9.trans (e10.trans e11))))))) _ _ k3) (.cons (kn_flat rfl) (.cons (kn_flat rfl) (.cons (kn_ints ((e1.trans (e2.trans (e3.trans (e4.trans (e5.trans (e6.trans (e7.trans (e8.trans (e9.trans (e10.trans e11)))))))))) _ _ h2)) (.nil _ _))))), (stairV_len (xs := [.int b, .int s1, .ref oq]) ((e4.trans (e5.trans (e6.trans (e7.trans (e8.trans (e9.trans (e10.trans e11))))))) _ _ k3) (by simp))⟩ (.cons ⟨(kn_tup (xs := [.int b, .int s1, .ref oq, .ref ar, .int 0]) ((e6.trans (e7.trans (e8.trans (e9.trans (e10.trans e11))))) _ _ k5) (.cons (kn_flat rfl) (.cons (kn_flat rfl) (.cons (kn_ints ((e1.trans (e2.trans (e3.trans (e4.trans (e5.trans (e6.trans (e7.trans (e8.trans (e9.trans (e10.trans e11)))))))))) _ _ h2)) (.cons (kn_ints ((e1.trans (e2.trans (e3.trans (e4.trans (e5.trans (e6.trans (e7.trans (e8.trans (e9.trans (e10.trans e11)))))))))) _ _ h3)) (.cons (kn_flat rfl) (.nil _ _))))))), (stairV_len (xs := [.int b, .int s1, .ref oq, .ref ar, .int 0]) ((e6.trans (e7.trans (e8.trans (e9.trans (e10.trans e11))))) _ _ k5) (by simp))⟩ (.cons ⟨(kn_tup ((e9.trans (e10.trans e11)) _ _ k8) (.cons (kn_flat rfl) (.cons (kn_flat rfl) (.cons (kn_tup ((e7.trans (e8.trans (e9.trans (e10.trans e11)))) _ _ k6) (.nil _ _)) (.cons (kn_tup ((e8.trans (e9.trans (e10.trans e11))) _ _ k7) (.nil _ _)) (.nil _ _)))))), ((stairV_tup ((e9.trans (e10.trans e11)) _ _ k8)).trans (places_b (by decide)))⟩ (.cons ⟨(kn_tup (e11 _ _ k10) (.cons (kn_flat rfl) (.cons (kn_flat rfl) (.cons (kn_ints ((e1.trans (e2.trans (e3.trans (e4.trans (e5.trans (e6.trans (e7.trans (e8.trans (e9.trans (e10.trans e11)))))))))) _ _ h2)) (.cons (kn_tup ((e10.trans e11) _ _ k9) (.nil _ _)) (.nil _ _)))))), ((stairV_tup (e11 _ _ k10)).trans (places_s (by decide)))⟩ (.nil _))))))))))⟩
    have b11 : Ext H G11 := (e1.trans (e2.trans (e3.trans (e4.trans (e5.trans (e6.trans (e7.trans (e8.trans (e9.trans (e10.trans e11))))))))))
    clear e1 e2 e3 e4 e5 e6 e7 e8 e9 e10 e11 k1 k2 k3 k4 k5 k6 k7 k8 k9 k10 k11
    refine ⟨small_line (by simp), rd_new fun p12 G12 e12 k12 _ => ?_⟩
    walk_at "rd"
    refine ⟨small_line (by simp), rd_new fun p13 G13 e13 k13 _ => ?_⟩
    walk_at "rd"
    refine ⟨small_line (by simp), rd_new fun p14 G14 e14 k14 _ => ?_⟩
    walk_at "rd"
    refine rd_listT (SqT.of ((e12.trans (e13.trans e14)) _ _ (b11 _ _ h2))) (rd_new fun p15 G15 e15 k15 _ => ?_)
    walk_at "rd"
    refine ⟨small_line (by simp), rd_new fun p16 G16 e16 k16 _ => ?_⟩
    walk_at "rd"
    refine rd_listT (SqT.of ((e12.trans (e13.trans (e14.trans (e15.trans e16)))) _ _ (b11 _ _ h3))) (rd_new fun p17 G17 e17 k17 _ => ?_)
    walk_at "rd"
    refine ⟨small_line (by simp), rd_new fun p18 G18 e18 k18 _ => ?_⟩
    walk_at "rd"
    refine ⟨small_line (by simp), rd_new fun p19 G19 e19 k19 _ => ?_⟩
    walk_at "rd"
    have B0 : NoSs G19 p19 3 := ⟨_, k19, by rfl, (.cons ⟨(kn_tup ((e15.trans (e16.trans (e17.trans (e18.trans e19)))) _ _ k14) (.cons (kn_flat rfl) (.cons (kn_flat rfl) (.cons (kn_tup ((e13.trans (e14.trans (e15.trans (e16.trans (e17.trans (e18.trans e19)))))) _ _ k12) (.nil _ _)) (.cons (kn_tup ((e14.trans (e15.trans (e16.trans (e17.trans (e18.trans e19))))) _ _ k13) (.nil _ _)) (.nil _ _)))))), ((stairV_tup ((e15.trans (e16.trans (e17.trans (e18.trans e19)))) _ _ k14)).trans (places_no1 rfl))⟩ (.cons ⟨(kn_tup ((e17.trans (e18.trans e19)) _ _ k16) (.cons (kn_flat rfl) (.cons (kn_flat rfl) (.cons (kn_lst ((e16.trans (e17.trans (e18.trans e19))) _ _ k15)) (.cons (kn_ints ((e12.trans (e13.trans (e14.trans (e15.trans (e16.trans (e17.trans (e18.trans e19))))))) _ _ (b11 _ _ h3))) (.nil _ _)))))), ((stairV_tup ((e17.trans (e18.trans e19)) _ _ k16)).trans (places_o (row_lst ((e16.trans (e17.trans (e18.trans e19))) _ _ k15))))⟩ (.cons ⟨(kn_tup (e19 _ _ k18) (.cons (kn_flat rfl) (.cons (kn_flat rfl) (.cons (kn_ints ((e12.trans (e13.trans (e14.trans (e15.trans (e16.trans (e17.trans (e18.trans e19))))))) _ _ (b11 _ _ h2))) (.cons (kn_lst ((e18.trans e19) _ _ k17)) (.nil _ _)))))), ((stairV_tup (e19 _ _ k18)).trans (places_a (row_lst ((e18.trans e19) _ _ k17))))⟩ (.nil _))))⟩
    obtain ⟨xs1, x1, y1, q1⟩ := F1.ext (e12.trans (e13.trans (e14.trans (e15.trans (e16.trans (e17.trans (e18.trans e19)))))))
    obtain ⟨xs2, x2, y2, q2⟩ := B0
    refine rd_cat x1 x2 (small_line (by omega)) (rd_new fun p20 G20 e20 k20 _ => ?_)
    have F2 : NoSs G20 p20 12 := ⟨_, k20, by rw [List.length_append]; omega, (q1.app q2).ext e20⟩
    have b20 : Ext H G20 := Ext.trans b11 (e12.trans (e13.trans (e14.trans (e15.trans (e16.trans (e17.trans (e18.trans (e19.trans e20))))))))
    clear e12 e13 e14 e15 e16 e17 e18 e19 e20 k12 k13 k14 k15 k16 k17 k18 k19 k20 x1 y1 q1 x2 y2 q2 F1
    walk_at "rd"
    refine ⟨small_line (by simp), rd_new fun p21 G21 e21 k21 _ => ?_⟩
    walk_at "rd"
    refine rd_catT1 (e21 _ _ (b20 _ _ h2)) k21 (by rw [List.length_map]; exact small_line (by simp; omega)) fun p22 G22 e22 k22 => ?_
    walk_at "rd"
    refine ⟨small_line (by simp), rd_new fun p23 G23 e23 k23 _ => ?_⟩
    walk_at "rd"
    refine ⟨small_line (by simp), rd_new fun p24 G24 e24 k24 _ => ?_⟩
    walk_at "rd"
    refine rd_catT1 ((e21.trans (e22.trans (e23.trans e24))) _ _ (b20 _ _ h3)) k24 (by rw [List.length_map]; exact small_line (by simp; omega)) fun p25 G25 e25 k25 => ?_
    walk_at "rd"
    refine ⟨small_line (by simp), rd_new fun p26 G26 e26 k26 _ => ?_⟩
    walk_at "rd"
    refine ⟨small_line (by simp), rd_new fun p27 G27 e27 k27 _ => ?_⟩
    walk_at "rd"
    have B1 : NoSs G27 p27 2 := ⟨_, k27, by rfl, (.cons ⟨(kn_tup ((e24.trans (e25.trans (e26.trans e27))) _ _ k23) (.cons (kn_flat rfl) (.cons (kn_flat rfl) (.cons (kn_ends ((e23.trans (e24.trans (e25.trans (e26.trans e27)))) _ _ k22)) (.cons (kn_ints ((e21.trans (e22.trans (e23.trans (e24.trans (e25.trans (e26.trans e27)))))) _ _ (b20 _ _ h3))) (.nil _ _)))))), ((stairV_tup ((e24.trans (e25.trans (e26.trans e27))) _ _ k23)).trans (places_o ((rowV_tup ((e23.trans (e24.trans (e25.trans (e26.trans e27)))) _ _ k22)).trans (rising_end (Int.le_refl _)))))⟩ (.cons ⟨(kn_tup (e27 _ _ k26) (.cons (kn_flat rfl) (.cons (kn_flat rfl) (.cons (kn_ints ((e21.trans (e22.trans (e23.trans (e24.trans (e25.trans (e26.trans e27)))))) _ _ (b20 _ _ h2))) (.cons (kn_ends ((e26.trans e27) _ _ k25)) (.nil _ _)))))), ((stairV_tup (e27 _ _ k26)).trans (places_a ((rowV_tup ((e26.trans e27) _ _ k25)).trans (rising_end (Int.le_refl _)))))⟩ (.nil _)))⟩
    obtain ⟨xs1, x1, y1, q1⟩ := F2.ext (e21.trans (e22.trans (e23.trans (e24.trans (e25.trans (e26.trans e27))))))
    obtain ⟨xs2, x2, y2, q2⟩ := B1
    refine rd_cat x1 x2 (small_line (by omega)) (rd_new fun p28 G28 e28 k28 _ => ?_)
    have F3 : NoSs G28 p28 14 := ⟨_, k28, by rw [List.length_append]; omega, (q1.app q2).ext e28⟩
    have b28 : Ext H G28 := Ext.trans b20 (e21.trans (e22.trans (e23.trans (e24.trans (e25.trans (e26.trans (e27.trans e28)))))))
    clear e21 e22 e23 e24 e25 e26 e27 e28 k21 k22 k23 k24 k25 k26 k27 k28 x1 y1 q1 x2 y2 q2 F2
    walk_at "rd"
    refine ⟨small_line (by simp), rd_new fun p29 G29 e29 k29 _ => ?_⟩
    walk_at "rd"
    refine ⟨small_line (by simp), rd_new fun p30 G30 e30 k30 _ => ?_⟩
    walk_at "rd"
    refine ⟨small_line (by simp), rd_new fun p31 G31 e31 k31 _ => ?_⟩
    walk_at "rd"
    refine ⟨small_line (by simp), rd_new fun p32 G32 e32 k32 _ => ?_⟩
    walk_at "rd"
    refine ⟨small_line (by simp), rd_new fun p33 G33 e33 k33 _ => ?_⟩
    walk_at "rd"
    refine ⟨small_line (by simp), rd_new fun p34 G34 e34 k34 _ => ?_⟩
    walk_at "rd"
    refine ⟨small_line (by simp), rd_new fun p35 G35 e35 k35 _ => ?_⟩
    walk_at "rd"
    refine ⟨small_line (by simp), rd_new fun p36 G36 e36 k36 _ => ?_⟩
    walk_at "rd"
    refine ⟨small_line (by simp), rd_new fun p37 G37 e37 k37 _ => ?_⟩
    walk_at "rd"
    refine ⟨small_line (by simp), rd_new fun p38 G38 e38 k38 _ => ?_⟩
    walk_at "rd"
    refine ⟨small_line (by simp), rd_new fun p39 G39 e39 k39 _ => ?_⟩
    walk_at "rd"
    refine ⟨small_line (by simp), rd_new fun p40 G40 e40 k40 _ => ?_⟩
    walk_at "rd"
    refine ⟨small_line (by simp), rd_new fun p41 G41 e41 k41 _ => ?_⟩
    walk_at "rd"
    refine ⟨small_line (by simp), rd_new fun p42 G42 e42 k42 _ => ?_⟩
    walk_at "rd"
    refine ⟨small_line (by simp), rd_new fun p43 G43 e43 k43 _ => ?_⟩
    walk_at "rd"
    refine ⟨small_line (by simp), rd_new fun p44 G44 e44 k44 _ => ?_⟩
    walk_at "rd"
    have B2 : NoSs G44 p44 5 := ⟨_, k44, by rfl, (.cons ⟨(kn_tup ((e32.trans (e33.trans (e34.trans (e35.trans (e36.trans (e37.trans (e38.trans (e39.trans (e40.trans (e41.trans (e42.trans (e43.trans e44)))))))))))) _ _ k31) (.cons (kn_flat rfl) (.cons (kn_flat rfl) (.cons (kn_tup ((e30.trans (e31.trans (e32.trans (e33.trans (e34.trans (e35.trans (e36.trans (e37.trans (e38.trans (e39.trans (e40.trans (e41.trans (e42.trans (e43.trans e44)))))))))))))) _ _ k29) (.cons (kn_flat rfl) (.cons (kn_flat rfl) (.nil _ _)))) (.cons (kn_tup ((e31.trans (e32.trans (e33.trans (e34.trans (e35.trans (e36.trans (e37.trans (e38.trans (e39.trans (e40.trans (e41.trans (e42.trans (e43.trans e44))))))))))))) _ _ k30) (.nil _ _)) (.nil _ _)))))), ((stairV_tup ((e32.trans (e33.trans (e34.trans (e35.trans (e36.trans (e37.trans (e38.trans (e39.trans (e40.trans (e41.trans (e42.trans (e43.trans e44)))))))))))) _ _ k31)).trans (places_o ((rowV_tup ((e30.trans (e31.trans (e32.trans (e33.trans (e34.trans (e35.trans (e36.trans (e37.trans (e38.trans (e39.trans (e40.trans (e41.trans (e42.trans (e43.trans e44)))))))))))))) _ _ k29)).trans rfl)))⟩ (.cons ⟨(kn_tup ((e35.trans (e36.trans (e37.trans (e38.trans (e39.trans (e40.trans (e41.trans (e42.trans (e43.trans e44))))))))) _ _ k34) (.cons (kn_flat rfl) (.cons (kn_flat rfl) (.cons (kn_tup ((e33.trans (e34.trans (e35.trans (e36.trans (e37.trans (e38.trans (e39.trans (e40.trans (e41.trans (e42.trans (e43.trans e44))))))))))) _ _ k32) (.cons (kn_flat rfl) (.cons (kn_flat rfl) (.nil _ _)))) (.cons (kn_tup ((e34.trans (e35.trans (e36.trans (e37.trans (e38.trans (e39.trans (e40.trans (e41.trans (e42.trans (e43.trans e44)))))))))) _ _ k33) (.nil _ _)) (.nil _ _)))))), ((stairV_tup ((e35.trans (e36.trans (e37.trans (e38.trans (e39.trans (e40.trans (e41.trans (e42.trans (e43.trans e44))))))))) _ _ k34)).trans (places_o ((rowV_tup ((e33.trans (e34.trans (e35.trans (e36.trans (e37.trans (e38.trans (e39.trans (e40.trans (e41.trans (e42.trans (e43.trans e44))))))))))) _ _ k32)).trans rfl)))⟩ (.cons ⟨(kn_tup ((e38.trans (e39.trans (e40.trans (e41.trans (e42.trans (e43.trans e44)))))) _ _ k37) (.cons (kn_flat rfl) (.cons (kn_flat rfl) (.cons (kn_tup ((e36.trans (e37.trans (e38.trans (e39.trans (e40.trans (e41.trans (e42.trans (e43.trans e44)))))))) _ _ k35) (.nil _ _)) (.cons (kn_tup ((e37.trans (e38.trans (e39.trans (e40.trans (e41.trans (e42.trans (e43.trans e44))))))) _ _ k36) (.cons (kn_flat rfl) (.nil _ _))) (.nil _ _)))))), ((stairV_tup ((e38.trans (e39.trans (e40.trans (e41.trans (e42.trans (e43.trans e44)))))) _ _ k37)).trans (places_a ((rowV_tup ((e37.trans (e38.trans (e39.trans (e40.trans (e41.trans (e42.trans (e43.trans e44))))))) _ _ k36)).trans rfl)))⟩ (.cons ⟨(kn_tup ((e41.trans (e42.trans (e43.trans e44))) _ _ k40) (.cons (kn_flat rfl) (.cons (kn_flat rfl) (.cons (kn_tup ((e39.trans (e40.trans (e41.trans (e42.trans (e43.trans e44))))) _ _ k38) (.nil _ _)) (.cons (kn_tup ((e40.trans (e41.trans (e42.trans (e43.trans e44)))) _ _ k39) (.cons (kn_flat rfl) (.nil _ _))) (.nil _ _)))))), ((stairV_tup ((e41.trans (e42.trans (e43.trans e44))) _ _ k40)).trans (places_a ((rowV_tup ((e40.trans (e41.trans (e42.trans (e43.trans e44)))) _ _ k39)).trans rfl)))⟩ (.cons ⟨(kn_tup (e44 _ _ k43) (.cons (kn_flat rfl) (.cons (kn_flat rfl) (.cons (kn_tup ((e42.trans (e43.trans e44)) _ _ k41) (.nil _ _)) (.cons (kn_tup ((e43.trans e44) _ _ k42) (.nil _ _)) (.nil _ _)))))), ((stairV_tup (e44 _ _ k43)).trans (places_no1 rfl))⟩ (.nil _))))))⟩
    obtain ⟨xs1, x1, y1, q1⟩ := F3.ext (e29.trans (e30.trans (e31.trans (e32.trans (e33.trans (e34.trans (e35.trans (e36.trans (e37.trans (e38.trans (e39.trans (e40.trans (e41.trans (e42.trans (e43.trans e44)))))))))))))))
    obtain ⟨xs2, x2, y2, q2⟩ := B2
    refine rd_cat x1 x2 (small_line (by omega)) (rd_new fun p45 G45 e45 k45 _ => ?_)
    have F4 : NoSs G45 p45 19 := ⟨_, k45, by rw [List.length_append]; omega, (q1.app q2).ext e45⟩
    have b45 : Ext H G45 := Ext.trans b28 (e29.trans (e30.trans (e31.trans (e32.trans (e33.trans (e34.trans (e35.trans (e36.trans (e37.trans (e38.trans (e39.trans (e40.trans (e41.trans (e42.trans (e43.trans (e44.trans e45))))))))))))))))
    clear e29 e30 e31 e32 e33 e34 e35 e36 e37 e38 e39 e40 e41 e42 e43 e44 e45 k29 k30 k31 k32 k33 k34 k35 k36 k37 k38 k39 k40 k41 k42 k43 k44 k45 x1 y1 q1 x2 y2 q2 F3
    walk_at "rd"
    refine ⟨small_line (by simp), rd_new fun p46 G46 e46 k46 _ => ?_⟩
    walk_at "rd"
    refine ⟨small_line (by simp), rd_new fun p47 G47 e47 k47 _ => ?_⟩
    walk_at "rd"
    refine ⟨small_line (by simp), rd_new fun p48 G48 e48 k48 _ => ?_⟩
    walk_at "rd"
    refine ⟨small_line (by simp), rd_new fun p49 G49 e49 k49 _ => ?_⟩
    walk_at "rd"
    have B3 : NoSs G49 p49 1 := ⟨_, k49, by rfl, (.cons ⟨(kn_tup (e49 _ _ k48) (.cons (kn_flat rfl) (.cons (kn_flat rfl) (.cons (kn_tup ((e47.trans (e48.trans e49)) _ _ k46) (.nil _ _)) (.cons (kn_tup ((e48.trans e49) _ _ k47) (.nil _ _)) (.nil _ _)))))), ((stairV_tup (e49 _ _ k48)).trans (places_no2 rfl))⟩ (.nil _))⟩
    obtain ⟨xs1, x1, y1, q1⟩ := F4.ext (e46.trans (e47.trans (e48.trans e49)))
    obtain ⟨xs2, x2, y2, q2⟩ := B3
    refine rd_cat x1 x2 (small_line (by omega)) (rd_new fun p50 G50 e50 k50 _ => ?_)
    have F5 : NoSs G50 p50 20 := ⟨_, k50, by rw [List.length_append]; omega, (q1.app q2).ext e50⟩
    have b50 : Ext H G50 := Ext.trans b45 (e46.trans (e47.trans (e48.trans (e49.trans e50))))
    clear e46 e47 e48 e49 e50 k46 k47 k48 k49 k50 x1 y1 q1 x2 y2 q2 F4
    walk_at "rd"
    obtain ⟨xs, x1, y1, q1⟩ := F5
    obtain ⟨x, hx⟩ : ∃ x, xs[k.toNat]? = some x := ⟨_, List.getElem?_eq_getElem (by omega)⟩
    refine rd_ixL (SqL.of x1) (v := x) (atI_of k0 hx) ?_
    exact q x G50 b50 (q1 x (List.mem_of_getElem? hx))
theorem rd_NeS {a b : Str} {H : Hp} {Q : VK} (h : Q (.bl (!decide (a = b))) H) : rNe (.str a) (.str b) H Q := ⟨rfl, by rw [dec_str]; exact h⟩
theorem ne_self {z : Str} {H : Hp} {Q : VK} (h : Q (.bl false) H) : rNe (.str z) (.str z) H Q := rd_NeS (by rw [decide_eq_true rfl]; exact h)
theorem ans_gr1 {H : Hp} {k : Int} {v u : V} (h : GrS H v) (g : GoodS H u) : Ans H k v u "great" := by
  by_cases hk : k < 6
  · exact .inl ⟨hk, .inr (.inr ⟨h, rfl⟩)⟩
  · obtain ⟨b, s, o, a, h1, h2, h3⟩ := h
    obtain ⟨b2, s2, o2, a2, g1, g2⟩ := g
    exact .inr ⟨by omega, .inr (.inr ⟨.inl ⟨_, _, _, _, _, _, _, _, h1, h2, g1, g2.ok, by omega⟩, rfl⟩)⟩
theorem ans_gr2 {H : Hp} {k : Int} {v u : V} (hk : 6 ≤ k) (g : GoodS H v) (h : GrS H u) : Ans H k v u "great" := by
  obtain ⟨b, s, o, a, h1, h2, h3⟩ := h
  obtain ⟨b2, s2, o2, a2, g1, g2⟩ := g
  exact .inr ⟨hk, .inr (.inr ⟨.inl ⟨_, _, _, _, _, _, _, _, g1, g2.ok, h1, h2, by omega⟩, rfl⟩)⟩
theorem ans_no1 {H : Hp} {k : Int} {v u : V} (h : NoS H v) : Ans H k v u "stair" := by
  by_cases hk : k < 6
  · exact .inl ⟨hk, .inr (.inl ⟨h, rfl⟩)⟩
  · exact .inr ⟨by omega, .inr (.inl ⟨.inl h, rfl⟩)⟩
theorem ans_no2 {H : Hp} {k : Int} {v u : V} (hk : 6 ≤ k) (hv : Kn H 2 v ∧ stairV H v = true) (h : NoS H u) : Ans H k v u "stair" := .inr ⟨hk, .inr (.inl ⟨.inr ⟨hv.1, hv.2, h⟩, rfl⟩)⟩
theorem ans_told {H : Hp} {k : Int} {v u : V} (h : GoodP H v u) : Ans H k v u "told" := by
  by_cases hk : k < 6
  · obtain ⟨b1, s1, o1, a1, b2, s2, o2, a2, h1, h2, h3⟩ := h
    exact .inl ⟨hk, .inl ⟨⟨_, _, _, _, h1.1, h1.2⟩, rfl⟩⟩
  · exact .inr ⟨by omega, .inl ⟨h, rfl⟩⟩
theorem GoodS.stair {H : Hp} {v : V} (h : GoodS H v) : Kn H 2 v ∧ stairV H v = true := by
  obtain ⟨b, s, o, a, h1, h2⟩ := h
  exact ⟨h1.kn, h1.yes h2.ok⟩
theorem GrS.stair {H : Hp} {v : V} (h : GrS H v) : Kn H 2 v ∧ stairV H v = true := by
  obtain ⟨b, s, o, a, h1, h2, _⟩ := h
  exact ⟨h1.kn, h1.yes h2⟩
theorem rise1 {lo hi x : Int} (h1 : lo ≤ x) (h2 : x < hi) : Rising lo hi [x] := rising_cons.mpr ⟨h1, h2, List.Pairwise.nil, fun z hz => by cases hz⟩
theorem rise0 {lo hi : Int} : Rising lo hi [] := ⟨List.Pairwise.nil, fun z hz => by cases hz⟩
theorem rise2 {lo hi x y : Int} (h1 : lo ≤ x) (h2 : x < y) (h3 : y < hi) : Rising lo hi [x, y] := rising_cons.mpr ⟨h1, by omega, rise1 (by omega) h3⟩
theorem cm_self : cm 840 840 = 840 := by decide +kernel
theorem cm_56 : cm 840 56 = 840 := by decide +kernel
theorem cm_one : cm 1 1 = 1 := by decide +kernel
theorem mul_gcd {x y : Nat} (hx : 1 ≤ x) : ((x : Int) * (y : Int)) / ((Nat.gcd x y : Nat) : Int) = ((cm x y : Nat) : Int) := by
  unfold cm
  rw [← Int.natCast_mul, ← Int.natCast_ediv, Nat.mul_comm x y, Nat.mul_div_assoc _ (Nat.gcd_dvd_left x y), Nat.mul_comm]
noncomputable def sp_law (K : PySem.W.Frag) : Sp := fun vs H Q _ => ∃ (a : Addr) (ns : List Int), vs = [.ref a] ∧ SqL K H a (ns.map V.int) ∧ ns.length ≤ 63 ∧ (∀ y ∈ (["both", "either", "less", "parting"] : List Str), ∀ c T, PySem.W.tabIn K y = some (c, T) → H T = some (.tbl #[])) ∧ Dis K ∧ ∀ H', Q (.bl true) H'
noncomputable abbrev s_law : Stmt := top 58
theorem sc_law : FnScope ["_law_script", "_law_draws_here", "_law_good", "_law_bad_here", "_law_tall", "_law_wide", "_law_pairs", "_law_one_here", "_law_two_here", "_law_top", "_law_way", "_law_thing", "_law_due"] ["_law_script"] (defScope s_law) := ⟨rfl, rfl, rfl, by decide +kernel, rfl, by decide +kernel, by decide +kernel⟩
theorem ok_law {P : Program} {w : World} {K : PySem.W.Frag} {mg : Str → Option Value} {base : Heap} {f : Addr} {fd : FuncData} (F : Fun K "law" "law" s_law f fd) (T : Blt mg) (C__law_asked : Cal P w K mg base "_law_asked" 11 ["_law_way", "_law_stair", "_law_other"] (sp__law_asked K)) (C__law_shared : Cal P w K mg base "_law_shared" 1 ["_law_a", "_law_b"] (sp__law_shared K)) (C__law_bad : Cal P w K mg base "_law_bad" 1 ["_law_way", "_law_stair"] (sp__law_bad K)) (C__law_stair_of : Cal P w K mg base "_law_stair_of" 1 ["_law_bits_here", "_law_base", "_law_step"] (sp__law_stair_of K)) (C__law_stair_bits : Cal P w K mg base "_law_stair_bits" 1 ["_law_stair", "_law_many"] (sp__law_stair_bits K)) (C__law_some_stair : Cal P w K mg base "_law_some_stair" 4 ["_law_cell_here", "_law_prime"] (sp__law_some_stair K)) (C__law_cell : Cal P w K mg base "_law_cell" 1 ["_law_script", "_law_k"] (sp__law_cell K)) (C__law_draws : Cal P w K mg base "_law_draws" 2 ["_law_cell_here", "_law_widths", "_law_prime"] (sp__law_draws K)) : FnOk P w K mg base CX0 12 f fd ["_law_script"] (sp_law K) := by
  have nd := (sc_law).nd
  refine F.ok sc_law (fun vs H Q E h => ?_) (fun cdv A outer s H vs Q E hr h => ?_)
  · obtain ⟨a, ns, rfl, _⟩ := h; rfl
  · obtain ⟨a, ns, rfl, ha, hl, hT, dis, q⟩ := h
    have tab0 : Tabs4 K H := ⟨fun c T e => .inl (hT _ (by simp) c T e), fun c T e => .inl (hT _ (by simp) c T e), fun c T e => .inl (hT _ (by simp) c T e), fun c T e => .inl (hT _ (by simp) c T e)⟩
    clear hT
    refine ⟨_, (no_implicit_lambda% (@pss_cons _ _ _ _ _ (no_implicit_lambda% (@ps_set _ _ 1 _ _ _ _ nd rfl (Or.inl rfl) (no_implicit_lambda% (pe_cal C__law_draws hr (no_implicit_lambda% (@pa_cons _ _ _ _ _ (no_implicit_lambda% (pe_cal C__law_cell hr (no_implicit_lambda% (@pa_cons _ _ _ _ _ (no_implicit_lambda% (pv 0)) (no_implicit_lambda% (@pa_cons _ _ _ _ _ pe_int pa_nil rfl)) rfl)))) (no_implicit_lambda% (@pa_cons _ _ _ _ _ (no_implicit_lambda% (@pe_lst _ _ _ _ (no_implicit_lambda% (@pa_cons _ _ _ _ _ pe_int (no_implicit_lambda% (@pa_cons _ _ _ _ _ pe_int (no_implicit_lambda% (@pa_cons _ _ _ _ _ (no_implicit_lambda% (pe_op op_pow pe_int pe_int)) (no_implicit_lambda% (@pa_cons _ _ _ _ _ (no_implicit_lambda% (pe_op op_pow pe_int pe_int)) pa_nil rfl)) rfl)) rfl)) rfl)))) (no_implicit_lambda% (@pa_cons _ _ _ _ _ pe_int pa_nil rfl)) rfl)) rfl)))) rfl (Or.inl rfl)))
        (no_implicit_lambda% (@pss_cons _ _ _ _ _ (no_implicit_lambda% (@ps_set _ _ 2 _ _ _ _ nd rfl (Or.inl rfl) (no_implicit_lambda% (pe_cal C__law_some_stair hr (no_implicit_lambda% (@pa_cons _ _ _ _ _ (no_implicit_lambda% (pe_cal C__law_cell hr (no_implicit_lambda% (@pa_cons _ _ _ _ _ (no_implicit_lambda% (pv 0)) (no_implicit_lambda% (@pa_cons _ _ _ _ _ pe_int pa_nil rfl)) rfl)))) (no_implicit_lambda% (@pa_cons _ _ _ _ _ pe_int pa_nil rfl)) rfl)))) rfl (Or.inl rfl)))
        (no_implicit_lambda% (@pss_cons _ _ _ _ _ (no_implicit_lambda% (@ps_set _ _ 2 _ _ _ _ nd rfl (Or.inl rfl) (no_implicit_lambda% (pe_cal C__law_stair_of hr (no_implicit_lambda% (@pa_cons _ _ _ _ _ (no_implicit_lambda% (pe_cal C__law_stair_bits hr (no_implicit_lambda% (@pa_cons _ _ _ _ _ (no_implicit_lambda% (pv 2)) (no_implicit_lambda% (@pa_cons _ _ _ _ _ pe_int pa_nil rfl)) rfl)))) (no_implicit_lambda% (@pa_cons _ _ _ _ _ (no_implicit_lambda% (pe_op op_mod (no_implicit_lambda% (@pe_ix _ _ _ _ _ _ _ (ix_tupK K) (no_implicit_lambda% (pv 2)) pe_int (fun _ _ => rfl))) pe_int)) (no_implicit_lambda% (@pa_cons _ _ _ _ _ pe_int pa_nil rfl)) rfl)) rfl)))) rfl (Or.inl rfl)))
        (no_implicit_lambda% (@pss_cons _ _ _ _ _ (no_implicit_lambda% (@ps_set _ _ 3 _ _ _ _ nd rfl (Or.inl rfl) (no_implicit_lambda% (pe_cal C__law_bad hr (no_implicit_lambda% (@pa_cons _ _ _ _ _ (no_implicit_lambda% (@pe_ix _ _ _ _ _ _ _ (ix_listK K) (no_implicit_lambda% (pv 1)) pe_int (fun _ _ => rfl))) (no_implicit_lambda% (@pa_cons _ _ _ _ _ (no_implicit_lambda% (pv 2)) pa_nil rfl)) rfl)))) rfl (Or.inl rfl)))
        (no_implicit_lambda% (@pss_cons _ _ _ _ _ (no_implicit_lambda% (@ps_set _ _ 4 _ _ _ _ nd rfl (Or.inl rfl) (no_implicit_lambda% (@pe_tup _ _ _ _ _ (no_implicit_lambda% (@pa_cons _ _ _ _ _ (no_implicit_lambda% (pe_op op_add pe_int (no_implicit_lambda% (pe_op op_mod (no_implicit_lambda% (@pe_ix _ _ _ _ _ _ _ (ix_listK K) (no_implicit_lambda% (pv 1)) pe_int (fun _ _ => rfl))) pe_int)))) (no_implicit_lambda% (@pa_cons _ _ _ _ _ (no_implicit_lambda% (pe_op op_add pe_int (no_implicit_lambda% (pe_op op_mod (no_implicit_lambda% (@pe_ix _ _ _ _ _ _ _ (ix_listK K) (no_implicit_lambda% (pv 1)) pe_int (fun _ _ => rfl))) pe_int)))) (no_implicit_lambda% (@pa_cons _ _ _ _ _ (no_implicit_lambda% (@pe_tup _ _ _ _ _ (no_implicit_lambda% (@pa_cons _ _ _ _ _ pe_int (no_implicit_lambda% (@pa_cons _ _ _ _ _ pe_int pa_nil rfl)) rfl)))) (no_implicit_lambda% (@pa_cons _ _ _ _ _ (no_implicit_lambda% (@pe_tup _ _ _ _ _ pa_nil)) pa_nil rfl)) rfl)) rfl)) rfl)))) rfl (Or.inl rfl)))
        (no_implicit_lambda% (@pss_cons _ _ _ _ _ (no_implicit_lambda% (@ps_set _ _ 5 _ _ _ _ nd rfl (Or.inl rfl) (no_implicit_lambda% (@pe_tup _ _ _ _ _ (no_implicit_lambda% (@pa_cons _ _ _ _ _ pe_int (no_implicit_lambda% (@pa_cons _ _ _ _ _ (no_implicit_lambda% (pe_op op_add pe_int (no_implicit_lambda% (pe_op op_mul (no_implicit_lambda% (pe_op op_mod (no_implicit_lambda% (@pe_ix _ _ _ _ _ _ _ (ix_listK K) (no_implicit_lambda% (pv 1)) pe_int (fun _ _ => rfl))) pe_int)) (no_implicit_lambda% (@pe_ix _ _ _ _ _ _ _ (ix_listK K) (no_implicit_lambda% (pv 1)) pe_int (fun _ _ => rfl))))))) (no_implicit_lambda% (@pa_cons _ _ _ _ _ (no_implicit_lambda% (@pe_tup _ _ _ _ _ (no_implicit_lambda% (@pa_cons _ _ _ _ _ pe_int pa_nil rfl)))) (no_implicit_lambda% (@pa_cons _ _ _ _ _ (no_implicit_lambda% (@pe_tup _ _ _ _ _ (no_implicit_lambda% (@pa_cons _ _ _ _ _ pe_int (no_implicit_lambda% (@pa_cons _ _ _ _ _ pe_int pa_nil rfl)) rfl)))) pa_nil rfl)) rfl)) rfl)) rfl)))) rfl (Or.inl rfl)))
        (no_implicit_lambda% (@pss_cons _ _ _ _ _ (no_implicit_lambda% (@ps_lits _ 6 _ _ _ _ _ _ nd rfl (Or.inl rfl) (.cons (.tup (.cons .int (.cons .int .nil))) (.cons (.tup (.cons .int (.cons .int .nil))) (.cons (.tup (.cons .int (.cons .int .nil))) (.cons (.tup (.cons .int (.cons .int .nil))) (.cons (.tup (.cons .int (.cons .int .nil))) (.cons (.tup (.cons .int (.cons .int .nil))) (.cons (.tup (.cons .int (.cons .int .nil))) (.cons (.tup (.cons .int (.cons .int .nil))) (.cons (.tup (.cons .int (.cons .int .nil))) .nil))))))))) rfl (Or.inl rfl)))
        (no_implicit_lambda% (@pss_cons _ _ _ _ _ (no_implicit_lambda% (@ps_asg _ _ _ _ _ _ (no_implicit_lambda% (@pe_ix _ _ _ _ _ _ _ (ix_listK K) (no_implicit_lambda% (pe_op op_cat (no_implicit_lambda% (pv 6)) (no_implicit_lambda% (@pe_lst _ _ _ _ (no_implicit_lambda% (@pa_cons _ _ _ _ _ (no_implicit_lambda% (@pe_tup _ _ _ _ _ (no_implicit_lambda% (@pa_cons _ _ _ _ _ pe_int (no_implicit_lambda% (@pa_cons _ _ _ _ _ pe_int pa_nil rfl)) rfl)))) (no_implicit_lambda% (@pa_cons _ _ _ _ _ (no_implicit_lambda% (@pe_tup _ _ _ _ _ (no_implicit_lambda% (@pa_cons _ _ _ _ _ pe_int (no_implicit_lambda% (@pa_cons _ _ _ _ _ pe_int pa_nil rfl)) rfl)))) (no_implicit_lambda% (@pa_cons _ _ _ _ _ (no_implicit_lambda% (@pe_tup _ _ _ _ _ (no_implicit_lambda% (@pa_cons _ _ _ _ _ pe_int (no_implicit_lambda% (@pa_cons _ _ _ _ _ pe_int pa_nil rfl)) rfl)))) pa_nil rfl)) rfl)) rfl)))))) (no_implicit_lambda% (@pe_ix _ _ _ _ _ _ _ (ix_listK K) (no_implicit_lambda% (pv 1)) pe_int (fun _ _ => rfl))) (fun _ _ => rfl))) (no_implicit_lambda% (pg_tupK (n := 2) K rfl (pgs_cons (no_implicit_lambda% (pg_name (i := 7) nd rfl (Or.inl rfl))) (pgs_cons (no_implicit_lambda% (pg_name (i := 8) nd rfl (Or.inl rfl))) pgs_nil)))) rfl rfl rfl))
        (no_implicit_lambda% (@pss_cons _ _ _ _ _ (no_implicit_lambda% (@ps_set _ _ 9 _ _ _ _ nd rfl (Or.inl rfl) (no_implicit_lambda% (@LitE.pe _ _ _ (.tup (.cons .int (.cons .int (.cons (.tup .nil) (.cons (.tup (.cons .int .nil)) .nil))))))) rfl (Or.inl rfl)))
        (no_implicit_lambda% (@pss_cons _ _ _ _ _ (no_implicit_lambda% (ps_for PassesOwn.never rfl (no_implicit_lambda% (pi_range1 rfl T.range_ (no_implicit_lambda% (@pa_cons _ _ _ _ _ pe_int pa_nil rfl)))) (no_implicit_lambda% (pg_name (i := 10) nd rfl (Or.inl rfl))) (no_implicit_lambda% (@pss_cons _ _ _ _ _ (no_implicit_lambda% (ps_for PassesOwn.never rfl (no_implicit_lambda% (pi_listK K (no_implicit_lambda% (@pe_lst _ _ _ _ (no_implicit_lambda% (@pa_cons _ _ _ _ _ (no_implicit_lambda% (pv 4)) (no_implicit_lambda% (@pa_cons _ _ _ _ _ (no_implicit_lambda% (pv 5)) pa_nil rfl)) rfl)))))) (no_implicit_lambda% (pg_name (i := 11) nd rfl (Or.inl rfl))) (no_implicit_lambda% (@pss_cons _ _ _ _ _ (no_implicit_lambda% (@ps_if _ _ _ _ _ _ _ _ (no_implicit_lambda% (pt_cmpR op_ne (no_implicit_lambda% (pe_cal C__law_asked hr (no_implicit_lambda% (@pa_cons _ _ _ _ _ (no_implicit_lambda% (pv 10)) (no_implicit_lambda% (@pa_cons _ _ _ _ _ (no_implicit_lambda% (pv 11)) (no_implicit_lambda% (@pa_cons _ _ _ _ _ (no_implicit_lambda% (pv 2)) pa_nil rfl)) rfl)) rfl)))) pe_str (nomark _))) (no_implicit_lambda% (@pss_one _ _ _ (no_implicit_lambda% (@ps_ret _ _ _ _ pe_bl)))) pss_nil))
        (no_implicit_lambda% (@pss_one _ _ _ (no_implicit_lambda% (ps_ifJ (no_implicit_lambda% (PW.pt (pw_and (no_implicit_lambda% (pt_cmpR op_gt (no_implicit_lambda% (pv 10)) pe_int (nomark _))) (pw_and1 (no_implicit_lambda% (pt_cmpR op_ne (no_implicit_lambda% (pe_cal C__law_asked hr (no_implicit_lambda% (@pa_cons _ _ _ _ _ (no_implicit_lambda% (pv 10)) (no_implicit_lambda% (@pa_cons _ _ _ _ _ (no_implicit_lambda% (pv 2)) (no_implicit_lambda% (@pa_cons _ _ _ _ _ (no_implicit_lambda% (pv 11)) pa_nil rfl)) rfl)) rfl)))) pe_str (nomark _))))))) (no_implicit_lambda% (@pss_one _ _ _ (no_implicit_lambda% (@ps_ret _ _ _ _ pe_bl)))) pss_nil))))))))
        (no_implicit_lambda% (@pss_cons _ _ _ _ _ (no_implicit_lambda% (@ps_if _ _ _ _ _ _ _ _ (no_implicit_lambda% (pt_cmpR op_ne (no_implicit_lambda% (pe_cal C__law_asked hr (no_implicit_lambda% (@pa_cons _ _ _ _ _ (no_implicit_lambda% (pv 10)) (no_implicit_lambda% (@pa_cons _ _ _ _ _ (no_implicit_lambda% (pv 3)) (no_implicit_lambda% (@pa_cons _ _ _ _ _ (no_implicit_lambda% (pv 2)) pa_nil rfl)) rfl)) rfl)))) pe_str (nomark _))) (no_implicit_lambda% (@pss_one _ _ _ (no_implicit_lambda% (@ps_ret _ _ _ _ pe_bl)))) pss_nil))
        (no_implicit_lambda% (@pss_cons _ _ _ _ _ (no_implicit_lambda% (@ps_if _ _ _ _ _ _ _ _ (no_implicit_lambda% (pt_cmpR op_ne (no_implicit_lambda% (pe_cal C__law_asked hr (no_implicit_lambda% (@pa_cons _ _ _ _ _ (no_implicit_lambda% (pv 10)) (no_implicit_lambda% (@pa_cons _ _ _ _ _ (no_implicit_lambda% (pv 3)) (no_implicit_lambda% (@pa_cons _ _ _ _ _ (no_implicit_lambda% (pv 4)) pa_nil rfl)) rfl)) rfl)))) pe_str (nomark _))) (no_implicit_lambda% (@pss_one _ _ _ (no_implicit_lambda% (@ps_ret _ _ _ _ pe_bl)))) pss_nil))
        (no_implicit_lambda% (@pss_cons _ _ _ _ _ (no_implicit_lambda% (ps_ifJ (no_implicit_lambda% (PW.pt (pw_and (no_implicit_lambda% (pt_cmpR op_gt (no_implicit_lambda% (pv 10)) pe_int (nomark _))) (pw_and1 (no_implicit_lambda% (pt_cmpR op_ne (no_implicit_lambda% (pe_cal C__law_asked hr (no_implicit_lambda% (@pa_cons _ _ _ _ _ (no_implicit_lambda% (pv 10)) (no_implicit_lambda% (@pa_cons _ _ _ _ _ (no_implicit_lambda% (pv 2)) (no_implicit_lambda% (@pa_cons _ _ _ _ _ (no_implicit_lambda% (pv 3)) pa_nil rfl)) rfl)) rfl)))) pe_str (nomark _))))))) (no_implicit_lambda% (@pss_one _ _ _ (no_implicit_lambda% (@ps_ret _ _ _ _ pe_bl)))) pss_nil))
        (no_implicit_lambda% (@pss_cons _ _ _ _ _ (no_implicit_lambda% (ps_ifJ (no_implicit_lambda% (PW.pt (pw_and (no_implicit_lambda% (pt_cmpR op_gt (no_implicit_lambda% (pv 10)) pe_int (nomark _))) (pw_and1 (no_implicit_lambda% (pt_cmpR op_ne (no_implicit_lambda% (pe_cal C__law_asked hr (no_implicit_lambda% (@pa_cons _ _ _ _ _ (no_implicit_lambda% (pv 10)) (no_implicit_lambda% (@pa_cons _ _ _ _ _ (no_implicit_lambda% (pv 5)) (no_implicit_lambda% (@pa_cons _ _ _ _ _ (no_implicit_lambda% (pv 3)) pa_nil rfl)) rfl)) rfl)))) pe_str (nomark _))))))) (no_implicit_lambda% (@pss_one _ _ _ (no_implicit_lambda% (@ps_ret _ _ _ _ pe_bl)))) pss_nil))
        (no_implicit_lambda% (@pss_cons _ _ _ _ _ (no_implicit_lambda% (@ps_set _ _ 12 _ _ _ _ nd rfl (Or.inl rfl) pe_str rfl (Or.inl rfl)))
        (no_implicit_lambda% (@pss_cons _ _ _ _ _ (no_implicit_lambda% (ps_ifJ (no_implicit_lambda% (PW.pt (pw_and (no_implicit_lambda% (pt_cmpR op_gt (no_implicit_lambda% (pv 10)) pe_int (nomark _))) (pw_and1 (no_implicit_lambda% (pt_cmpR op_gt (no_implicit_lambda% (pe_op op_fdivL (no_implicit_lambda% (pe_op op_mul (no_implicit_lambda% (pv 7)) (no_implicit_lambda% (pv 8)))) (no_implicit_lambda% (pe_cal C__law_shared hr (no_implicit_lambda% (@pa_cons _ _ _ _ _ (no_implicit_lambda% (pv 7)) (no_implicit_lambda% (@pa_cons _ _ _ _ _ (no_implicit_lambda% (pv 8)) pa_nil rfl)) rfl)))))) pe_int (nomark _))))))) (no_implicit_lambda% (@pss_one _ _ _ (no_implicit_lambda% (@ps_set _ _ 12 _ _ _ _ nd rfl (Or.inl rfl) pe_str rfl (Or.inl rfl))))) pss_nil))
        (no_implicit_lambda% (@pss_cons _ _ _ _ _ (no_implicit_lambda% (@ps_if _ _ _ _ _ _ _ _ (no_implicit_lambda% (pt_cmpR op_ne (no_implicit_lambda% (pe_cal C__law_asked hr (no_implicit_lambda% (@pa_cons _ _ _ _ _ (no_implicit_lambda% (pv 10)) (no_implicit_lambda% (@pa_cons _ _ _ _ _ (no_implicit_lambda% (@pe_tup _ _ _ _ _ (no_implicit_lambda% (@pa_cons _ _ _ _ _ pe_int (no_implicit_lambda% (@pa_cons _ _ _ _ _ (no_implicit_lambda% (pv 7)) (no_implicit_lambda% (@pa_cons _ _ _ _ _ (no_implicit_lambda% (@pe_tup _ _ _ _ _ pa_nil)) (no_implicit_lambda% (@pa_cons _ _ _ _ _ (no_implicit_lambda% (@pe_tup _ _ _ _ _ (no_implicit_lambda% (@pa_cons _ _ _ _ _ pe_int pa_nil rfl)))) pa_nil rfl)) rfl)) rfl)) rfl)))) (no_implicit_lambda% (@pa_cons _ _ _ _ _ (no_implicit_lambda% (@pe_tup _ _ _ _ _ (no_implicit_lambda% (@pa_cons _ _ _ _ _ pe_int (no_implicit_lambda% (@pa_cons _ _ _ _ _ (no_implicit_lambda% (pv 8)) (no_implicit_lambda% (@pa_cons _ _ _ _ _ (no_implicit_lambda% (@pe_tup _ _ _ _ _ (no_implicit_lambda% (@pa_cons _ _ _ _ _ pe_int pa_nil rfl)))) (no_implicit_lambda% (@pa_cons _ _ _ _ _ (no_implicit_lambda% (@pe_tup _ _ _ _ _ pa_nil)) pa_nil rfl)) rfl)) rfl)) rfl)))) pa_nil rfl)) rfl)) rfl)))) (no_implicit_lambda% (pv 12)) (nomark _))) (no_implicit_lambda% (@pss_one _ _ _ (no_implicit_lambda% (@ps_ret _ _ _ _ pe_bl)))) pss_nil))
        (no_implicit_lambda% (@pss_cons _ _ _ _ _ (no_implicit_lambda% (@ps_if _ _ _ _ _ _ _ _ (no_implicit_lambda% (pt_cmpR op_ne (no_implicit_lambda% (pe_cal C__law_asked hr (no_implicit_lambda% (@pa_cons _ _ _ _ _ (no_implicit_lambda% (pv 10)) (no_implicit_lambda% (@pa_lit _ _ _ _ _ (.tup (.cons .int (.cons .int (.cons (.tup .nil) (.cons (.tup (.cons .int .nil)) .nil))))) (no_implicit_lambda% (@pa_lit _ _ _ _ _ (.tup (.cons .int (.cons .int (.cons (.tup .nil) (.cons (.tup (.cons .int .nil)) .nil))))) pa_nil)))) rfl)))) pe_str (nomark _))) (no_implicit_lambda% (@pss_one _ _ _ (no_implicit_lambda% (@ps_ret _ _ _ _ pe_bl)))) pss_nil))
        (no_implicit_lambda% (@pss_one _ _ _ (no_implicit_lambda% (ps_ifJ (no_implicit_lambda% (PW.pt (pw_or (no_implicit_lambda% (pt_cmpR op_ne (no_implicit_lambda% (pe_cal C__law_asked hr (no_implicit_lambda% (@pa_cons _ _ _ _ _ (no_implicit_lambda% (pv 10)) (no_implicit_lambda% (@pa_cons _ _ _ _ _ (no_implicit_lambda% (pv 2)) (no_implicit_lambda% (@pa_cons _ _ _ _ _ (no_implicit_lambda% (pv 2)) pa_nil rfl)) rfl)) rfl)))) pe_str (nomark _))) (pw_or1 (no_implicit_lambda% (pt_cmpR op_ne (no_implicit_lambda% (pe_cal C__law_asked hr (no_implicit_lambda% (@pa_cons _ _ _ _ _ (no_implicit_lambda% (pv 10)) (no_implicit_lambda% (@pa_cons _ _ _ _ _ (no_implicit_lambda% (pv 9)) (no_implicit_lambda% (@pa_cons _ _ _ _ _ (no_implicit_lambda% (pv 9)) pa_nil rfl)) rfl)) rfl)))) pe_str (nomark _))))))) (no_implicit_lambda% (@pss_one _ _ _ (no_implicit_lambda% (@ps_ret _ _ _ _ pe_bl)))) pss_nil))))))))))))))))))))))))
        (no_implicit_lambda% (@pss_one _ _ _ (no_implicit_lambda% (@ps_ret _ _ _ _ pe_bl)))))))))))))))))))))))), ?_⟩
    walk_at "rd"
    refine ⟨a, ns, 0, rfl, ha, hl, by decide, fun z => ?_⟩
    walk_at "rd"
    refine ⟨small_line (by simp), rd_new fun w0 H1 e1 hw0 _ => ?_⟩
    walk_at "rd"
    refine ⟨z, w0, [20, 12, 1000000, 1000000], _, rfl, hw0, by decide, by decide, by decide, fun dq ds H2 e2 hd _ hdl hdb => ?_⟩
    have hdl4 : ds.length = 4 := hdl
    match ds, hdl4 with
    | [d0, d1, d2, d3], _ =>
    have g0 := hdb 0 d0 20 rfl rfl
    have g1 := hdb 1 d1 12 rfl rfl
    have g2 := hdb 2 d2 1000000 rfl rfl
    have g3 := hdb 3 d3 1000000 rfl rfl
    clear hdb hdl
    have e02 : Ext H H2 := e1.trans e2
    clear e1 e2 hw0
    walk_at "rd"
    refine ⟨a, ns, 1, rfl, ha.ext e02, hl, by decide, fun z2 => ?_⟩
    walk_at "rd"
    refine ⟨z2, _, rfl, by decide, fun v1 b1 s1 o1 a1 H3 e3 hv1 hg1 => ?_⟩
    walk_at "rd"
    refine ⟨v1, 13, b1, s1, o1, a1, rfl, hv1, hg1, by decide, by decide, fun bq H4 e4 _ hbq => ?_⟩
    obtain ⟨p1, q1, r1, rfl, k1, _, _⟩ := id (hv1.ext e4)
    walk_at "rd"
    refine rd_ixT (SqT.of k1) rfl ?_
    walk_at "rd"
    refine ⟨bq, b1 % 13, 1, 13, _, rfl, by omega, by omega, by omega, hbq, by omega, fun v2 H5 e5 hv2 => ?_⟩
    have hg2 := row_gd (f := fn b1 s1 o1 a1) (b := b1 % 13) (s := 1) (by omega) (by omega) (by omega) (by omega)
    have good5 : GoodS H5 v2 := ⟨_, _, _, _, hv2, hg2⟩
    have gp5 : GoodP H5 v2 v2 := ⟨_, _, _, _, _, _, _, _, SN.of hv2 hg2, SN.of hv2 hg2, by show cm 1 1 ≤ 840; rw [cm_one]; decide⟩
    have e25 : Ext H2 H5 := e3.trans (e4.trans e5)
    clear e3 e4 e5 hv1 hg1 hbq k1 hv2 hg2
    walk_at "rd"
    refine rd_ixL (SqL.of (e25 _ _ hd)) (v := .int d0) rfl ?_
    walk_at "rd"
    refine ⟨d0, v2, rfl, g0.1, g0.2, good5, fun u H6 e6 hno => ?_⟩
    have e26 : Ext H2 H6 := e25.trans e6
    walk_at "rd"
    refine rd_ixL (SqL.of (e26 _ _ hd)) (v := .int d2) rfl ?_
    walk_at "rd"
    refine rd_ixL (SqL.of (e26 _ _ hd)) (v := .int d3) rfl ?_
    walk_at "rd"
    refine ⟨small_line (by simp), rd_new fun t1 H7 e7 k7 _ => ?_⟩
    walk_at "rd"
    refine ⟨small_line (by simp), rd_new fun t2 H8 e8 k8 _ => ?_⟩
    walk_at "rd"
    refine ⟨small_line (by simp), rd_new fun tall H9 e9 k9 _ => ?_⟩
    have tall9 : GrS H9 (.ref tall) := ⟨_, _, [0, 3000], [], ⟨tall, t1, t2, rfl, k9, (e8.trans e9) _ _ k7, e9 _ _ k8⟩, ⟨by omega, by omega, rise2 (by omega) (by omega) (by omega), rise0⟩, by omega⟩
    have e29 : Ext H2 H9 := e26.trans (e7.trans (e8.trans e9))
    have e59 : Ext H5 H9 := e6.trans (e7.trans (e8.trans e9))
    have e69 : Ext H6 H9 := e7.trans (e8.trans e9)
    clear e6 e7 e8 e9 k7 k8 k9 e26
    walk_at "rd"
    refine rd_ixL (SqL.of (e29 _ _ hd)) (v := .int d2) rfl ?_
    walk_at "rd"
    refine rd_ixL (SqL.of (e29 _ _ hd)) (v := .int d3) rfl ?_
    try refine rd_I (show CMul _ _ from .inr (by omega)) ?_
    walk_at "rd"
    have hm : 0 ≤ d2 % 9 * d3 := Int.mul_nonneg (by omega) g3.1
    generalize d2 % 9 * d3 = mm at hm
    refine ⟨small_line (by simp), rd_new fun t3 I1 i1 j1 _ => ?_⟩
    walk_at "rd"
    refine ⟨small_line (by simp), rd_new fun t4 I2 i2 j2 _ => ?_⟩
    walk_at "rd"
    refine ⟨small_line (by simp), rd_new fun wide I3 i3 j3 _ => ?_⟩
    have wide3 : GrS I3 (.ref wide) := ⟨_, _, [1], [2, 100], ⟨wide, t3, t4, rfl, j3, (i2.trans i3) _ _ j1, i3 _ _ j2⟩, ⟨by omega, by omega, rise1 (by omega) (by omega), rise2 (by omega) (by omega) (by omega)⟩, by omega⟩
    have i03 : Ext H9 I3 := i1.trans (i2.trans i3)
    clear i1 i2 i3 j1 j2 j3
    walk_at "rd"
    refine ⟨small_line (by simp), rd_new fun u1 M1 m1 n1 _ => ?_⟩
    walk_at "rd"
    refine ⟨small_line (by simp), rd_new fun u2 M2 m2 n2 _ => ?_⟩
    walk_at "rd"
    refine ⟨small_line (by simp), rd_new fun u3 M3 m3 n3 _ => ?_⟩
    walk_at "rd"
    refine ⟨small_line (by simp), rd_new fun u4 M4 m4 n4 _ => ?_⟩
    walk_at "rd"
    refine ⟨small_line (by simp), rd_new fun u5 M5 m5 n5 _ => ?_⟩
    walk_at "rd"
    refine ⟨small_line (by simp), rd_new fun u6 M6 m6 n6 _ => ?_⟩
    walk_at "rd"
    refine ⟨small_line (by simp), rd_new fun u7 M7 m7 n7 _ => ?_⟩
    walk_at "rd"
    refine ⟨small_line (by simp), rd_new fun u8 M8 m8 n8 _ => ?_⟩
    walk_at "rd"
    refine ⟨small_line (by simp), rd_new fun u9 M9 m9 n9 _ => ?_⟩
    walk_at "rd"
    refine ⟨small_line (by simp), rd_new fun u10 M10 m10 n10 _ => ?_⟩
    walk_at "rd"
    refine ⟨small_line (by simp), rd_new fun u11 M11 m11 n11 _ => ?_⟩
    walk_at "rd"
    refine ⟨small_line (by simp), rd_new fun u12 M12 m12 n12 _ => ?_⟩
    walk_at "rd"
    refine ⟨small_line (by simp), rd_new fun u13 M13 m13 n13 _ => ?_⟩
    walk_at "rd"
    refine ⟨small_line (by simp), rd_new fun u14 M14 m14 n14 _ => ?_⟩
    walk_at "rd"
    refine rd_cat ((m11.trans (m12.trans (m13.trans m14))) _ _ n10) n14 (small_line (by simp)) (rd_new fun u15 M15 m15 n15 _ => ?_)
    walk_at "rd"
    have i0C : Ext I3 M15 := (m1.trans (m2.trans (m3.trans (m4.trans (m5.trans (m6.trans (m7.trans (m8.trans (m9.trans (m10.trans (m11.trans (m12.trans (m13.trans (m14.trans m15))))))))))))))
    have hpr : ∃ (pr : Addr) (x y : Nat), atI ([V.ref u1, V.ref u2, V.ref u3, V.ref u4, V.ref u5, V.ref u6, V.ref u7, V.ref u8, V.ref u9] ++ [V.ref u11, V.ref u12, V.ref u13] : List V) d1 = some (.ref pr) ∧ M15 pr = some (.tup [.int (x : Int), .int (y : Int)]) ∧ (1 ≤ x ∧ x ≤ 840) ∧ (1 ≤ y ∧ y ≤ 840) := by
      have hc : d1 = 0 ∨ d1 = 1 ∨ d1 = 2 ∨ d1 = 3 ∨ d1 = 4 ∨ d1 = 5 ∨ d1 = 6 ∨ d1 = 7 ∨ d1 = 8 ∨ d1 = 9 ∨ d1 = 10 ∨ d1 = 11 := by omega
      rcases hc with rfl | rfl | rfl | rfl | rfl | rfl | rfl | rfl | rfl | rfl | rfl | rfl
      · exact ⟨u1, 29, 29, rfl, (m2.trans (m3.trans (m4.trans (m5.trans (m6.trans (m7.trans (m8.trans (m9.trans (m10.trans (m11.trans (m12.trans (m13.trans (m14.trans m15))))))))))))) _ _ n1, by decide, by decide⟩
      · exact ⟨u2, 8, 121, rfl, (m3.trans (m4.trans (m5.trans (m6.trans (m7.trans (m8.trans (m9.trans (m10.trans (m11.trans (m12.trans (m13.trans (m14.trans m15)))))))))))) _ _ n2, by decide, by decide⟩
      · exact ⟨u3, 840, 11, rfl, (m4.trans (m5.trans (m6.trans (m7.trans (m8.trans (m9.trans (m10.trans (m11.trans (m12.trans (m13.trans (m14.trans m15))))))))))) _ _ n3, by decide, by decide⟩
      · exact ⟨u4, 839, 840, rfl, (m5.trans (m6.trans (m7.trans (m8.trans (m9.trans (m10.trans (m11.trans (m12.trans (m13.trans (m14.trans m15)))))))))) _ _ n4, by decide, by decide⟩
      · exact ⟨u5, 32, 27, rfl, (m6.trans (m7.trans (m8.trans (m9.trans (m10.trans (m11.trans (m12.trans (m13.trans (m14.trans m15))))))))) _ _ n5, by decide, by decide⟩
      · exact ⟨u6, 64, 15, rfl, (m7.trans (m8.trans (m9.trans (m10.trans (m11.trans (m12.trans (m13.trans (m14.trans m15)))))))) _ _ n6, by decide, by decide⟩
      · exact ⟨u7, 17, 50, rfl, (m8.trans (m9.trans (m10.trans (m11.trans (m12.trans (m13.trans (m14.trans m15))))))) _ _ n7, by decide, by decide⟩
      · exact ⟨u8, 420, 9, rfl, (m9.trans (m10.trans (m11.trans (m12.trans (m13.trans (m14.trans m15)))))) _ _ n8, by decide, by decide⟩
      · exact ⟨u9, 31, 28, rfl, (m10.trans (m11.trans (m12.trans (m13.trans (m14.trans m15))))) _ _ n9, by decide, by decide⟩
      · exact ⟨u11, 29, 30, rfl, (m12.trans (m13.trans (m14.trans m15))) _ _ n11, by decide, by decide⟩
      · exact ⟨u12, 2, 421, rfl, (m13.trans (m14.trans m15)) _ _ n12, by decide, by decide⟩
      · exact ⟨u13, 3, 281, rfl, (m14.trans m15) _ _ n13, by decide, by decide⟩
    clear m1 m2 m3 m4 m5 m6 m7 m8 m9 m10 m11 m12 m13 m14 m15
    obtain ⟨pr, x, y, hat, hp, hx, hy⟩ := hpr
    refine rd_ixL (SqL.of ((i03.trans i0C) _ _ (e29 _ _ hd))) (v := .int d1) rfl ?_
    refine rd_ixL (SqL.of n15) (v := .ref pr) hat ?_
    clear hat n1 n2 n3 n4 n5 n6 n7 n8 n9 n10 n11 n12 n13 n14 n15
    refine rd_gtup (SqT.of hp) rfl ?_
    walk_at "rd"
    refine ⟨small_line (by simp), rd_new fun t5 N1 r1' f1 _ => ?_⟩
    walk_at "rd"
    refine ⟨small_line (by simp), rd_new fun t6 N2 r2 f2 _ => ?_⟩
    walk_at "rd"
    refine ⟨small_line (by simp), rd_new fun top N3 r3 f3 _ => ?_⟩
    have topAt : StAt N3 (.ref top) 3000 840 [] [3000] := ⟨top, t5, t6, rfl, f3, (r2.trans r3) _ _ f1, r3 _ _ f2⟩
    have gdT : Gd 3000 840 [] [3000] := ⟨⟨by omega, by omega, rise0, rise1 (by omega) (by omega)⟩, by omega, by omega⟩
    have topP : GoodP N3 (.ref top) (.ref top) := ⟨3000, 840, [], [3000], 3000, 840, [], [3000], ⟨topAt, gdT⟩, ⟨topAt, gdT⟩, by rw [cm_self]; decide⟩
    have rM : Ext M15 N3 := r1'.trans (r2.trans r3)
    clear r1' r2 r3 f1 f2 f3 topAt gdT
    have tallN : GrS N3 (.ref tall) := tall9.et (i03.trans (i0C.trans rM)).et
    have wideN : GrS N3 (.ref wide) := wide3.et (i0C.trans rM).et
    have goodN : GoodS N3 v2 := good5.et (e59.trans (i03.trans (i0C.trans rM))).et
    have gpN : GoodP N3 v2 v2 := gp5.et (e59.trans (i03.trans (i0C.trans rM))).et
    have noN : NoS N3 u := hno.et (e69.trans (i03.trans (i0C.trans rM))).et
    have tabN : Tabs4 K N3 := tab0.ext (e02.trans (e29.trans (i03.trans (i0C.trans rM))))
    clear tall9 wide3 good5 gp5 hno tab0 e02 e29 e59 e69 i03 i0C rM e25 hp hd ha
    walk_at "rd"
    refine rd_i1x ⟨by decide, by decide⟩ ?_
    refine forR (fun i σ Hf => ∃ k1 k2 k3, σ = [some (.ref a), some (.ref dq), some v2, some u, some (.ref tall), some (.ref wide), some (.ref u10), some (.int (x : Int)), some (.int (y : Int)), some (.ref top), k1, k2, k3] ∧ Et N3 Hf ∧ Tabs4 K Hf) ⟨none, none, none, rfl, (Ext.rfl' _).et, tabN⟩ ?_ ?_
    · rintro i σ Hf hi ⟨k1, k2, k3, rfl, ef, tf⟩
      have hway : (0 : Int) + (i : Int) = (i : Int) := Int.zero_add _
      walk_at "rd"
      refine ⟨small_line (by simp), rd_new fun lq Hg eg kq _ => ?_⟩
      walk_at "rd"
      refine rd_iLx (SqL.of kq) ?_
      refine forL (xs := [.ref tall, .ref wide]) (fun j σ Hh => ∃ k2, σ = [some (.ref a), some (.ref dq), some v2, some u, some (.ref tall), some (.ref wide), some (.ref u10), some (.int (x : Int)), some (.int (y : Int)), some (.ref top), some (.int ((0 : Int) + (i : Int))), k2, k3] ∧ Et Hg Hh ∧ Tabs4 K Hh) ⟨_, rfl, (Ext.rfl' _).et, tf.ext eg⟩ (fun j σ Hh _ h => SqL.of (h.choose_spec.2.1 _ _ kq (fun _ z => by cases z))) ?_ ?_
      · rintro j w9 σ Hh hw ⟨k2, rfl, eh, th⟩
        have ez : Et N3 Hh := ef.trans (eg.et.trans eh)
        have hgr : GrS Hh w9 := by
          match j, hw with
          | 0, hw => cases hw; exact tallN.et ez
          | 1, hw => cases hw; exact wideN.et ez
        walk_at "rd"
        refine ⟨_, w9, v2, _, rfl, dis, th, ans_gr1 hgr (goodN.et ez), fun H1 e1 q1' => ?_⟩
        walk_at "rd"
        refine ne_self ?_
        refine rd_exb (iteF ?_)
        walk_at "rd"
        refine ⟨fun σ' H' => σ' = [some (.ref a), some (.ref dq), some v2, some u, some (.ref tall), some (.ref wide), some (.ref u10), some (.int (x : Int)), some (.int (y : Int)), some (.ref top), some (.int ((0 : Int) + (i : Int))), some w9, k3] ∧ Et Hg H' ∧ Tabs4 K H', ?_, ?_⟩
        · walk_at "rd"
          refine ite2 (fun hc => ?_) (fun hc => ?_)
          · have hc' : (5 : Int) < 0 + (i : Int) := of_decide_eq_true hc
            walk_at "rd"
            refine ⟨_, v2, w9, _, rfl, dis, q1', ans_gr2 (by omega) (goodN.et (ez.trans e1)) (hgr.et e1), fun H2 e2 q2' => ?_⟩
            walk_at "rd"
            refine ne_self ?_
            refine rd_exb (iteF ?_)
            walk_at "rd"
            exact ⟨rfl, eh.trans (e1.trans e2), q2'⟩
          · refine iteF ?_
            walk_at "rd"
            exact ⟨rfl, eh.trans e1, q1'⟩
        · rintro σ' H' ⟨rfl, e', t'⟩
          exact ⟨_, rfl, e', t'⟩
      · rintro σ Hh ⟨k2, rfl, eh, th⟩
        have ez : Et N3 Hh := ef.trans (eg.et.trans eh)
        clear eg eh ef tf kq
        walk_at "rd"
        refine ⟨_, u, v2, _, rfl, dis, th, ans_no1 (noN.et ez), fun H1 e1 q1' => ?_⟩
        walk_at "rd"
        refine ne_self ?_
        refine rd_exb (iteF ?_)
        walk_at "rd"
        refine ⟨_, u, .ref tall, _, rfl, dis, q1', ans_no1 (noN.et (ez.trans e1)), fun H2 e2 q2' => ?_⟩
        have ez := ez.trans (e1.trans e2)
        clear e1 e2 q1' th
        walk_at "rd"
        refine ne_self ?_
        refine rd_exb (iteF ?_)
        walk_at "rd"
        refine ⟨fun σ' H' => σ' = [some (.ref a), some (.ref dq), some v2, some u, some (.ref tall), some (.ref wide), some (.ref u10), some (.int (x : Int)), some (.int (y : Int)), some (.ref top), some (.int ((0 : Int) + (i : Int))), k2, k3] ∧ Et N3 H' ∧ Tabs4 K H', ?_, ?_⟩
        · walk_at "rd"
          refine ite2 (fun hc => ?_) (fun hc => ?_)
          · have hc' : (5 : Int) < 0 + (i : Int) := of_decide_eq_true hc
            walk_at "rd"
            refine ⟨_, v2, u, _, rfl, dis, q2', ans_no2 (by omega) (goodN.et ez).stair (noN.et ez), fun H3 e3 q3' => ?_⟩
            walk_at "rd"
            refine ne_self ?_
            refine rd_exb (iteF ?_)
            walk_at "rd"
            exact ⟨rfl, ez.trans e3, q3'⟩
          · refine iteF ?_
            walk_at "rd"
            exact ⟨rfl, ez, q2'⟩
        clear ez q2'
        rintro σ' H2 ⟨rfl, ez, q2'⟩
        walk_at "rd"
        refine ⟨fun σ' H' => σ' = [some (.ref a), some (.ref dq), some v2, some u, some (.ref tall), some (.ref wide), some (.ref u10), some (.int (x : Int)), some (.int (y : Int)), some (.ref top), some (.int ((0 : Int) + (i : Int))), k2, k3] ∧ Et N3 H' ∧ Tabs4 K H', ?_, ?_⟩
        · walk_at "rd"
          refine ite2 (fun hc => ?_) (fun hc => ?_)
          · have hc' : (5 : Int) < 0 + (i : Int) := of_decide_eq_true hc
            walk_at "rd"
            refine ⟨_, .ref wide, u, _, rfl, dis, q2', ans_no2 (by omega) (wideN.et ez).stair (noN.et ez), fun H3 e3 q3' => ?_⟩
            walk_at "rd"
            refine ne_self ?_
            refine rd_exb (iteF ?_)
            walk_at "rd"
            exact ⟨rfl, ez.trans e3, q3'⟩
          · refine iteF ?_
            walk_at "rd"
            exact ⟨rfl, ez, q2'⟩
        clear ez q2'
        rintro σ' H2 ⟨rfl, ez, q2'⟩
        walk_at "rd"
        have hz9 : ∃ z9 : Str, z9 = (if 6 ≤ (0 : Int) + (i : Int) ∧ 840 < cm x y then ("great" : Str) else "told") := ⟨_, rfl⟩
        obtain ⟨z9, hz9⟩ := hz9
        refine ⟨fun σ' H' => σ' = [some (.ref a), some (.ref dq), some v2, some u, some (.ref tall), some (.ref wide), some (.ref u10), some (.int (x : Int)), some (.int (y : Int)), some (.ref top), some (.int ((0 : Int) + (i : Int))), k2, some (.str z9)] ∧ Et N3 H' ∧ Tabs4 K H', ?_, ?_⟩
        · walk_at "rd"
          refine ite2 (fun hc => ?_) (fun hc => ?_)
          · have hc' : (5 : Int) < 0 + (i : Int) := of_decide_eq_true hc
            walk_at "rd"
            refine ⟨x, y, rfl, ?_⟩
            have hgp : 0 < Nat.gcd x y := Nat.gcd_pos_of_pos_left y (by omega)
            have hgl : Nat.gcd x y ≤ x := Nat.le_of_dvd (by omega) (Nat.gcd_dvd_left x y)
            refine rd_I (show (0 : Int) < ((Nat.gcd x y : Nat) : Int) ∧ ((Nat.gcd x y : Nat) : Int) < 2 ^ 64 by omega) ?_
            rw [mul_gcd hx.1]
            walk_at "rd"
            refine ite2 (fun hd' => ?_) (fun hd' => ?_)
            · have hd' : (840 : Int) < ((cm x y : Nat) : Int) := of_decide_eq_true hd'
              walk_at "rd"
              rw [if_pos ⟨by omega, by omega⟩] at hz9
              subst hz9
              exact ⟨rfl, ez, q2'⟩
            · have hd' : ¬ (840 : Int) < ((cm x y : Nat) : Int) := fun h => hd' (decide_eq_true h)
              walk_at "rd"
              rw [if_neg (fun h => hd' (by omega))] at hz9
              subst hz9
              exact ⟨rfl, ez, q2'⟩
          · have hc' : ¬ (5 : Int) < 0 + (i : Int) := fun h => hc (decide_eq_true h)
            refine iteF ?_
            walk_at "rd"
            rw [if_neg (fun h => hc' (by omega))] at hz9
            subst hz9
            exact ⟨rfl, ez, q2'⟩
        clear ez q2'
        rintro σ' H2 ⟨rfl, ez, q2'⟩
        walk_at "rd"
        refine ⟨small_line (by simp), rd_new fun c1 J1 j1 l1 _ => ?_⟩
        walk_at "rd"
        refine ⟨small_line (by simp), rd_new fun c2 J2 j2 l2 _ => ?_⟩
        walk_at "rd"
        refine ⟨small_line (by simp), rd_new fun c3 J3 j3 l3 _ => ?_⟩
        walk_at "rd"
        refine ⟨small_line (by simp), rd_new fun c4 J4 j4 l4 _ => ?_⟩
        walk_at "rd"
        refine ⟨small_line (by simp), rd_new fun c5 J5 j5 l5 _ => ?_⟩
        walk_at "rd"
        refine ⟨small_line (by simp), rd_new fun c6 J6 j6 l6 _ => ?_⟩
        have s1' : SN J6 (.ref c3) 0 x [] [0] := ⟨⟨c3, c1, c2, rfl, (j4.trans (j5.trans j6)) _ _ l3, (j2.trans (j3.trans (j4.trans (j5.trans j6)))) _ _ l1, (j3.trans (j4.trans (j5.trans j6))) _ _ l2⟩, ⟨by omega, by omega, rise0, rise1 (by omega) (by omega)⟩, by omega, by omega⟩
        have s2' : SN J6 (.ref c6) 1 y [0] [] := ⟨⟨c6, c4, c5, rfl, l6, (j5.trans j6) _ _ l4, j6 _ _ l5⟩, ⟨by omega, by omega, rise1 (by omega) (by omega), rise0⟩, by omega, by omega⟩
        have ej : Ext H2 J6 := j1.trans (j2.trans (j3.trans (j4.trans (j5.trans j6))))
        clear j1 j2 j3 j4 j5 j6 l1 l2 l3 l4 l5 l6
        have an : Ans J6 (0 + (i : Int)) (.ref c3) (.ref c6) z9 := by
          by_cases hc : 6 ≤ (0 : Int) + (i : Int) ∧ 840 < cm x y
          · rw [if_pos hc] at hz9
            subst hz9
            exact .inr ⟨hc.1, .inr (.inr ⟨.inr ⟨_, _, _, _, _, _, _, _, s1', s2', hc.2⟩, rfl⟩)⟩
          · rw [if_neg hc] at hz9
            subst hz9
            by_cases hk : (0 : Int) + (i : Int) < 6
            · exact .inl ⟨hk, .inl ⟨⟨_, _, _, _, s1'.1, s1'.2⟩, rfl⟩⟩
            · exact .inr ⟨by omega, .inl ⟨⟨_, _, _, _, _, _, _, _, s1', s2', by omega⟩, rfl⟩⟩
        clear s1' s2'
        walk_at "rd"
        refine ⟨_, .ref c3, .ref c6, z9, rfl, dis, q2'.ext ej, an, fun H3 e3 q3' => ?_⟩
        have ez : Et N3 H3 := ez.trans (ej.et.trans e3)
        clear an ej e3 q2'
        walk_at "rd"
        refine ne_self ?_
        refine rd_exb (iteF ?_)
        walk_at "rd"
        refine ⟨small_line (by simp), rd_new fun c1 J1 j1 l1 _ => ?_⟩
        walk_at "rd"
        refine ⟨small_line (by simp), rd_new fun c2 J2 j2 l2 _ => ?_⟩
        walk_at "rd"
        refine ⟨small_line (by simp), rd_new fun c3 J3 j3 l3 _ => ?_⟩
        walk_at "rd"
        refine ⟨small_line (by simp), rd_new fun c4 J4 j4 l4 _ => ?_⟩
        walk_at "rd"
        refine ⟨small_line (by simp), rd_new fun c5 J5 j5 l5 _ => ?_⟩
        walk_at "rd"
        refine ⟨small_line (by simp), rd_new fun c6 J6 j6 l6 _ => ?_⟩
        have s1' : SN J6 (.ref c3) 0 840 [] [839] := ⟨⟨c3, c1, c2, rfl, (j4.trans (j5.trans j6)) _ _ l3, (j2.trans (j3.trans (j4.trans (j5.trans j6)))) _ _ l1, (j3.trans (j4.trans (j5.trans j6))) _ _ l2⟩, ⟨by omega, by omega, rise0, rise1 (by omega) (by omega)⟩, by omega, by omega⟩
        have s2' : SN J6 (.ref c6) 3 56 [] [3] := ⟨⟨c6, c4, c5, rfl, l6, (j5.trans j6) _ _ l4, j6 _ _ l5⟩, ⟨by omega, by omega, rise0, rise1 (by omega) (by omega)⟩, by omega, by omega⟩
        have ej : Ext H3 J6 := j1.trans (j2.trans (j3.trans (j4.trans (j5.trans j6))))
        clear j1 j2 j3 j4 j5 j6 l1 l2 l3 l4 l5 l6
        have an : GoodP J6 (.ref c3) (.ref c6) := ⟨_, _, _, _, _, _, _, _, s1', s2', by rw [cm_56]; decide⟩
        clear s1' s2'
        walk_at "rd"
        refine ⟨_, .ref c3, .ref c6, _, rfl, dis, q3'.ext ej, ans_told an, fun H4 e4 q4' => ?_⟩
        have ez : Et N3 H4 := ez.trans (ej.et.trans e4)
        clear an ej e4 q3'
        walk_at "rd"
        refine ne_self ?_
        refine rd_exb (iteF ?_)
        walk_at "rd"
        refine rd_ifN ?_
        walk_at "rd"
        refine ⟨_, v2, v2, _, rfl, dis, q4', ans_told (gpN.et ez), fun H5 e5 q5' => ?_⟩
        walk_at "rd"
        refine ne_self ?_
        refine rd_exb (iteF ?_)
        walk_at "rd"
        refine ⟨_, .ref top, .ref top, _, rfl, dis, q5', ans_told (topP.et (ez.trans e5)), fun H6 e6 q6' => ?_⟩
        walk_at "rd"
        refine ne_self ?_
        refine rd_exb (iteF ?_)
        walk_at "rd"
        exact ⟨_, _, _, rfl, ez.trans (e5.trans e6), q6'⟩
    · rintro σ Hf ⟨k1, k2, k3, rfl, ef, tf⟩
      walk_at "rd"
      exact q _
theorem all_mk {l : PySem.W.OpenLaw} {w : World} {K : PySem.W.Frag} {h : Heap} {mg : Str → Option Value} {fa : Addr} (X : K.In h) (G : h.Ns mainGlobals mg) (hfa : mg "law" = some (.ref fa))
    {f0 : Addr} {od0 an0 : Option Addr} {sl0 : Array (Option Value)} {oc0 kV0 dc0 pm0 cd0 ct0 : Value} (a0 : PySem.W.nsIn K mainGlobals "least_step" = some (some (.ref f0))) (l0 : K.lookup f0 = some ⟨oc0, od0, .func (PySem.W.fnOf "least_step" "least_step" (defArgs s_least_step) (defBody s_least_step) (defScope s_least_step) .none kV0 dc0 pm0 an0 cd0 ct0), sl0⟩) (c0 : PySem.W.codeIn K cd0 "least_step" = true) (k0 : PySem.W.keepIn K (.ref f0) = true)
    {f1 : Addr} {od1 an1 : Option Addr} {sl1 : Array (Option Value)} {oc1 kV1 dc1 pm1 cd1 ct1 : Value} (a1 : PySem.W.nsIn K mainGlobals "stair_of_marks" = some (some (.ref f1))) (l1 : K.lookup f1 = some ⟨oc1, od1, .func (PySem.W.fnOf "stair_of_marks" "stair_of_marks" (defArgs s_stair_of_marks) (defBody s_stair_of_marks) (defScope s_stair_of_marks) .none kV1 dc1 pm1 an1 cd1 ct1), sl1⟩) (c1 : PySem.W.codeIn K cd1 "stair_of_marks" = true) (k1 : PySem.W.keepIn K (.ref f1) = true)
    {f2 : Addr} {od2 an2 : Option Addr} {sl2 : Array (Option Value)} {oc2 kV2 dc2 pm2 cd2 ct2 : Value} (a2 : PySem.W.nsIn K mainGlobals "marks_below" = some (some (.ref f2))) (l2 : K.lookup f2 = some ⟨oc2, od2, .func (PySem.W.fnOf "marks_below" "marks_below" (defArgs s_marks_below) (defBody s_marks_below) (defScope s_marks_below) .none kV2 dc2 pm2 an2 cd2 ct2), sl2⟩) (c2 : PySem.W.codeIn K cd2 "marks_below" = true) (k2 : PySem.W.keepIn K (.ref f2) = true)
    {f3 : Addr} {od3 an3 : Option Addr} {sl3 : Array (Option Value)} {oc3 kV3 dc3 pm3 cd3 ct3 : Value} (a3 : PySem.W.nsIn K mainGlobals "refuse_great_stair" = some (some (.ref f3))) (l3 : K.lookup f3 = some ⟨oc3, od3, .func (PySem.W.fnOf "refuse_great_stair" "refuse_great_stair" (defArgs s_refuse_great_stair) (defBody s_refuse_great_stair) (defScope s_refuse_great_stair) .none kV3 dc3 pm3 an3 cd3 ct3), sl3⟩) (c3 : PySem.W.codeIn K cd3 "refuse_great_stair" = true) (k3 : PySem.W.keepIn K (.ref f3) = true)
    {f4 : Addr} {od4 an4 : Option Addr} {sl4 : Array (Option Value)} {oc4 kV4 dc4 pm4 cd4 ct4 : Value} (a4 : PySem.W.nsIn K mainGlobals "is_whole" = some (some (.ref f4))) (l4 : K.lookup f4 = some ⟨oc4, od4, .func (PySem.W.fnOf "is_whole" "is_whole" (defArgs s_is_whole) (defBody s_is_whole) (defScope s_is_whole) .none kV4 dc4 pm4 an4 cd4 ct4), sl4⟩) (c4 : PySem.W.codeIn K cd4 "is_whole" = true) (k4 : PySem.W.keepIn K (.ref f4) = true)
    {f5 : Addr} {od5 an5 : Option Addr} {sl5 : Array (Option Value)} {oc5 kV5 dc5 pm5 cd5 ct5 : Value} (a5 : PySem.W.nsIn K mainGlobals "is_rising_row" = some (some (.ref f5))) (l5 : K.lookup f5 = some ⟨oc5, od5, .func (PySem.W.fnOf "is_rising_row" "is_rising_row" (defArgs s_is_rising_row) (defBody s_is_rising_row) (defScope s_is_rising_row) .none kV5 dc5 pm5 an5 cd5 ct5), sl5⟩) (c5 : PySem.W.codeIn K cd5 "is_rising_row" = true) (k5 : PySem.W.keepIn K (.ref f5) = true)
    {f6 : Addr} {od6 an6 : Option Addr} {sl6 : Array (Option Value)} {oc6 kV6 dc6 pm6 cd6 ct6 : Value} (a6 : PySem.W.nsIn K mainGlobals "are_stair_places" = some (some (.ref f6))) (l6 : K.lookup f6 = some ⟨oc6, od6, .func (PySem.W.fnOf "are_stair_places" "are_stair_places" (defArgs s_are_stair_places) (defBody s_are_stair_places) (defScope s_are_stair_places) .none kV6 dc6 pm6 an6 cd6 ct6), sl6⟩) (c6 : PySem.W.codeIn K cd6 "are_stair_places" = true) (k6 : PySem.W.keepIn K (.ref f6) = true)
    {f7 : Addr} {od7 an7 : Option Addr} {sl7 : Array (Option Value)} {oc7 kV7 dc7 pm7 cd7 ct7 : Value} (a7 : PySem.W.nsIn K mainGlobals "is_stair" = some (some (.ref f7))) (l7 : K.lookup f7 = some ⟨oc7, od7, .func (PySem.W.fnOf "is_stair" "is_stair" (defArgs s_is_stair) (defBody s_is_stair) (defScope s_is_stair) .none kV7 dc7 pm7 an7 cd7 ct7), sl7⟩) (c7 : PySem.W.codeIn K cd7 "is_stair" = true) (k7 : PySem.W.keepIn K (.ref f7) = true)
    {f8 : Addr} {od8 an8 : Option Addr} {sl8 : Array (Option Value)} {oc8 kV8 dc8 pm8 cd8 ct8 : Value} (a8 : PySem.W.nsIn K mainGlobals "refuse_no_stair" = some (some (.ref f8))) (l8 : K.lookup f8 = some ⟨oc8, od8, .func (PySem.W.fnOf "refuse_no_stair" "refuse_no_stair" (defArgs s_refuse_no_stair) (defBody s_refuse_no_stair) (defScope s_refuse_no_stair) .none kV8 dc8 pm8 an8 cd8 ct8), sl8⟩) (c8 : PySem.W.codeIn K cd8 "refuse_no_stair" = true) (k8 : PySem.W.keepIn K (.ref f8) = true)
    {f9 : Addr} {od9 an9 : Option Addr} {sl9 : Array (Option Value)} {oc9 kV9 dc9 pm9 cd9 ct9 : Value} (a9 : PySem.W.nsIn K mainGlobals "refuse_bad_stair" = some (some (.ref f9))) (l9 : K.lookup f9 = some ⟨oc9, od9, .func (PySem.W.fnOf "refuse_bad_stair" "refuse_bad_stair" (defArgs s_refuse_bad_stair) (defBody s_refuse_bad_stair) (defScope s_refuse_bad_stair) .none kV9 dc9 pm9 an9 cd9 ct9), sl9⟩) (c9 : PySem.W.codeIn K cd9 "refuse_bad_stair" = true) (k9 : PySem.W.keepIn K (.ref f9) = true)
    {f10 : Addr} {od10 an10 : Option Addr} {sl10 : Array (Option Value)} {oc10 kV10 dc10 pm10 cd10 ct10 : Value} (a10 : PySem.W.nsIn K mainGlobals "moved" = some (some (.ref f10))) (l10 : K.lookup f10 = some ⟨oc10, od10, .func (PySem.W.fnOf "moved" "moved" (defArgs s_moved) (defBody s_moved) (defScope s_moved) .none kV10 dc10 pm10 an10 cd10 ct10), sl10⟩) (c10 : PySem.W.codeIn K cd10 "moved" = true) (k10 : PySem.W.keepIn K (.ref f10) = true)
    {f11 : Addr} {od11 an11 : Option Addr} {sl11 : Array (Option Value)} {oc11 kV11 dc11 pm11 cd11 ct11 : Value} (a11 : PySem.W.nsIn K mainGlobals "rest_of" = some (some (.ref f11))) (l11 : K.lookup f11 = some ⟨oc11, od11, .func (PySem.W.fnOf "rest_of" "rest_of" (defArgs s_rest_of) (defBody s_rest_of) (defScope s_rest_of) .none kV11 dc11 pm11 an11 cd11 ct11), sl11⟩) (c11 : PySem.W.codeIn K cd11 "rest_of" = true) (k11 : PySem.W.keepIn K (.ref f11) = true)
    {f12 : Addr} {od12 an12 : Option Addr} {sl12 : Array (Option Value)} {oc12 kV12 dc12 pm12 cd12 ct12 : Value} (a12 : PySem.W.nsIn K mainGlobals "how_many_of_row" = some (some (.ref f12))) (l12 : K.lookup f12 = some ⟨oc12, od12, .func (PySem.W.fnOf "how_many_of_row" "how_many_of_row" (defArgs s_how_many_of_row) (defBody s_how_many_of_row) (defScope s_how_many_of_row) .none kV12 dc12 pm12 an12 cd12 ct12), sl12⟩) (c12 : PySem.W.codeIn K cd12 "how_many_of_row" = true) (k12 : PySem.W.keepIn K (.ref f12) = true)
    {f13 : Addr} {od13 an13 : Option Addr} {sl13 : Array (Option Value)} {oc13 kV13 dc13 pm13 cd13 ct13 : Value} (a13 : PySem.W.nsIn K mainGlobals "how_many" = some (some (.ref f13))) (l13 : K.lookup f13 = some ⟨oc13, od13, .func (PySem.W.fnOf "how_many" "how_many" (defArgs s_how_many) (defBody s_how_many) (defScope s_how_many) .none kV13 dc13 pm13 an13 cd13 ct13), sl13⟩) (c13 : PySem.W.codeIn K cd13 "how_many" = true) (k13 : PySem.W.keepIn K (.ref f13) = true)
    {f14 : Addr} {od14 an14 : Option Addr} {sl14 : Array (Option Value)} {oc14 kV14 dc14 pm14 cd14 ct14 : Value} (a14 : PySem.W.nsIn K mainGlobals "first_of" = some (some (.ref f14))) (l14 : K.lookup f14 = some ⟨oc14, od14, .func (PySem.W.fnOf "first_of" "first_of" (defArgs s_first_of) (defBody s_first_of) (defScope s_first_of) .none kV14 dc14 pm14 an14 cd14 ct14), sl14⟩) (c14 : PySem.W.codeIn K cd14 "first_of" = true) (k14 : PySem.W.keepIn K (.ref f14) = true)
    {f15 : Addr} {od15 an15 : Option Addr} {sl15 : Array (Option Value)} {oc15 kV15 dc15 pm15 cd15 ct15 : Value} (a15 : PySem.W.nsIn K mainGlobals "holds" = some (some (.ref f15))) (l15 : K.lookup f15 = some ⟨oc15, od15, .func (PySem.W.fnOf "holds" "holds" (defArgs s_holds) (defBody s_holds) (defScope s_holds) .none kV15 dc15 pm15 an15 cd15 ct15), sl15⟩) (c15 : PySem.W.codeIn K cd15 "holds" = true) (k15 : PySem.W.keepIn K (.ref f15) = true)
    {f16 : Addr} {od16 an16 : Option Addr} {sl16 : Array (Option Value)} {oc16 kV16 dc16 pm16 cd16 ct16 : Value} (a16 : PySem.W.nsIn K mainGlobals "least" = some (some (.ref f16))) (l16 : K.lookup f16 = some ⟨oc16, od16, .func (PySem.W.fnOf "least" "least" (defArgs s_least) (defBody s_least) (defScope s_least) .none kV16 dc16 pm16 an16 cd16 ct16), sl16⟩) (c16 : PySem.W.codeIn K cd16 "least" = true) (k16 : PySem.W.keepIn K (.ref f16) = true)
    {f17 : Addr} {od17 an17 : Option Addr} {sl17 : Array (Option Value)} {oc17 kV17 dc17 pm17 cd17 ct17 : Value} (a17 : PySem.W.nsIn K mainGlobals "_law_one" = some (some (.ref f17))) (l17 : K.lookup f17 = some ⟨oc17, od17, .func (PySem.W.fnOf "_law_one" "_law_one" (defArgs s__law_one) (defBody s__law_one) (defScope s__law_one) .none kV17 dc17 pm17 an17 cd17 ct17), sl17⟩) (c17 : PySem.W.codeIn K cd17 "_law_one" = true) (k17 : PySem.W.keepIn K (.ref f17) = true)
    {f18 : Addr} {od18 an18 : Option Addr} {sl18 : Array (Option Value)} {oc18 kV18 dc18 pm18 cd18 ct18 : Value} (a18 : PySem.W.nsIn K mainGlobals "greatest_divisor" = some (some (.ref f18))) (l18 : K.lookup f18 = some ⟨oc18, od18, .func (PySem.W.fnOf "greatest_divisor" "greatest_divisor" (defArgs s_greatest_divisor) (defBody s_greatest_divisor) (defScope s_greatest_divisor) .none kV18 dc18 pm18 an18 cd18 ct18), sl18⟩) (c18 : PySem.W.codeIn K cd18 "greatest_divisor" = true) (k18 : PySem.W.keepIn K (.ref f18) = true)
    {f19 : Addr} {od19 an19 : Option Addr} {sl19 : Array (Option Value)} {oc19 kV19 dc19 pm19 cd19 ct19 : Value} (a19 : PySem.W.nsIn K mainGlobals "common_step" = some (some (.ref f19))) (l19 : K.lookup f19 = some ⟨oc19, od19, .func (PySem.W.fnOf "common_step" "common_step" (defArgs s_common_step) (defBody s_common_step) (defScope s_common_step) .none kV19 dc19 pm19 an19 cd19 ct19), sl19⟩) (c19 : PySem.W.codeIn K cd19 "common_step" = true) (k19 : PySem.W.keepIn K (.ref f19) = true)
    {f20 : Addr} {od20 an20 : Option Addr} {sl20 : Array (Option Value)} {oc20 kV20 dc20 pm20 cd20 ct20 : Value} (a20 : PySem.W.nsIn K mainGlobals "refuse_bad_pair" = some (some (.ref f20))) (l20 : K.lookup f20 = some ⟨oc20, od20, .func (PySem.W.fnOf "refuse_bad_pair" "refuse_bad_pair" (defArgs s_refuse_bad_pair) (defBody s_refuse_bad_pair) (defScope s_refuse_bad_pair) .none kV20 dc20 pm20 an20 cd20 ct20), sl20⟩) (c20 : PySem.W.codeIn K cd20 "refuse_bad_pair" = true) (k20 : PySem.W.keepIn K (.ref f20) = true)
    {f21 : Addr} {od21 an21 : Option Addr} {sl21 : Array (Option Value)} {oc21 kV21 dc21 pm21 cd21 ct21 : Value} (a21 : PySem.W.nsIn K mainGlobals "chosen" = some (some (.ref f21))) (l21 : K.lookup f21 = some ⟨oc21, od21, .func (PySem.W.fnOf "chosen" "chosen" (defArgs s_chosen) (defBody s_chosen) (defScope s_chosen) .none kV21 dc21 pm21 an21 cd21 ct21), sl21⟩) (c21 : PySem.W.codeIn K cd21 "chosen" = true) (k21 : PySem.W.keepIn K (.ref f21) = true)
    {f22 : Addr} {od22 an22 : Option Addr} {sl22 : Array (Option Value)} {oc22 kV22 dc22 pm22 cd22 ct22 : Value} (a22 : PySem.W.nsIn K mainGlobals "less" = some (some (.ref f22))) (l22 : K.lookup f22 = some ⟨oc22, od22, .func (PySem.W.fnOf "less" "less" (defArgs s_less) (defBody s_less) (defScope s_less) .none kV22 dc22 pm22 an22 cd22 ct22), sl22⟩) (c22 : PySem.W.codeIn K cd22 "less" = true) (k22 : PySem.W.keepIn K (.ref f22) = true)
    {f23 : Addr} {od23 an23 : Option Addr} {sl23 : Array (Option Value)} {oc23 kV23 dc23 pm23 cd23 ct23 : Value} (a23 : PySem.W.nsIn K mainGlobals "either" = some (some (.ref f23))) (l23 : K.lookup f23 = some ⟨oc23, od23, .func (PySem.W.fnOf "either" "either" (defArgs s_either) (defBody s_either) (defScope s_either) .none kV23 dc23 pm23 an23 cd23 ct23), sl23⟩) (c23 : PySem.W.codeIn K cd23 "either" = true) (k23 : PySem.W.keepIn K (.ref f23) = true)
    {f24 : Addr} {od24 an24 : Option Addr} {sl24 : Array (Option Value)} {oc24 kV24 dc24 pm24 cd24 ct24 : Value} (a24 : PySem.W.nsIn K mainGlobals "both" = some (some (.ref f24))) (l24 : K.lookup f24 = some ⟨oc24, od24, .func (PySem.W.fnOf "both" "both" (defArgs s_both) (defBody s_both) (defScope s_both) .none kV24 dc24 pm24 an24 cd24 ct24), sl24⟩) (c24 : PySem.W.codeIn K cd24 "both" = true) (k24 : PySem.W.keepIn K (.ref f24) = true)
    {f25 : Addr} {od25 an25 : Option Addr} {sl25 : Array (Option Value)} {oc25 kV25 dc25 pm25 cd25 ct25 : Value} (a25 : PySem.W.nsIn K mainGlobals "within" = some (some (.ref f25))) (l25 : K.lookup f25 = some ⟨oc25, od25, .func (PySem.W.fnOf "within" "within" (defArgs s_within) (defBody s_within) (defScope s_within) .none kV25 dc25 pm25 an25 cd25 ct25), sl25⟩) (c25 : PySem.W.codeIn K cd25 "within" = true) (k25 : PySem.W.keepIn K (.ref f25) = true)
    {f26 : Addr} {od26 an26 : Option Addr} {sl26 : Array (Option Value)} {oc26 kV26 dc26 pm26 cd26 ct26 : Value} (a26 : PySem.W.nsIn K mainGlobals "parting" = some (some (.ref f26))) (l26 : K.lookup f26 = some ⟨oc26, od26, .func (PySem.W.fnOf "parting" "parting" (defArgs s_parting) (defBody s_parting) (defScope s_parting) .none kV26 dc26 pm26 an26 cd26 ct26), sl26⟩) (c26 : PySem.W.codeIn K cd26 "parting" = true) (k26 : PySem.W.keepIn K (.ref f26) = true)
    {f27 : Addr} {od27 an27 : Option Addr} {sl27 : Array (Option Value)} {oc27 kV27 dc27 pm27 cd27 ct27 : Value} (a27 : PySem.W.nsIn K mainGlobals "_law_two" = some (some (.ref f27))) (l27 : K.lookup f27 = some ⟨oc27, od27, .func (PySem.W.fnOf "_law_two" "_law_two" (defArgs s__law_two) (defBody s__law_two) (defScope s__law_two) .none kV27 dc27 pm27 an27 cd27 ct27), sl27⟩) (c27 : PySem.W.codeIn K cd27 "_law_two" = true) (k27 : PySem.W.keepIn K (.ref f27) = true)
    {f28 : Addr} {od28 an28 : Option Addr} {sl28 : Array (Option Value)} {oc28 kV28 dc28 pm28 cd28 ct28 : Value} (a28 : PySem.W.nsIn K mainGlobals "_law_asked" = some (some (.ref f28))) (l28 : K.lookup f28 = some ⟨oc28, od28, .func (PySem.W.fnOf "_law_asked" "_law_asked" (defArgs s__law_asked) (defBody s__law_asked) (defScope s__law_asked) .none kV28 dc28 pm28 an28 cd28 ct28), sl28⟩) (c28 : PySem.W.codeIn K cd28 "_law_asked" = true) (k28 : PySem.W.keepIn K (.ref f28) = true)
    {f29 : Addr} {od29 an29 : Option Addr} {sl29 : Array (Option Value)} {oc29 kV29 dc29 pm29 cd29 ct29 : Value} (a29 : PySem.W.nsIn K mainGlobals "_law_shared" = some (some (.ref f29))) (l29 : K.lookup f29 = some ⟨oc29, od29, .func (PySem.W.fnOf "_law_shared" "_law_shared" (defArgs s__law_shared) (defBody s__law_shared) (defScope s__law_shared) .none kV29 dc29 pm29 an29 cd29 ct29), sl29⟩) (c29 : PySem.W.codeIn K cd29 "_law_shared" = true) (k29 : PySem.W.keepIn K (.ref f29) = true)
    {f30 : Addr} {od30 an30 : Option Addr} {sl30 : Array (Option Value)} {oc30 kV30 dc30 pm30 cd30 ct30 : Value} (a30 : PySem.W.nsIn K mainGlobals "_law_bad" = some (some (.ref f30))) (l30 : K.lookup f30 = some ⟨oc30, od30, .func (PySem.W.fnOf "_law_bad" "_law_bad" (defArgs s__law_bad) (defBody s__law_bad) (defScope s__law_bad) .none kV30 dc30 pm30 an30 cd30 ct30), sl30⟩) (c30 : PySem.W.codeIn K cd30 "_law_bad" = true) (k30 : PySem.W.keepIn K (.ref f30) = true)
    {f31 : Addr} {od31 an31 : Option Addr} {sl31 : Array (Option Value)} {oc31 kV31 dc31 pm31 cd31 ct31 : Value} (a31 : PySem.W.nsIn K mainGlobals "_law_stair_of" = some (some (.ref f31))) (l31 : K.lookup f31 = some ⟨oc31, od31, .func (PySem.W.fnOf "_law_stair_of" "_law_stair_of" (defArgs s__law_stair_of) (defBody s__law_stair_of) (defScope s__law_stair_of) .none kV31 dc31 pm31 an31 cd31 ct31), sl31⟩) (c31 : PySem.W.codeIn K cd31 "_law_stair_of" = true) (k31 : PySem.W.keepIn K (.ref f31) = true)
    {f32 : Addr} {od32 an32 : Option Addr} {sl32 : Array (Option Value)} {oc32 kV32 dc32 pm32 cd32 ct32 : Value} (a32 : PySem.W.nsIn K mainGlobals "_law_stair_bits" = some (some (.ref f32))) (l32 : K.lookup f32 = some ⟨oc32, od32, .func (PySem.W.fnOf "_law_stair_bits" "_law_stair_bits" (defArgs s__law_stair_bits) (defBody s__law_stair_bits) (defScope s__law_stair_bits) .none kV32 dc32 pm32 an32 cd32 ct32), sl32⟩) (c32 : PySem.W.codeIn K cd32 "_law_stair_bits" = true) (k32 : PySem.W.keepIn K (.ref f32) = true)
    {f33 : Addr} {od33 an33 : Option Addr} {sl33 : Array (Option Value)} {oc33 kV33 dc33 pm33 cd33 ct33 : Value} (a33 : PySem.W.nsIn K mainGlobals "_law_mixed" = some (some (.ref f33))) (l33 : K.lookup f33 = some ⟨oc33, od33, .func (PySem.W.fnOf "_law_mixed" "_law_mixed" (defArgs s__law_mixed) (defBody s__law_mixed) (defScope s__law_mixed) .none kV33 dc33 pm33 an33 cd33 ct33), sl33⟩) (c33 : PySem.W.codeIn K cd33 "_law_mixed" = true) (k33 : PySem.W.keepIn K (.ref f33) = true)
    {f34 : Addr} {od34 an34 : Option Addr} {sl34 : Array (Option Value)} {oc34 kV34 dc34 pm34 cd34 ct34 : Value} (a34 : PySem.W.nsIn K mainGlobals "_law_draws" = some (some (.ref f34))) (l34 : K.lookup f34 = some ⟨oc34, od34, .func (PySem.W.fnOf "_law_draws" "_law_draws" (defArgs s__law_draws) (defBody s__law_draws) (defScope s__law_draws) .none kV34 dc34 pm34 an34 cd34 ct34), sl34⟩) (c34 : PySem.W.codeIn K cd34 "_law_draws" = true) (k34 : PySem.W.keepIn K (.ref f34) = true)
    {f35 : Addr} {od35 an35 : Option Addr} {sl35 : Array (Option Value)} {oc35 kV35 dc35 pm35 cd35 ct35 : Value} (a35 : PySem.W.nsIn K mainGlobals "_law_bits" = some (some (.ref f35))) (l35 : K.lookup f35 = some ⟨oc35, od35, .func (PySem.W.fnOf "_law_bits" "_law_bits" (defArgs s__law_bits) (defBody s__law_bits) (defScope s__law_bits) .none kV35 dc35 pm35 an35 cd35 ct35), sl35⟩) (c35 : PySem.W.codeIn K cd35 "_law_bits" = true) (k35 : PySem.W.keepIn K (.ref f35) = true)
    {f36 : Addr} {od36 an36 : Option Addr} {sl36 : Array (Option Value)} {oc36 kV36 dc36 pm36 cd36 ct36 : Value} (a36 : PySem.W.nsIn K mainGlobals "_law_spare" = some (some (.ref f36))) (l36 : K.lookup f36 = some ⟨oc36, od36, .func (PySem.W.fnOf "_law_spare" "_law_spare" (defArgs s__law_spare) (defBody s__law_spare) (defScope s__law_spare) .none kV36 dc36 pm36 an36 cd36 ct36), sl36⟩) (c36 : PySem.W.codeIn K cd36 "_law_spare" = true) (k36 : PySem.W.keepIn K (.ref f36) = true)
    {f37 : Addr} {od37 an37 : Option Addr} {sl37 : Array (Option Value)} {oc37 kV37 dc37 pm37 cd37 ct37 : Value} (a37 : PySem.W.nsIn K mainGlobals "_law_some_stair" = some (some (.ref f37))) (l37 : K.lookup f37 = some ⟨oc37, od37, .func (PySem.W.fnOf "_law_some_stair" "_law_some_stair" (defArgs s__law_some_stair) (defBody s__law_some_stair) (defScope s__law_some_stair) .none kV37 dc37 pm37 an37 cd37 ct37), sl37⟩) (c37 : PySem.W.codeIn K cd37 "_law_some_stair" = true) (k37 : PySem.W.keepIn K (.ref f37) = true)
    {f38 : Addr} {od38 an38 : Option Addr} {sl38 : Array (Option Value)} {oc38 kV38 dc38 pm38 cd38 ct38 : Value} (a38 : PySem.W.nsIn K mainGlobals "_law_cell" = some (some (.ref f38))) (l38 : K.lookup f38 = some ⟨oc38, od38, .func (PySem.W.fnOf "_law_cell" "_law_cell" (defArgs s__law_cell) (defBody s__law_cell) (defScope s__law_cell) .none kV38 dc38 pm38 an38 cd38 ct38), sl38⟩) (c38 : PySem.W.codeIn K cd38 "_law_cell" = true) (k38 : PySem.W.keepIn K (.ref f38) = true)
    {f39 : Addr} {od39 an39 : Option Addr} {sl39 : Array (Option Value)} {oc39 kV39 dc39 pm39 cd39 ct39 : Value} (a39 : PySem.W.nsIn K mainGlobals "law" = some (some (.ref f39))) (l39 : K.lookup f39 = some ⟨oc39, od39, .func (PySem.W.fnOf "law" "law" (defArgs s_law) (defBody s_law) (defScope s_law) .none kV39 dc39 pm39 an39 cd39 ct39), sl39⟩) (c39 : PySem.W.codeIn K cd39 "law" = true) (k39 : PySem.W.keepIn K (.ref f39) = true)
    (z0 : PySem.W.nsIn K mainGlobals "len" = some none)
    (z1 : PySem.W.nsIn K mainGlobals "isinstance" = some none)
    (z2 : PySem.W.nsIn K mainGlobals "tuple" = some none)
    (z3 : PySem.W.nsIn K mainGlobals "list" = some none)
    (z4 : PySem.W.nsIn K mainGlobals "int" = some none)
    (z5 : PySem.W.nsIn K mainGlobals "bool" = some none)
    (z6 : PySem.W.nsIn K mainGlobals "range" = some none)
    (z7 : PySem.W.nsIn K mainGlobals "zip" = some none)
    (z8 : PySem.W.nsIn K mainGlobals "max" = some none)
    (z9 : PySem.W.nsIn K mainGlobals "min" = some none)
    (z10 : PySem.W.nsIn K mainGlobals "abs" = some none)
    (z11 : PySem.W.nsIn K mainGlobals "all" = some none)
    (z12 : PySem.W.nsIn K mainGlobals "ValueError" = some none)
    {t0 : Tok} (v0 : PySem.W.nsIn K mainGlobals "GREATEST_STEP" = some (some (.int 840 t0)))
    {t1 : Tok} (v1 : PySem.W.nsIn K mainGlobals "GREATEST_BASE" = some (some (.int 3000 t1)))
    {t2 : Tok} (v2 : PySem.W.nsIn K mainGlobals "GREATEST_MOVE" = some (some (.int 3000 t2)))
    (hxf : xfB K allC raisedC = true)
    : ∃ fd : FuncData, (∀ (s : Shared) (v : Value), BindsTo s fd ⟨[v], []⟩ [("_law_script", v)]) ∧ ∀ base : Heap, K.In base → base.Ns mainGlobals mg → (∀ y ∈ (["both", "either", "less", "parting"] : List Str), ∃ c T, Tab K mg base y c T) → FnOk l.prog w K mg base CX0 12 fa fd ["_law_script"] (sp_law K) := by
  have e := hfa.symm.trans (PySem.W.mg_of X G a39)
  cases e
  have T : Blt mg := ⟨PySem.W.mg_none_of X G z0, PySem.W.mg_none_of X G z1, PySem.W.mg_none_of X G z2, PySem.W.mg_none_of X G z3, PySem.W.mg_none_of X G z4, PySem.W.mg_none_of X G z5, PySem.W.mg_none_of X G z6, PySem.W.mg_none_of X G z7, PySem.W.mg_none_of X G z8, PySem.W.mg_none_of X G z9, PySem.W.mg_none_of X G z10, PySem.W.mg_none_of X G z11, PySem.W.mg_none_of X G z12⟩
  have D0 : Dfn K mg "least_step" s_least_step ["turn"] := ⟨f0, _, PySem.W.mg_of X G a0, fun_mk (st := s_least_step) l0 c0 k0, (fun_mk (st := s_least_step) l0 c0 k0).binds (ps := ["turn"]) fun _ _ _ _ _ _ us hl => match us, hl with | [_], _ => rfl⟩
  have D1 : Dfn K mg "stair_of_marks" s_stair_of_marks ["marks", "base"] := ⟨f1, _, PySem.W.mg_of X G a1, fun_mk (st := s_stair_of_marks) l1 c1 k1, (fun_mk (st := s_stair_of_marks) l1 c1 k1).binds (ps := ["marks", "base"]) fun _ _ _ _ _ _ us hl => match us, hl with | [_, _], _ => rfl⟩
  have D2 : Dfn K mg "marks_below" s_marks_below ["stair", "end"] := ⟨f2, _, PySem.W.mg_of X G a2, fun_mk (st := s_marks_below) l2 c2 k2, (fun_mk (st := s_marks_below) l2 c2 k2).binds (ps := ["stair", "end"]) fun _ _ _ _ _ _ us hl => match us, hl with | [_, _], _ => rfl⟩
  have D3 : Dfn K mg "refuse_great_stair" s_refuse_great_stair ["stair"] := ⟨f3, _, PySem.W.mg_of X G a3, fun_mk (st := s_refuse_great_stair) l3 c3 k3, (fun_mk (st := s_refuse_great_stair) l3 c3 k3).binds (ps := ["stair"]) fun _ _ _ _ _ _ us hl => match us, hl with | [_], _ => rfl⟩
  have D4 : Dfn K mg "is_whole" s_is_whole ["thing"] := ⟨f4, _, PySem.W.mg_of X G a4, fun_mk (st := s_is_whole) l4 c4 k4, (fun_mk (st := s_is_whole) l4 c4 k4).binds (ps := ["thing"]) fun _ _ _ _ _ _ us hl => match us, hl with | [_], _ => rfl⟩
  have D5 : Dfn K mg "is_rising_row" s_is_rising_row ["thing", "low", "end"] := ⟨f5, _, PySem.W.mg_of X G a5, fun_mk (st := s_is_rising_row) l5 c5 k5, (fun_mk (st := s_is_rising_row) l5 c5 k5).binds (ps := ["thing", "low", "end"]) fun _ _ _ _ _ _ us hl => match us, hl with | [_, _, _], _ => rfl⟩
  have D6 : Dfn K mg "are_stair_places" s_are_stair_places ["base", "step", "once", "again"] := ⟨f6, _, PySem.W.mg_of X G a6, fun_mk (st := s_are_stair_places) l6 c6 k6, (fun_mk (st := s_are_stair_places) l6 c6 k6).binds (ps := ["base", "step", "once", "again"]) fun _ _ _ _ _ _ us hl => match us, hl with | [_, _, _, _], _ => rfl⟩
  have D7 : Dfn K mg "is_stair" s_is_stair ["thing"] := ⟨f7, _, PySem.W.mg_of X G a7, fun_mk (st := s_is_stair) l7 c7 k7, (fun_mk (st := s_is_stair) l7 c7 k7).binds (ps := ["thing"]) fun _ _ _ _ _ _ us hl => match us, hl with | [_], _ => rfl⟩
  have D8 : Dfn K mg "refuse_no_stair" s_refuse_no_stair ["thing"] := ⟨f8, _, PySem.W.mg_of X G a8, fun_mk (st := s_refuse_no_stair) l8 c8 k8, (fun_mk (st := s_refuse_no_stair) l8 c8 k8).binds (ps := ["thing"]) fun _ _ _ _ _ _ us hl => match us, hl with | [_], _ => rfl⟩
  have D9 : Dfn K mg "refuse_bad_stair" s_refuse_bad_stair ["thing"] := ⟨f9, _, PySem.W.mg_of X G a9, fun_mk (st := s_refuse_bad_stair) l9 c9 k9, (fun_mk (st := s_refuse_bad_stair) l9 c9 k9).binds (ps := ["thing"]) fun _ _ _ _ _ _ us hl => match us, hl with | [_], _ => rfl⟩
  have D10 : Dfn K mg "moved" s_moved ["stair", "k"] := ⟨f10, _, PySem.W.mg_of X G a10, fun_mk (st := s_moved) l10 c10 k10, (fun_mk (st := s_moved) l10 c10 k10).binds (ps := ["stair", "k"]) fun _ _ _ _ _ _ us hl => match us, hl with | [_, _], _ => rfl⟩
  have D11 : Dfn K mg "rest_of" s_rest_of ["stair"] := ⟨f11, _, PySem.W.mg_of X G a11, fun_mk (st := s_rest_of) l11 c11 k11, (fun_mk (st := s_rest_of) l11 c11 k11).binds (ps := ["stair"]) fun _ _ _ _ _ _ us hl => match us, hl with | [_], _ => rfl⟩
  have D12 : Dfn K mg "how_many_of_row" s_how_many_of_row ["row", "end"] := ⟨f12, _, PySem.W.mg_of X G a12, fun_mk (st := s_how_many_of_row) l12 c12 k12, (fun_mk (st := s_how_many_of_row) l12 c12 k12).binds (ps := ["row", "end"]) fun _ _ _ _ _ _ us hl => match us, hl with | [_, _], _ => rfl⟩
  have D13 : Dfn K mg "how_many" s_how_many ["stair", "x"] := ⟨f13, _, PySem.W.mg_of X G a13, fun_mk (st := s_how_many) l13 c13 k13, (fun_mk (st := s_how_many) l13 c13 k13).binds (ps := ["stair", "x"]) fun _ _ _ _ _ _ us hl => match us, hl with | [_, _], _ => rfl⟩
  have D14 : Dfn K mg "first_of" s_first_of ["stair"] := ⟨f14, _, PySem.W.mg_of X G a14, fun_mk (st := s_first_of) l14 c14 k14, (fun_mk (st := s_first_of) l14 c14 k14).binds (ps := ["stair"]) fun _ _ _ _ _ _ us hl => match us, hl with | [_], _ => rfl⟩
  have D15 : Dfn K mg "holds" s_holds ["stair", "x"] := ⟨f15, _, PySem.W.mg_of X G a15, fun_mk (st := s_holds) l15 c15 k15, (fun_mk (st := s_holds) l15 c15 k15).binds (ps := ["stair", "x"]) fun _ _ _ _ _ _ us hl => match us, hl with | [_, _], _ => rfl⟩
  have D16 : Dfn K mg "least" s_least ["stair"] := ⟨f16, _, PySem.W.mg_of X G a16, fun_mk (st := s_least) l16 c16 k16, (fun_mk (st := s_least) l16 c16 k16).binds (ps := ["stair"]) fun _ _ _ _ _ _ us hl => match us, hl with | [_], _ => rfl⟩
  have D17 : Dfn K mg "_law_one" s__law_one ["_law_way", "_law_stair"] := ⟨f17, _, PySem.W.mg_of X G a17, fun_mk (st := s__law_one) l17 c17 k17, (fun_mk (st := s__law_one) l17 c17 k17).binds (ps := ["_law_way", "_law_stair"]) fun _ _ _ _ _ _ us hl => match us, hl with | [_, _], _ => rfl⟩
  have D18 : Dfn K mg "greatest_divisor" s_greatest_divisor ["one", "other"] := ⟨f18, _, PySem.W.mg_of X G a18, fun_mk (st := s_greatest_divisor) l18 c18 k18, (fun_mk (st := s_greatest_divisor) l18 c18 k18).binds (ps := ["one", "other"]) fun _ _ _ _ _ _ us hl => match us, hl with | [_, _], _ => rfl⟩
  have D19 : Dfn K mg "common_step" s_common_step ["one", "other"] := ⟨f19, _, PySem.W.mg_of X G a19, fun_mk (st := s_common_step) l19 c19 k19, (fun_mk (st := s_common_step) l19 c19 k19).binds (ps := ["one", "other"]) fun _ _ _ _ _ _ us hl => match us, hl with | [_, _], _ => rfl⟩
  have D20 : Dfn K mg "refuse_bad_pair" s_refuse_bad_pair ["one", "other"] := ⟨f20, _, PySem.W.mg_of X G a20, fun_mk (st := s_refuse_bad_pair) l20 c20 k20, (fun_mk (st := s_refuse_bad_pair) l20 c20 k20).binds (ps := ["one", "other"]) fun _ _ _ _ _ _ us hl => match us, hl with | [_, _], _ => rfl⟩
  have D21 : Dfn K mg "chosen" s_chosen ["one", "other", "choice"] := ⟨f21, _, PySem.W.mg_of X G a21, fun_mk (st := s_chosen) l21 c21 k21, (fun_mk (st := s_chosen) l21 c21 k21).binds (ps := ["one", "other", "choice"]) fun _ _ _ _ _ _ us hl => match us, hl with | [_, _, _], _ => rfl⟩
  have D22 : Dfn K mg "less" s_less ["one", "other"] := ⟨f22, _, PySem.W.mg_of X G a22, fun_mk (st := s_less) l22 c22 k22, (fun_mk (st := s_less) l22 c22 k22).binds (ps := ["one", "other"]) fun _ _ _ _ _ _ us hl => match us, hl with | [_, _], _ => rfl⟩
  have D23 : Dfn K mg "either" s_either ["one", "other"] := ⟨f23, _, PySem.W.mg_of X G a23, fun_mk (st := s_either) l23 c23 k23, (fun_mk (st := s_either) l23 c23 k23).binds (ps := ["one", "other"]) fun _ _ _ _ _ _ us hl => match us, hl with | [_, _], _ => rfl⟩
  have D24 : Dfn K mg "both" s_both ["one", "other"] := ⟨f24, _, PySem.W.mg_of X G a24, fun_mk (st := s_both) l24 c24 k24, (fun_mk (st := s_both) l24 c24 k24).binds (ps := ["one", "other"]) fun _ _ _ _ _ _ us hl => match us, hl with | [_, _], _ => rfl⟩
  have D25 : Dfn K mg "within" s_within ["one", "other"] := ⟨f25, _, PySem.W.mg_of X G a25, fun_mk (st := s_within) l25 c25 k25, (fun_mk (st := s_within) l25 c25 k25).binds (ps := ["one", "other"]) fun _ _ _ _ _ _ us hl => match us, hl with | [_, _], _ => rfl⟩
  have D26 : Dfn K mg "parting" s_parting ["one", "other"] := ⟨f26, _, PySem.W.mg_of X G a26, fun_mk (st := s_parting) l26 c26 k26, (fun_mk (st := s_parting) l26 c26 k26).binds (ps := ["one", "other"]) fun _ _ _ _ _ _ us hl => match us, hl with | [_, _], _ => rfl⟩
  have D27 : Dfn K mg "_law_two" s__law_two ["_law_way", "_law_stair", "_law_other"] := ⟨f27, _, PySem.W.mg_of X G a27, fun_mk (st := s__law_two) l27 c27 k27, (fun_mk (st := s__law_two) l27 c27 k27).binds (ps := ["_law_way", "_law_stair", "_law_other"]) fun _ _ _ _ _ _ us hl => match us, hl with | [_, _, _], _ => rfl⟩
  have D28 : Dfn K mg "_law_asked" s__law_asked ["_law_way", "_law_stair", "_law_other"] := ⟨f28, _, PySem.W.mg_of X G a28, fun_mk (st := s__law_asked) l28 c28 k28, (fun_mk (st := s__law_asked) l28 c28 k28).binds (ps := ["_law_way", "_law_stair", "_law_other"]) fun _ _ _ _ _ _ us hl => match us, hl with | [_, _, _], _ => rfl⟩
  have D29 : Dfn K mg "_law_shared" s__law_shared ["_law_a", "_law_b"] := ⟨f29, _, PySem.W.mg_of X G a29, fun_mk (st := s__law_shared) l29 c29 k29, (fun_mk (st := s__law_shared) l29 c29 k29).binds (ps := ["_law_a", "_law_b"]) fun _ _ _ _ _ _ us hl => match us, hl with | [_, _], _ => rfl⟩
  have D30 : Dfn K mg "_law_bad" s__law_bad ["_law_way", "_law_stair"] := ⟨f30, _, PySem.W.mg_of X G a30, fun_mk (st := s__law_bad) l30 c30 k30, (fun_mk (st := s__law_bad) l30 c30 k30).binds (ps := ["_law_way", "_law_stair"]) fun _ _ _ _ _ _ us hl => match us, hl with | [_, _], _ => rfl⟩
  have D31 : Dfn K mg "_law_stair_of" s__law_stair_of ["_law_bits_here", "_law_base", "_law_step"] := ⟨f31, _, PySem.W.mg_of X G a31, fun_mk (st := s__law_stair_of) l31 c31 k31, (fun_mk (st := s__law_stair_of) l31 c31 k31).binds (ps := ["_law_bits_here", "_law_base", "_law_step"]) fun _ _ _ _ _ _ us hl => match us, hl with | [_, _, _], _ => rfl⟩
  have D32 : Dfn K mg "_law_stair_bits" s__law_stair_bits ["_law_stair", "_law_many"] := ⟨f32, _, PySem.W.mg_of X G a32, fun_mk (st := s__law_stair_bits) l32 c32 k32, (fun_mk (st := s__law_stair_bits) l32 c32 k32).binds (ps := ["_law_stair", "_law_many"]) fun _ _ _ _ _ _ us hl => match us, hl with | [_, _], _ => rfl⟩
  have D33 : Dfn K mg "_law_mixed" s__law_mixed ["_law_cell_here", "_law_k", "_law_prime"] := ⟨f33, _, PySem.W.mg_of X G a33, fun_mk (st := s__law_mixed) l33 c33 k33, (fun_mk (st := s__law_mixed) l33 c33 k33).binds (ps := ["_law_cell_here", "_law_k", "_law_prime"]) fun _ _ _ _ _ _ us hl => match us, hl with | [_, _, _], _ => rfl⟩
  have D34 : Dfn K mg "_law_draws" s__law_draws ["_law_cell_here", "_law_widths", "_law_prime"] := ⟨f34, _, PySem.W.mg_of X G a34, fun_mk (st := s__law_draws) l34 c34 k34, (fun_mk (st := s__law_draws) l34 c34 k34).binds (ps := ["_law_cell_here", "_law_widths", "_law_prime"]) fun _ _ _ _ _ _ us hl => match us, hl with | [_, _, _], _ => rfl⟩
  have D35 : Dfn K mg "_law_bits" s__law_bits ["_law_cell_here", "_law_many", "_law_prime"] := ⟨f35, _, PySem.W.mg_of X G a35, fun_mk (st := s__law_bits) l35 c35 k35, (fun_mk (st := s__law_bits) l35 c35 k35).binds (ps := ["_law_cell_here", "_law_many", "_law_prime"]) fun _ _ _ _ _ _ us hl => match us, hl with | [_, _, _], _ => rfl⟩
  have D36 : Dfn K mg "_law_spare" s__law_spare ["_law_cell_here", "_law_width"] := ⟨f36, _, PySem.W.mg_of X G a36, fun_mk (st := s__law_spare) l36 c36 k36, (fun_mk (st := s__law_spare) l36 c36 k36).binds (ps := ["_law_cell_here", "_law_width"]) fun _ _ _ _ _ _ us hl => match us, hl with | [_, _], _ => rfl⟩
  have D37 : Dfn K mg "_law_some_stair" s__law_some_stair ["_law_cell_here", "_law_prime"] := ⟨f37, _, PySem.W.mg_of X G a37, fun_mk (st := s__law_some_stair) l37 c37 k37, (fun_mk (st := s__law_some_stair) l37 c37 k37).binds (ps := ["_law_cell_here", "_law_prime"]) fun _ _ _ _ _ _ us hl => match us, hl with | [_, _], _ => rfl⟩
  have D38 : Dfn K mg "_law_cell" s__law_cell ["_law_script", "_law_k"] := ⟨f38, _, PySem.W.mg_of X G a38, fun_mk (st := s__law_cell) l38 c38 k38, (fun_mk (st := s__law_cell) l38 c38 k38).binds (ps := ["_law_script", "_law_k"]) fun _ _ _ _ _ _ us hl => match us, hl with | [_, _], _ => rfl⟩
  refine ⟨PySem.W.fnOf "law" "law" (defArgs s_law) (defBody s_law) (defScope s_law) .none kV39 dc39 pm39 an39 cd39 ct39, fun s v => .of_eq rfl, fun base KB GB HB => ?_⟩
  have XF : Xf K mg base allC raisedC := xf_mk KB GB hxf
  have C0 : Cal l.prog w K mg base "least_step" 1 ["turn"] (sp_least_step K) := ok_least_step D0 T
  have C1 : Cal l.prog w K mg base "stair_of_marks" 2 ["marks", "base"] (sp_stair_of_marks K) := ok_stair_of_marks D1 T C0
  have C2 : Cal l.prog w K mg base "marks_below" 1 ["stair", "end"] (sp_marks_below K) := ok_marks_below D2 T
  have C3 : CalX l.prog w K mg base "refuse_great_stair" 1 ["stair"] (sp_refuse_great_stair K) := ok_refuse_great_stair D3 T ⟨_, PySem.W.mg_of X G v0⟩ ⟨_, PySem.W.mg_of X G v1⟩ XF
  have C4 : Cal l.prog w K mg base "is_whole" 1 ["thing"] (sp_is_whole K) := ok_is_whole D4 T
  have C5 : Cal l.prog w K mg base "is_rising_row" 2 ["thing", "low", "end"] (sp_is_rising_row K) := ok_is_rising_row D5 T C4
  have C6 : Cal l.prog w K mg base "are_stair_places" 3 ["base", "step", "once", "again"] (sp_are_stair_places K) := ok_are_stair_places D6 T C5 C4
  have C7 : Cal l.prog w K mg base "is_stair" 4 ["thing"] (sp_is_stair K) := ok_is_stair D7 T C6
  have C8 : CalX l.prog w K mg base "refuse_no_stair" 5 ["thing"] (sp_refuse_no_stair K) := ok_refuse_no_stair D8 T XF C7
  have C9 : CalX l.prog w K mg base "refuse_bad_stair" 6 ["thing"] (sp_refuse_bad_stair K) := ok_refuse_bad_stair D9 T C3 C8
  have C10 : CalX l.prog w K mg base "moved" 7 ["stair", "k"] (sp_moved K) := ok_moved D10 T ⟨_, PySem.W.mg_of X G v2⟩ XF C1 C2 C9
  have C11 : CalX l.prog w K mg base "rest_of" 7 ["stair"] (sp_rest_of K) := ok_rest_of D11 T C1 C2 C9
  have C12 : Cal l.prog w K mg base "how_many_of_row" 1 ["row", "end"] (sp_how_many_of_row K) := ok_how_many_of_row D12 T
  have C13 : CalX l.prog w K mg base "how_many" 7 ["stair", "x"] (sp_how_many K) := ok_how_many D13 T C12 C9
  have C14 : CalX l.prog w K mg base "first_of" 7 ["stair"] (sp_first_of K) := ok_first_of D14 T C9
  have C15 : CalX l.prog w K mg base "holds" 7 ["stair", "x"] (sp_holds K) := ok_holds D15 T C9
  have C16 : CalX l.prog w K mg base "least" 7 ["stair"] (sp_least K) := ok_least D16 T C1 C2 C9
  have C17 : CalX l.prog w K mg base "_law_one" 8 ["_law_way", "_law_stair"] (sp__law_one K) := ok__law_one D17 T C10 C11 C13 C14 C15 C16
  have C18 : Cal l.prog w K mg base "greatest_divisor" 1 ["one", "other"] (sp_greatest_divisor K) := ok_greatest_divisor D18 T
  have C19 : Cal l.prog w K mg base "common_step" 2 ["one", "other"] (sp_common_step K) := ok_common_step D19 T C18
  have C20 : CalX l.prog w K mg base "refuse_bad_pair" 6 ["one", "other"] (sp_refuse_bad_pair K) := ok_refuse_bad_pair D20 T ⟨_, PySem.W.mg_of X G v0⟩ XF C19 C3 C8
  have C21 : CalX l.prog w K mg base "chosen" 7 ["one", "other", "choice"] (sp_chosen K) := ok_chosen D21 T C1 C2 C19 C20
  obtain ⟨c229, T229, B22⟩ := HB "less" (by simp)
  have C22 : CalX l.prog w K mg base "less" 8 ["one", "other"] (sp_less K) := ok_less D22 T B22 C21
  obtain ⟨c239, T239, B23⟩ := HB "either" (by simp)
  have C23 : CalX l.prog w K mg base "either" 8 ["one", "other"] (sp_either K) := ok_either D23 T B23 C21
  obtain ⟨c249, T249, B24⟩ := HB "both" (by simp)
  have C24 : CalX l.prog w K mg base "both" 8 ["one", "other"] (sp_both K) := ok_both D24 T B24 C21
  have C25 : CalX l.prog w K mg base "within" 9 ["one", "other"] (sp_within K) := ok_within D25 T C14 C22
  obtain ⟨c269, T269, B26⟩ := HB "parting" (by simp)
  have C26 : CalX l.prog w K mg base "parting" 8 ["one", "other"] (sp_parting K) := ok_parting D26 T B26 C14 C21
  have C27 : CalX l.prog w K mg base "_law_two" 10 ["_law_way", "_law_stair", "_law_other"] (sp__law_two K) := ok__law_two D27 T C22 C23 C24 C25 C26
  have C28 : Cal l.prog w K mg base "_law_asked" 11 ["_law_way", "_law_stair", "_law_other"] (sp__law_asked K) := ok__law_asked D28 T XF C17 C27
  have C29 : Cal l.prog w K mg base "_law_shared" 1 ["_law_a", "_law_b"] (sp__law_shared K) := ok__law_shared D29 T
  have C30 : Cal l.prog w K mg base "_law_bad" 1 ["_law_way", "_law_stair"] (sp__law_bad K) := ok__law_bad D30 T
  have C31 : Cal l.prog w K mg base "_law_stair_of" 1 ["_law_bits_here", "_law_base", "_law_step"] (sp__law_stair_of K) := ok__law_stair_of D31 T
  have C32 : Cal l.prog w K mg base "_law_stair_bits" 1 ["_law_stair", "_law_many"] (sp__law_stair_bits K) := ok__law_stair_bits D32 T
  have C33 : Cal l.prog w K mg base "_law_mixed" 1 ["_law_cell_here", "_law_k", "_law_prime"] (sp__law_mixed K) := ok__law_mixed D33 T
  have C34 : Cal l.prog w K mg base "_law_draws" 2 ["_law_cell_here", "_law_widths", "_law_prime"] (sp__law_draws K) := ok__law_draws D34 T C33
  have C35 : Cal l.prog w K mg base "_law_bits" 3 ["_law_cell_here", "_law_many", "_law_prime"] (sp__law_bits K) := ok__law_bits D35 T C34
  have C36 : Cal l.prog w K mg base "_law_spare" 1 ["_law_cell_here", "_law_width"] (sp__law_spare K) := ok__law_spare D36 T
  have C37 : Cal l.prog w K mg base "_law_some_stair" 4 ["_law_cell_here", "_law_prime"] (sp__law_some_stair K) := ok__law_some_stair D37 T C31 C35 C36 C34
  have C38 : Cal l.prog w K mg base "_law_cell" 1 ["_law_script", "_law_k"] (sp__law_cell K) := ok__law_cell D38 T
  exact ok_law (fun_mk (st := s_law) l39 c39 k39) T C28 C29 C30 C31 C32 C37 C38 C34
theorem walk {l : PySem.W.OpenLaw} {q : Program} {loose : List Str} {XP : (Str → Option Value) → Heap → Prop} {YP : World → Heap → Prop} {d : DefRec} {K : Params → PySem.W.Frag} (hn : l.most = some 63) (hdf : d.params.defaults = [])
    (hY : ∀ (w : World) (h : Heap), YP w h → (K w.params).In h) (hK : ∀ w : World, PySem.W.noTabs (K w.params) = true) (hrec : ∀ y ∈ (["both", "either", "less", "parting"] : List Str), ((PyProof.Rows.recsOf q).find? (fun e => e.name == y)).isSome = true) (htab : ∀ (w : World), ∀ y ∈ (["both", "either", "less", "parting"] : List Str), (PySem.W.tabIn (K w.params) y).isSome = true) (hdis : ∀ w : World, Dis (K w.params))
    (F : ∀ (w : World) (mg : Str → Option Value) (fa : Addr) (h : Heap), (K w.params).In h → h.Ns mainGlobals mg → mg d.name = some (.ref fa) →
      ∃ fd : FuncData, (∀ (s : Shared) (u : Value), BindsTo s fd ⟨[u], []⟩ [("_law_script", u)]) ∧ ∀ base : Heap, (K w.params).In base → base.Ns mainGlobals mg → (∀ y ∈ (["both", "either", "less", "parting"] : List Str), ∃ c T, Tab (K w.params) mg base y c T) → FnOk l.prog w (K w.params) mg base CX0 12 fa fd ["_law_script"] (sp_law (K w.params))) :
    PySem.W.WalkO q loose XP YP l.row.toRowW d [] (fun f vs => PySem.call f vs) :=
  L2.walk_ofT (n := 63) (k := 12) (x := "_law_script") (sp := fun w => sp_law (K w.params)) ["both", "either", "less", "parting"] hn (by decide) hdf ⟨rfl, by decide, by decide⟩ hY hK hrec htab F fun w H a ns hl hT hS => ⟨a, ns, rfl, hS, hl, hT, hdis w, fun _ => rfl⟩
end My
namespace PySem.W.Fast
theorem tw4238852064053633916 : True := trivial
theorem tw13354356882917097149 : True := trivial
theorem tw1263023999207885675 : True := trivial
theorem tw16769593042914529380 : True := trivial
theorem tw2607258352363616716 : True := trivial
theorem tw117889116278789846 : True := trivial
theorem tw641531367265589383 : True := trivial
theorem tw12553765596869314993 : True := trivial
theorem tw3534745698789044876 : True := trivial
theorem tw9207475237444998504 : True := trivial
theorem tw14008848320427702912 : True := trivial
theorem tw17191236681182679386 : True := trivial
theorem tw354246091499426290 : True := trivial
theorem tw11746126223892294589 : True := trivial
theorem tw13698926302115894945 : True := trivial
theorem tw4810947864666768103 : True := trivial
theorem tw7646426095067795104 : True := trivial
theorem tw15750690848417297319 : True := trivial
theorem tw8492870983348502686 : True := trivial
theorem tw4565814154724036436 : True := trivial
theorem tw1292290576112023698 : True := trivial
theorem tw11200179230821645030 : True := trivial
theorem tw15723056215674786567 : True := trivial
theorem tw7996527838504962246 : True := trivial
theorem tw2220903127821177772 : True := trivial
theorem tw14820336605641571884 : True := trivial
theorem tw9823088271734506217 : True := trivial
theorem tw7377611875887905869 : True := trivial
theorem tw15642305471904927153 : True := trivial
theorem tw6541618360858411018 : True := trivial
theorem tw10479389208399102394 : True := trivial
theorem tw12177730333252066018 : True := trivial
theorem tw2891529462863106557 : True := trivial
theorem tw1311490381057603537 : True := trivial
theorem tw14696809713145512080 : True := trivial
theorem tw9337788752350153324 : True := trivial
theorem tw12185957496833479620 : True := trivial
theorem tw6240776305883218537 : True := trivial
theorem tw14599160925794359494 : True := trivial
theorem tw13182549073398128019 : True := trivial
theorem tw7952786355223753901 : True := trivial
theorem tw11791823089993796409 : True := trivial
theorem tw77719373549918759 : True := trivial
theorem tw18137139653023977803 : True := trivial
theorem tw4264159728904944402 : True := trivial
theorem tw3650698197985558952 : True := trivial
theorem tw16452755789939725479 : True := trivial
theorem tw42031787565096555 : True := trivial
theorem tw18413589040285824680 : True := trivial
theorem tw9816113289049953070 : True := trivial
theorem tw7894332117351739417 : True := trivial
theorem tw7175232263394040718 : True := trivial
theorem tw17869318649484214861 : True := trivial
theorem tw1540149037580178387 : True := trivial
theorem tw13673343727500249542 : True := trivial
theorem tw9170357561778232434 : True := trivial
theorem tw733722123181010329 : True := trivial
theorem tw574685044886843654 : True := trivial
theorem tw5654748046103085807 : True := trivial
theorem tw17945116766008570782 : True := trivial
theorem tw16329829882618923020 : True := trivial
theorem tw15757096601300265134 : True := trivial
theorem tw14574263867824675730 : True := trivial
theorem tw123466908786703752 : True := trivial
theorem tw11170300185886678062 : True := trivial
theorem tw9218451866671696990 : True := trivial
theorem tw8551465013107401862 : True := trivial
theorem tw6656163879890353997 : True := trivial
theorem tw6053232964006987075 : True := trivial
theorem tw404030450874151904 : True := trivial
theorem tw396182109308097943 : True := trivial
theorem tw2244131110187000289 : True := trivial
theorem tw17576528239272923344 : True := trivial
theorem tw15947249741290048800 : True := trivial
theorem tw13478016103320282055 : True := trivial
theorem tw11336702943915348205 : True := trivial
theorem tw1050651218899709511 : True := trivial
theorem tw7629404945389143432 : True := trivial
theorem tw17168111049343907505 : True := trivial
theorem tw15308708227850700822 : True := trivial
theorem tw15228576049862022890 : True := trivial
theorem tw14057754694512363850 : True := trivial
theorem tw12836659222639633029 : True := trivial
theorem tw11932849979785484642 : True := trivial
theorem tw9493100836977432582 : True := trivial
theorem tw9056447580849329462 : True := trivial
theorem tw8873598773938715989 : True := trivial
theorem tw8719233641001228109 : True := trivial
theorem tw7361057034512829909 : True := trivial
theorem tw7197094840554590417 : True := trivial
theorem tw688054287839889516 : True := trivial
theorem tw6493730461583363505 : True := trivial
theorem tw6030829939987054668 : True := trivial
theorem tw5822478899741480319 : True := trivial
theorem tw535088864236691495 : True := trivial
theorem tw5012965669994970881 : True := trivial
theorem tw497354532550295103 : True := trivial
theorem tw4938140807184644385 : True := trivial
theorem tw4737759945118812879 : True := trivial
theorem tw4724708964300596987 : True := trivial
theorem tw4672335358753623921 : True := trivial
theorem tw4661446518141252251 : True := trivial
theorem tw4463157638444936696 : True := trivial
theorem tw4453129524839515588 : True := trivial
theorem tw3734329787960968904 : True := trivial
theorem tw340143081529658602 : True := trivial
theorem tw320615520400845660 : True := trivial
theorem tw2779035665831222367 : True := trivial
theorem tw2531359001481189861 : True := trivial
theorem tw215882624107094205 : True := trivial
theorem tw2002540513398865111 : True := trivial
theorem tw18164134499311631723 : True := trivial
theorem tw1718467807059264058 : True := trivial
theorem tw17012525849901958566 : True := trivial
theorem tw16868515452533933907 : True := trivial
theorem tw16837968615985941756 : True := trivial
theorem tw16238808914263969568 : True := trivial
theorem tw16057558540514722672 : True := trivial
theorem tw15809432502355996196 : True := trivial
theorem tw15512502525425609002 : True := trivial
theorem tw15085854385937180273 : True := trivial
theorem tw14810645479089728513 : True := trivial
theorem tw14766758510518172388 : True := trivial
theorem tw14737279828007018384 : True := trivial
theorem tw14453404517839446647 : True := trivial
theorem tw1333839166750745472 : True := trivial
theorem tw13049502432362621486 : True := trivial
theorem tw12583569379996549865 : True := trivial
theorem tw12283196855557367417 : True := trivial
theorem tw11771878924887904751 : True := trivial
theorem tw11675262765515342802 : True := trivial
theorem tw114293607621540369 : True := trivial
theorem tw10928095070383054018 : True := trivial
theorem tw10494180361662153785 : True := trivial
theorem tw10030682786796556562 : True := trivial
theorem tw7915979170292904805 : True := trivial
theorem tw7382744669534993168 : True := trivial
theorem tw623025612594854138 : True := trivial
theorem tw5936889312470670445 : True := trivial
theorem tw5783120718870504231 : True := trivial
theorem tw5768315873817817447 : True := trivial
theorem tw4984136326235340260 : True := trivial
theorem tw3365577789563612560 : True := trivial
theorem tw3191794470902240129 : True := trivial
theorem tw3101752020254734563 : True := trivial
theorem tw2939702419694866831 : True := trivial
theorem tw2573429116560324776 : True := trivial
theorem tw2137813151385756185 : True := trivial
theorem tw18030001425673694263 : True := trivial
theorem tw17903195965991831993 : True := trivial
theorem tw17048731962401494503 : True := trivial
theorem tw1654606111293316688 : True := trivial
theorem tw15727011084520724232 : True := trivial
theorem tw1565980728853847463 : True := trivial
theorem tw15249859122079296448 : True := trivial
theorem tw14888732876828052268 : True := trivial
theorem tw14091439691445635917 : True := trivial
theorem tw13922001180005670399 : True := trivial
theorem tw13258646693782748900 : True := trivial
theorem tw12427741680766210722 : True := trivial
theorem tw9987968121934511094 : True := trivial
theorem tw9764034527551327577 : True := trivial
theorem tw6166947674560175262 : True := trivial
theorem tw5552688482097458529 : True := trivial
theorem tw4912030081136556202 : True := trivial
theorem tw36486268652490270 : True := trivial
theorem tw3646125648049220662 : True := trivial
theorem tw18236262124961173538 : True := trivial
theorem tw16919400893361683786 : True := trivial
theorem tw15699181696590140556 : True := trivial
theorem tw15176181813727107480 : True := trivial
theorem tw1444865753566483304 : True := trivial
theorem tw11784456648453287060 : True := trivial
theorem tw9475581058625296430 : True := trivial
theorem tw9100081294103318120 : True := trivial
theorem tw8263440297442998694 : True := trivial
theorem tw5377638541672564766 : True := trivial
theorem tw5217342779940348519 : True := trivial
theorem tw5069072864317017476 : True := trivial
theorem tw15243063657996705119 : True := trivial
theorem tw12368766060960381356 : True := trivial
theorem tw11424297816376212493 : True := trivial
theorem tw10657124800357255957 : True := trivial
theorem tw989302989169594292 : True := trivial
theorem tw9603312342239317598 : True := trivial
theorem tw9032536745381283824 : True := trivial
theorem tw9022174930242195246 : True := trivial
theorem tw8757827936333109920 : True := trivial
theorem tw8526346842263616110 : True := trivial
theorem tw8182414415354329128 : True := trivial
theorem tw7851001871330779277 : True := trivial
theorem tw779556269245568972 : True := trivial
theorem tw769344499953637911 : True := trivial
theorem tw7497615444254005611 : True := trivial
theorem tw7203372473354867578 : True := trivial
theorem tw7137008405863734666 : True := trivial
theorem tw6733131223858622386 : True := trivial
theorem tw6666787379053218070 : True := trivial
theorem tw6432348854805521589 : True := trivial
theorem tw6250426539267415456 : True := trivial
theorem tw6103859014559316570 : True := trivial
theorem tw5965463695722752002 : True := trivial
theorem tw5749109009930874608 : True := trivial
theorem tw5700198657351751885 : True := trivial
theorem tw5693534530526975264 : True := trivial
theorem tw562462240831306244 : True := trivial
theorem tw5568907133976211188 : True := trivial
theorem tw4936069540994523140 : True := trivial
theorem tw4855663392127378817 : True := trivial
theorem tw4600189565468709803 : True := trivial
theorem tw4488791429275564412 : True := trivial
theorem tw4372842146187186108 : True := trivial
theorem tw4238782050688477203 : True := trivial
theorem tw3944350240438514620 : True := trivial
theorem tw3929089397752809795 : True := trivial
theorem tw3721700518769815177 : True := trivial
theorem tw3711295750040586328 : True := trivial
theorem tw3621736227374605076 : True := trivial
theorem tw329355691306691726 : True := trivial
theorem tw2795167085048707996 : True := trivial
theorem tw2259584564837294745 : True := trivial
theorem tw2178224070383031361 : True := trivial
theorem tw1857063011382136129 : True := trivial
theorem tw18363851403268180914 : True := trivial
theorem tw17974725157840633208 : True := trivial
theorem tw17866059121708855243 : True := trivial
theorem tw17818801805475068083 : True := trivial
theorem tw17629309219934472059 : True := trivial
theorem tw1722757818907069450 : True := trivial
theorem tw16787001909685358643 : True := trivial
theorem tw16769378644449808329 : True := trivial
theorem tw16766841252468157052 : True := trivial
theorem tw16487738067801398747 : True := trivial
theorem tw16465574368063685751 : True := trivial
theorem tw16004741767154264421 : True := trivial
theorem tw15873634924726734939 : True := trivial
theorem tw15766288272752918598 : True := trivial
theorem tw1568013418954089761 : True := trivial
theorem tw15527197460221829774 : True := trivial
theorem tw15418995430852086785 : True := trivial
theorem tw15215269574230877953 : True := trivial
theorem tw15212632855164709356 : True := trivial
theorem tw15167954881453627464 : True := trivial
theorem tw1444677607134306547 : True := trivial
theorem tw14146355623250045506 : True := trivial
theorem tw14099146943957372083 : True := trivial
theorem tw13421727386359421836 : True := trivial
theorem tw13361360322975871585 : True := trivial
theorem tw13334766476156941850 : True := trivial
theorem tw13161233825382028332 : True := trivial
theorem tw12892691641407116087 : True := trivial
theorem tw1285761553192839719 : True := trivial
theorem tw12731204069271773003 : True := trivial
theorem tw12474191600386915082 : True := trivial
theorem tw11867441072323597910 : True := trivial
theorem tw1161745606274550745 : True := trivial
theorem tw11589098445172461756 : True := trivial
theorem tw11557456721246521215 : True := trivial
theorem tw11528565462721236200 : True := trivial
theorem tw11463023227474526088 : True := trivial
theorem tw1139513313300651921 : True := trivial
theorem tw11391542807770027207 : True := trivial
theorem tw11371719095474753761 : True := trivial
theorem tw11260258064997707711 : True := trivial
theorem tw10973187931029489326 : True := trivial
theorem tw10561126251252757747 : True := trivial
theorem tw10129871134582954273 : True := trivial
theorem tw9847401271090545612 : True := trivial
theorem tw9771796866576002327 : True := trivial
theorem tw8449976004910432412 : True := trivial
theorem tw8430640876186479073 : True := trivial
theorem tw768266586247085600 : True := trivial
theorem tw6192766077544907137 : True := trivial
theorem tw6036450891663745950 : True := trivial
theorem tw5923036206574568830 : True := trivial
theorem tw4834438186169088571 : True := trivial
theorem tw455172142683704219 : True := trivial
theorem tw4367655107295387349 : True := trivial
theorem tw4220937369010256770 : True := trivial
theorem tw4154164992934451342 : True := trivial
theorem tw3834861763956909508 : True := trivial
theorem tw3560346393983615078 : True := trivial
theorem tw2856020245767693808 : True := trivial
theorem tw2392320180953606119 : True := trivial
theorem tw2255714790490031940 : True := trivial
theorem tw2120981026936076705 : True := trivial
theorem tw2059363681796541097 : True := trivial
theorem tw189851269130956141 : True := trivial
theorem tw17924832914031181606 : True := trivial
theorem tw17422477979591044301 : True := trivial
theorem tw17359219792929410639 : True := trivial
theorem tw17198685342231277631 : True := trivial
theorem tw16863037555848137948 : True := trivial
theorem tw16306279837873896673 : True := trivial
theorem tw16267922218219326791 : True := trivial
theorem tw16243882184797940417 : True := trivial
theorem tw16064255771499937799 : True := trivial
theorem tw15747152455660025081 : True := trivial
theorem tw15455523942451410252 : True := trivial
theorem tw13976936101951826264 : True := trivial
theorem tw13434988635188978532 : True := trivial
theorem tw12735881846138269082 : True := trivial
theorem tw1265614290120248531 : True := trivial
theorem tw1224877185165063342 : True := trivial
theorem tw12041044774991883915 : True := trivial
theorem tw11780565900395914656 : True := trivial
theorem tw11486036391845371642 : True := trivial
theorem tw11016976384879117468 : True := trivial
theorem tw1075054686254297129 : True := trivial
theorem tw10159792869161729826 : True := trivial
theorem tw9927388065831897668 : True := trivial
theorem tw9799497180816835832 : True := trivial
theorem tw968584936177211587 : True := trivial
theorem tw9588473952423004263 : True := trivial
theorem tw9532420857423194201 : True := trivial
theorem tw9494597459280357987 : True := trivial
theorem tw9450657558652773392 : True := trivial
theorem tw9304314175583040182 : True := trivial
theorem tw9205641493191977905 : True := trivial
theorem tw9169170220295340205 : True := trivial
theorem tw9077206973684742761 : True := trivial
theorem tw8913750832516016411 : True := trivial
theorem tw8721266936897197314 : True := trivial
theorem tw8582017945653053415 : True := trivial
theorem tw8150858460213631636 : True := trivial
theorem tw7912985224169484540 : True := trivial
theorem tw7901069102285526309 : True := trivial
theorem tw7825906224621351394 : True := trivial
theorem tw7716448060424289887 : True := trivial
theorem tw7433686333712929948 : True := trivial
theorem tw7369052888407313853 : True := trivial
theorem tw7303141500473199901 : True := trivial
theorem tw7301073050433316549 : True := trivial
theorem tw7270778522268450522 : True := trivial
theorem tw7197672541973679081 : True := trivial
theorem tw7171208635409858844 : True := trivial
theorem tw7111125385296969389 : True := trivial
theorem tw7083674837637549403 : True := trivial
theorem tw6776101083763394403 : True := trivial
theorem tw6659651646743442445 : True := trivial
theorem tw662906419110210988 : True := trivial
theorem tw6610922309142716418 : True := trivial
theorem tw6470741807525311134 : True := trivial
theorem tw6344091444881870398 : True := trivial
theorem tw6069245393691201207 : True := trivial
theorem tw6040128873654385891 : True := trivial
theorem tw6024485663035677600 : True := trivial
theorem tw5981892505283025740 : True := trivial
theorem tw5796173276687196643 : True := trivial
theorem tw5739726655800272691 : True := trivial
theorem tw5720507526711475647 : True := trivial
theorem tw5485821536801962786 : True := trivial
theorem tw5270974487932224674 : True := trivial
theorem tw5039787449492256168 : True := trivial
theorem tw4786360510004468052 : True := trivial
theorem tw4742965290689752688 : True := trivial
theorem tw4654964021704292975 : True := trivial
theorem tw4641025756190324107 : True := trivial
theorem tw4640653622242707943 : True := trivial
theorem tw4503015662406962322 : True := trivial
theorem tw4386419659683767543 : True := trivial
theorem tw4375527904935721652 : True := trivial
theorem tw4255956826428519232 : True := trivial
theorem tw4206939491685358552 : True := trivial
theorem tw4066181381396467658 : True := trivial
theorem tw3609927986213485527 : True := trivial
theorem tw3603187994193840532 : True := trivial
theorem tw3566843386985093559 : True := trivial
theorem tw3478446097302769368 : True := trivial
theorem tw3057011726765150305 : True := trivial
theorem tw2990494714864824904 : True := trivial
theorem tw2694118800096144896 : True := trivial
theorem tw2588349070922586158 : True := trivial
theorem tw2297356922488064073 : True := trivial
theorem tw191394418636166732 : True := trivial
theorem tw1896427866133243727 : True := trivial
theorem tw18425252887401566778 : True := trivial
theorem tw18351808394704586398 : True := trivial
theorem tw18163587883281227925 : True := trivial
theorem tw18107334076790778482 : True := trivial
theorem tw18105151917758390450 : True := trivial
theorem tw1780346252869601247 : True := trivial
theorem tw17474803715542984557 : True := trivial
theorem tw17323216180596729657 : True := trivial
theorem tw17188311735963739722 : True := trivial
theorem tw17165959094349386138 : True := trivial
theorem tw16975307751781200944 : True := trivial
theorem tw16752277994833802049 : True := trivial
theorem tw16707693556685443510 : True := trivial
theorem tw16625158789755394900 : True := trivial
theorem tw16474591323215701260 : True := trivial
theorem tw16399245091405441650 : True := trivial
theorem tw16367490542562465395 : True := trivial
theorem tw16350067417101965769 : True := trivial
theorem tw16297353187328599296 : True := trivial
theorem tw16264747098157255042 : True := trivial
theorem tw16028299220774180204 : True := trivial
theorem tw15871022471269686164 : True := trivial
theorem tw15750581937128965445 : True := trivial
theorem tw15663642536491690705 : True := trivial
theorem tw15570446696264521512 : True := trivial
theorem tw15451938582785772504 : True := trivial
theorem tw15308076266494920856 : True := trivial
theorem tw15262273867725190907 : True := trivial
theorem tw15184654686349187334 : True := trivial
theorem tw15162317758321846735 : True := trivial
theorem tw1503054940353489232 : True := trivial
theorem tw14922471122430696535 : True := trivial
theorem tw14565650164721742075 : True := trivial
theorem tw14300035593233300351 : True := trivial
theorem tw14007964802805484281 : True := trivial
theorem tw13819418429995754689 : True := trivial
theorem tw138012426221684905 : True := trivial
theorem tw1379574737924310100 : True := trivial
theorem tw13755170530279850924 : True := trivial
theorem tw13295274261342738889 : True := trivial
theorem tw13116854479340428621 : True := trivial
theorem tw1290674846249222960 : True := trivial
theorem tw12644572951884244289 : True := trivial
theorem tw12631667513821802466 : True := trivial
theorem tw12427558081772550153 : True := trivial
theorem tw12423004115575072973 : True := trivial
theorem tw1225165340343352999 : True := trivial
theorem tw12116603365970525436 : True := trivial
theorem tw11548895017878266065 : True := trivial
theorem tw11462507720317892646 : True := trivial
theorem tw11424879572999066206 : True := trivial
theorem tw11316611970097675439 : True := trivial
theorem tw11226248480482395873 : True := trivial
theorem tw11047057225037583293 : True := trivial
theorem tw10564027818643767657 : True := trivial
theorem tw1048250617803019106 : True := trivial
end PySem.W.Fast
open PySem PySem.W PyProof.Rows
set_option maxRecDepth 100000 in
set_option maxHeartbeats 0 in
theorem PySem.Challenge.cw_stairrooms_k10_stairs_refused_holds : PySem.Challenge.rw_stairrooms_k10_stairs_refused.Holds := by
  w_on; o_law; k_head; (case hw => w_witness2)
  k_fill
  refine My.walk (l := PySem.Challenge.rw_stairrooms_k10_stairs_refused) rfl rfl (fun w h Y => PySem.W.km_in_of Y) (fun w => by kernel_rfl) ?R (fun w => ?Tb) (fun w => My.dis_of (by kernel_rfl)) ?F
  case R => intro y hy; simp only [List.mem_cons, List.not_mem_nil, or_false] at hy; rcases hy with rfl | rfl | rfl | rfl <;> kernel_rfl
  case Tb => intro y hy; simp only [List.mem_cons, List.not_mem_nil, or_false] at hy; rcases hy with rfl | rfl | rfl | rfl <;> kernel_rfl
  case F =>
    intro w mg fa h KX G hmg
    refine' My.all_mk KX G hmg ?a0 ?l0 ?c0 ?k0 ?a1 ?l1 ?c1 ?k1 ?a2 ?l2 ?c2 ?k2 ?a3 ?l3 ?c3 ?k3 ?a4 ?l4 ?c4 ?k4 ?a5 ?l5 ?c5 ?k5 ?a6 ?l6 ?c6 ?k6 ?a7 ?l7 ?c7 ?k7 ?a8 ?l8 ?c8 ?k8 ?a9 ?l9 ?c9 ?k9 ?a10 ?l10 ?c10 ?k10 ?a11 ?l11 ?c11 ?k11 ?a12 ?l12 ?c12 ?k12 ?a13 ?l13 ?c13 ?k13 ?a14 ?l14 ?c14 ?k14 ?a15 ?l15 ?c15 ?k15 ?a16 ?l16 ?c16 ?k16 ?a17 ?l17 ?c17 ?k17 ?a18 ?l18 ?c18 ?k18 ?a19 ?l19 ?c19 ?k19 ?a20 ?l20 ?c20 ?k20 ?a21 ?l21 ?c21 ?k21 ?a22 ?l22 ?c22 ?k22 ?a23 ?l23 ?c23 ?k23 ?a24 ?l24 ?c24 ?k24 ?a25 ?l25 ?c25 ?k25 ?a26 ?l26 ?c26 ?k26 ?a27 ?l27 ?c27 ?k27 ?a28 ?l28 ?c28 ?k28 ?a29 ?l29 ?c29 ?k29 ?a30 ?l30 ?c30 ?k30 ?a31 ?l31 ?c31 ?k31 ?a32 ?l32 ?c32 ?k32 ?a33 ?l33 ?c33 ?k33 ?a34 ?l34 ?c34 ?k34 ?a35 ?l35 ?c35 ?k35 ?a36 ?l36 ?c36 ?k36 ?a37 ?l37 ?c37 ?k37 ?a38 ?l38 ?c38 ?k38 ?a39 ?l39 ?c39 ?k39 ?z0 ?z1 ?z2 ?z3 ?z4 ?z5 ?z6 ?z7 ?z8 ?z9 ?z10 ?z11 ?z12 ?v0 ?v1 ?v2  ?hxf
    (case a0 => k_is); (case l0 => k_is); (case c0 => k_is); (case k0 => k_is)
    (case a1 => k_is); (case l1 => k_is); (case c1 => k_is); (case k1 => k_is)
    (case a2 => k_is); (case l2 => k_is); (case c2 => k_is); (case k2 => k_is)
    (case a3 => k_is); (case l3 => k_is); (case c3 => k_is); (case k3 => k_is)
    (case a4 => k_is); (case l4 => k_is); (case c4 => k_is); (case k4 => k_is)
    (case a5 => k_is); (case l5 => k_is); (case c5 => k_is); (case k5 => k_is)
    (case a6 => k_is); (case l6 => k_is); (case c6 => k_is); (case k6 => k_is)
    (case a7 => k_is); (case l7 => k_is); (case c7 => k_is); (case k7 => k_is)
    (case a8 => k_is); (case l8 => k_is); (case c8 => k_is); (case k8 => k_is)
    (case a9 => k_is); (case l9 => k_is); (case c9 => k_is); (case k9 => k_is)
    (case a10 => k_is); (case l10 => k_is); (case c10 => k_is); (case k10 => k_is)
    (case a11 => k_is); (case l11 => k_is); (case c11 => k_is); (case k11 => k_is)
    (case a12 => k_is); (case l12 => k_is); (case c12 => k_is); (case k12 => k_is)
    (case a13 => k_is); (case l13 => k_is); (case c13 => k_is); (case k13 => k_is)
    (case a14 => k_is); (case l14 => k_is); (case c14 => k_is); (case k14 => k_is)
    (case a15 => k_is); (case l15 => k_is); (case c15 => k_is); (case k15 => k_is)
    (case a16 => k_is); (case l16 => k_is); (case c16 => k_is); (case k16 => k_is)
    (case a17 => k_is); (case l17 => k_is); (case c17 => k_is); (case k17 => k_is)
    (case a18 => k_is); (case l18 => k_is); (case c18 => k_is); (case k18 => k_is)
    (case a19 => k_is); (case l19 => k_is); (case c19 => k_is); (case k19 => k_is)
    (case a20 => k_is); (case l20 => k_is); (case c20 => k_is); (case k20 => k_is)
    (case a21 => k_is); (case l21 => k_is); (case c21 => k_is); (case k21 => k_is)
    (case a22 => k_is); (case l22 => k_is); (case c22 => k_is); (case k22 => k_is)
    (case a23 => k_is); (case l23 => k_is); (case c23 => k_is); (case k23 => k_is)
    (case a24 => k_is); (case l24 => k_is); (case c24 => k_is); (case k24 => k_is)
    (case a25 => k_is); (case l25 => k_is); (case c25 => k_is); (case k25 => k_is)
    (case a26 => k_is); (case l26 => k_is); (case c26 => k_is); (case k26 => k_is)
    (case a27 => k_is); (case l27 => k_is); (case c27 => k_is); (case k27 => k_is)
    (case a28 => k_is); (case l28 => k_is); (case c28 => k_is); (case k28 => k_is)
    (case a29 => k_is); (case l29 => k_is); (case c29 => k_is); (case k29 => k_is)
    (case a30 => k_is); (case l30 => k_is); (case c30 => k_is); (case k30 => k_is)
    (case a31 => k_is); (case l31 => k_is); (case c31 => k_is); (case k31 => k_is)
    (case a32 => k_is); (case l32 => k_is); (case c32 => k_is); (case k32 => k_is)
    (case a33 => k_is); (case l33 => k_is); (case c33 => k_is); (case k33 => k_is)
    (case a34 => k_is); (case l34 => k_is); (case c34 => k_is); (case k34 => k_is)
    (case a35 => k_is); (case l35 => k_is); (case c35 => k_is); (case k35 => k_is)
    (case a36 => k_is); (case l36 => k_is); (case c36 => k_is); (case k36 => k_is)
    (case a37 => k_is); (case l37 => k_is); (case c37 => k_is); (case k37 => k_is)
    (case a38 => k_is); (case l38 => k_is); (case c38 => k_is); (case k38 => k_is)
    (case a39 => k_is); (case l39 => k_is); (case c39 => k_is); (case k39 => k_is)
    (case z0 => k_is)
    (case z1 => k_is)
    (case z2 => k_is)
    (case z3 => k_is)
    (case z4 => k_is)
    (case z5 => k_is)
    (case z6 => k_is)
    (case z7 => k_is)
    (case z8 => k_is)
    (case z9 => k_is)
    (case z10 => k_is)
    (case z11 => k_is)
    (case z12 => k_is)
    (case v0 => k_is)
    (case v1 => k_is)
    (case v2 => k_is)
    (case hxf => first | kernel_rfl | k_is)
