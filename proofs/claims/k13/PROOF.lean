import PyProof.Rows.All
import Wide.All
import OpenK.AllK
import Wide.FinOn
import Lean
import PyProof.EqAt
import PyProof.EqKinds
import PyProof.TupleCall
import KE.KLam
import PySem.Challenge.RW_stairrooms_k13_is_house
set_option Elab.async false
set_option linter.all false
set_option maxRecDepth 100000
namespace L2
open PySem PySem.Spec PyProof.Rows
abbrev Key := Sum Int Str
def keyIs : Key → Value → Bool
  | .inl k, v => Value.isInt k v
  | .inr x, v => Value.isStrOf x v
def keyH (w : World) : Key → Int
  | .inl k => hashInt k
  | .inr x => hashStr w x
theorem keyIs_shape : ∀ {k : Key} {v : Value}, keyIs k v = true → (∃ i t, k = Sum.inl i ∧ v = Value.int i t) ∨ (∃ x t, k = Sum.inr x ∧ v = Value.str x t)
  | .inl i, v, h => by
    obtain ⟨t, e⟩ := Value.isInt_shape (k := i) (v := v) h
    exact .inl ⟨i, t, rfl, e⟩
  | .inr x, v, h => by
    obtain ⟨t, e⟩ := Value.isStrOf_shape (x := x) (v := v) h
    exact .inr ⟨x, t, rfl, e⟩
theorem keyIs_int (i : Int) (t : Tok) : keyIs (.inl i) (.int i t) = true := by simp [keyIs, Value.isInt]
theorem keyIs_str (x : Str) (t : Tok) : keyIs (.inr x) (.str x t) = true := by simp [keyIs, Value.isStrOf]
theorem key_ll (a b : Int) : decide ((Sum.inl a : Key) = Sum.inl b) = (a == b) := by
  by_cases e : a = b
  · subst e; simp
  · have h : ¬ (Sum.inl a : Key) = Sum.inl b := fun q => e (Sum.inl.inj q)
    rw [decide_eq_false h]
    exact (beq_eq_false_iff_ne.mpr e).symm
theorem key_rr (a b : Str) : decide ((Sum.inr a : Key) = Sum.inr b) = decide (a = b) := by
  by_cases e : a = b
  · subst e; simp
  · have h : ¬ (Sum.inr a : Key) = Sum.inr b := fun q => e (Sum.inr.inj q)
    rw [decide_eq_false h, decide_eq_false e]
theorem key_lr (a : Int) (b : Str) : decide ((Sum.inl a : Key) = Sum.inr b) = false := decide_eq_false (fun q => nomatch q)
theorem key_rl (a : Str) (b : Int) : decide ((Sum.inr a : Key) = Sum.inl b) = false := decide_eq_false (fun q => nomatch q)
def mixKind (prog : Program) (w : World) : PySem.KeyKind prog w Key where
  is := keyIs
  hash := keyH w
  inj := fun v a b ha hb => by
    rcases keyIs_shape ha with ⟨i, t, rfl, rfl⟩ | ⟨x, t, rfl, rfl⟩
    · rcases keyIs_shape hb with ⟨j, u, rfl, e⟩ | ⟨y, u, rfl, e⟩
      · injection e with e1 _; rw [e1]
      · exact nomatch e
    · rcases keyIs_shape hb with ⟨j, u, rfl, e⟩ | ⟨y, u, rfl, e⟩
      · exact nomatch e
      · injection e with e1 _; rw [e1]
  byValue := fun k v h => by
    rcases keyIs_shape h with ⟨i, t, rfl, rfl⟩ | ⟨x, t, rfl, rfl⟩ <;> rfl
  pyHash := fun hv h => by
    rcases keyIs_shape hv with ⟨i, t, rfl, rfl⟩ | ⟨x, t, rfl, rfl⟩
    · exact wpAny_pyHash_int h
    · exact wpAny_pyHash_str h
  eqBool := fun hu hv h => by
    rcases keyIs_shape hu with ⟨i, t, rfl, rfl⟩ | ⟨x, t, rfl, rfl⟩
    · rcases keyIs_shape hv with ⟨j, u, rfl, rfl⟩ | ⟨y, u, rfl, rfl⟩
      · rw [key_ll] at h; exact wpAny_eqBool_int h
      · rw [key_lr] at h; exact SeqAt.EqAt.int_str i t y u _ _ _ _ h
    · rcases keyIs_shape hv with ⟨j, u, rfl, rfl⟩ | ⟨y, u, rfl, rfl⟩
      · rw [key_rl] at h; exact SeqAt.EqAt.str_int x t j u _ _ _ _ h
      · rw [key_rr] at h; exact wpAny_eqBool_str h
  «strs» := fun k x t v h => by
    rcases keyIs_shape h with ⟨i, u, rfl, e⟩ | ⟨y, u, rfl, e⟩
    · exact nomatch e
    · injection e with e1 _
      subst e1
      cases v <;> rfl
theorem mixKind_int (prog : Program) (w : World) (i : Int) (t : Tok) : (mixKind prog w).is (.inl i) (.int i t) = true := keyIs_int i t
theorem mixKind_str (prog : Program) (w : World) (x : Str) (t : Tok) : (mixKind prog w).is (.inr x) (.str x t) = true := keyIs_str x t
end L2
namespace L2
open PySem PySem.Spec PyProof.Rows
inductive V where
  | non | bl (b : Bool) | int (i : Int) | str (x : Str) | byt (b : Array UInt8) | flt (b : UInt64) | ref (a : Addr) | ty (n : String)
  deriving DecidableEq
def RelV : V → Value → Prop
  | .non, u => u = Value.none
  | .bl b, u => u = Value.bool b
  | .int i, u => ∃ t, u = Value.int i t
  | .str x, u => ∃ t, u = Value.str x t
  | .byt b, u => ∃ t, u = Value.bytes b t
  | .flt b, u => ∃ t, u = Value.float b t
  | .ref a, u => u = Value.ref a
  | .ty n, u => u = Value.type n
abbrev Vals : List V → List Value → Prop := Paired RelV
theorem Vals.length {xs : List V} {us : List Value} (r : Vals xs us) : xs.length = us.length := Paired.length r
theorem Vals.get : ∀ {xs : List V} {us : List Value} {i : Nat} {x : V}, Vals xs us → xs[i]? = some x → ∃ u, us[i]? = some u ∧ RelV x u
  | _, _, _, _, .nil, e => by simp at e
  | _, _, 0, _, .cons r _, e => by simp at e; subst e; exact ⟨_, rfl, r⟩
  | _, _, i + 1, x, .cons _ t, e => by
    obtain ⟨u, h1, h2⟩ := Vals.get (i := i) (x := x) t (by simpa using e)
    exact ⟨u, by simpa using h1, h2⟩
theorem Vals.append : ∀ {xs ys : List V} {us ws : List Value}, Vals xs us → Vals ys ws → Vals (xs ++ ys) (us ++ ws)
  | _, _, _, _, .nil, s => s
  | _, _, _, _, .cons r t, s => .cons r (Vals.append t s)
theorem Vals.take : ∀ {xs : List V} {us : List Value} (n : Nat), Vals xs us → Vals (xs.take n) (us.take n)
  | _, _, 0, _ => .nil
  | _, _, _ + 1, .nil => .nil
  | _, _, n + 1, .cons r t => .cons r (Vals.take n t)
theorem Vals.drop : ∀ {xs : List V} {us : List Value} (n : Nat), Vals xs us → Vals (xs.drop n) (us.drop n)
  | _, _, 0, r => r
  | _, _, _ + 1, .nil => .nil
  | _, _, n + 1, .cons _ t => Vals.drop n t
def RelO : Option V → Option Value → Prop
  | some v, some u => RelV v u
  | none, none => True
  | _, _ => False
def KV {κ : Type} : List (κ × V) → List (κ × Value) → Prop := Paired fun (p : κ × V) (q : κ × Value) => p.1 = q.1 ∧ RelV p.2 q.2
def kV : Key → V
  | .inl i => .int i
  | .inr x => .str x
inductive HO where
  /-- a list -/
  | lst (xs : List V)
  /-- a tuple (never changes) -/
  | tup (xs : List V)
  /-- a dict whose keys are ints and texts; one whose keys are tuples of ints and texts (the empty one is both) -/
  | dK (kvs : List (Key × V)) | dT (kvs : List (List Key × V))
  /-- a set of ints: its members, its size -/
  | set (S : Int → Bool) (n : Nat)
  /-- an instance of the class at C, its dict at dx, its attributes -/
  | ins (C dx : Addr) (fs : List (Str × V))
  /-- the dict of the instance at x -/
  | own (x : Addr)
  /-- the dict of an exception -/
  | xd (fs : List (Str × V))
  /-- a bound method, f of x -/
  | met (f x : Addr)
  /-- a range object lo, lo + 1, .. below hi -/
  | rng (lo hi : Int)
  /-- a thing that is known to the object (the script; a dict while a loop walks it): read, never written while it is so -/
  | frz (o : Obj) (u : HO)
  /-- a code object's table -/
  | tbl (ps : Array Value)
  /-- any other thing, by what is true of its one object (a def of one's own: SetO a S n := HO.ext fun h => ..) -/
  | ext (φ : Heap → Prop)
abbrev Hp := Addr → Option HO
def upd (H : Hp) (a : Addr) (o : HO) : Hp := fun b => if b = a then some o else H b
theorem upd_same {H : Hp} {a : Addr} {o : HO} : upd H a o a = some o := by unfold upd; rw [if_pos rfl]
theorem upd_ne {H : Hp} {a b : Addr} {o : HO} (h : b ≠ a) : upd H a o b = H b := by unfold upd; rw [if_neg h]
theorem ne_of {H : Hp} {a b : Addr} {o u : HO} (h : H a = some o) (h' : H b = some u) (d : o ≠ u) : a ≠ b := by
  intro e; subst e; rw [h] at h'; exact d (Option.some.inj h')
theorem ne_of_none {H : Hp} {a b : Addr} {o : HO} (h : H a = some o) (h' : H b = none) : a ≠ b := by
  intro e; subst e; rw [h] at h'; cases h'
section
variable (P : Program) (w : World)
def ObjOk (H : Hp) (h : Heap) (a : Addr) : HO → Prop
  | .lst xs => xs.length ≤ sizeLine ∧ ∃ (its : List Value) (n : Nat), Vals xs its ∧ h.get? a = some { cls := .type "list", data := .seq its.toArray n }
  | .tup xs => xs.length ≤ sizeLine ∧ ∃ its : List Value, Vals xs its ∧ IsTup h a its.toArray
  | .dK kvs => kvs.length ≤ sizeLine ∧ (a == sysModules) = false ∧ ∃ vs, KV kvs vs ∧ h.DictOf (mixKind P w) a vs
  | .dT kvs => kvs.length ≤ sizeLine ∧ (a == sysModules) = false ∧ ∃ xs : List (List Key × Addr × Value),
      Paired (fun (p : List Key × V) (q : List Key × Addr × Value) => p.1 = q.1 ∧ H q.2.1 = some (.tup (p.1.map kV)) ∧ RelV p.2 q.2.2) kvs xs ∧
      ∃ o es ep, h.get? a = some o ∧ o.ExactDict ∧ o.data = .dict es ep ∧ es.toList = xs.map (entryOfKey (tupleKind (mixKind P w))) ∧ (xs.map (·.1)).Nodup
  | .set S n => h.SetOf (intKind P w) a S n
  | .ins C dx fs => H dx = some (.own a) ∧ fs.length ≤ 1000 ∧ dx ≠ a ∧ h.get? a = some (PySem.W.instObj C dx) ∧
      ∃ mA, h.Ns1 dx mA ∧ (∀ f, RelO (fs.lookup f) (mA f)) ∧ PySem.Within mA (fs.map (·.1))
  | .own _ => ∃ o, h.get? a = some o
  | .xd fs => ∃ mA, h.Ns1 a mA ∧ ∀ f, RelO (fs.lookup f) (mA f)
  | .rng lo hi => ∃ t u v, h.get? a = some { cls := .type "range", data := .fields #[.int lo t, .int hi u, .int 1 v] }
  | .frz o u => h.get? a = some o ∧ ObjOk H h a u
  | .tbl ps => h.get? a = some { cls := .none, data := .fields ps }
  | .met f x => h.get? a = some (PySem.W.methodObj (.ref f) (.ref x))
  | .ext φ => φ h ∧ (∃ o, h.get? a = some o) ∧ ∀ h1 h2 : Heap, φ h1 → (∀ o, h1.get? a = some o → h2.get? a = some o) → φ h2
def HOk (H : Hp) (h : Heap) : Prop := ∀ a o, H a = some o → ObjOk P w H h a o
end
section
variable {P : Program} {w : World} {H H' : Hp} {h h' : Heap} {a : Addr} {o : HO}
theorem ObjOk.lt (x : ObjOk P w H h a o) : a < h.objs.size := by
  cases o with
  | lst xs => obtain ⟨_, _, _, _, e⟩ := x; exact Heap.lt_size e
  | tup xs => obtain ⟨_, _, _, p⟩ := x; exact p.lt
  | dK kvs => obtain ⟨_, _, _, _, o, _, _, e, _⟩ := x; exact Heap.lt_size e
  | dT kvs => obtain ⟨_, _, _, _, o, _, _, e, _⟩ := x; exact Heap.lt_size e
  | set S n => obtain ⟨o, _, _, _, e, _⟩ := x; exact Heap.lt_size e
  | ins C dx fs => obtain ⟨_, _, _, e, _⟩ := x; exact Heap.lt_size e
  | own y => obtain ⟨_, e⟩ := x; exact Heap.lt_size e
  | xd fs => obtain ⟨_, ⟨_, _, _, e, _⟩, _⟩ := x; exact Heap.lt_size e
  | rng lo hi => obtain ⟨_, _, _, e⟩ := x; exact Heap.lt_size e
  | frz ob u => obtain ⟨e, _⟩ := x; exact Heap.lt_size e
  | tbl ps => exact Heap.lt_size (show h.get? a = some _ from x)
  | met f y => exact Heap.lt_size (show h.get? a = some _ from x)
  | ext φ => obtain ⟨_, ⟨_, e⟩, _⟩ := x; exact Heap.lt_size e
theorem Paired.mapP {α β : Type} {F G : α → β → Prop} : ∀ {l₁ : List α} {l₂ : List β}, Paired F l₁ l₂ → (∀ a b, F a b → G a b) → Paired G l₁ l₂
  | _, _, .nil, _ => .nil
  | _, _, .cons r t, f => .cons (f _ _ r) (Paired.mapP t f)
theorem ObjOk.stay (x : ObjOk P w H h a o) (k : ∀ b u, (b = a ∨ H b = some (.own a)) → h.get? b = some u → h'.get? b = some u)
    (ho : ∀ b, H b = some (.own a) → H' b = some (.own a)) (ht : ∀ b xs, H b = some (.tup xs) → H' b = some (.tup xs)) : ObjOk P w H' h' a o := by
  induction o with
  | lst xs => obtain ⟨z, its, n, r, e⟩ := x; exact ⟨z, its, n, r, k _ _ (.inl rfl) e⟩
  | tup xs => obtain ⟨z, its, r, ob, e, c⟩ := x; exact ⟨z, its, r, ob, k _ _ (.inl rfl) e, c⟩
  | dK kvs => obtain ⟨z, y, vs, r, ob, es, ep, e, c⟩ := x; exact ⟨z, y, vs, r, ob, es, ep, k _ _ (.inl rfl) e, c⟩
  | dT kvs =>
    obtain ⟨z, y, xs, r, ob, es, ep, e, c⟩ := x
    exact ⟨z, y, xs, Paired.mapP r fun p q z => ⟨z.1, ht _ _ z.2.1, z.2.2⟩, ob, es, ep, k _ _ (.inl rfl) e, c⟩
  | set S n => obtain ⟨ob, es, ep, t, e, c⟩ := x; exact ⟨ob, es, ep, t, k _ _ (.inl rfl) e, c⟩
  | ins C dx fs =>
    obtain ⟨d, z, ne, e, mA, ⟨od, es, ep, e2, c⟩, r⟩ := x
    exact ⟨ho _ d, z, ne, k _ _ (.inl rfl) e, mA, ⟨od, es, ep, k _ _ (.inr d) e2, c⟩, r⟩
  | own y => obtain ⟨ob, e⟩ := x; exact ⟨ob, k _ _ (.inl rfl) e⟩
  | xd fs => obtain ⟨mA, ⟨od, es, ep, e, c⟩, r⟩ := x; exact ⟨mA, ⟨od, es, ep, k _ _ (.inl rfl) e, c⟩, r⟩
  | rng lo hi => obtain ⟨t, u, v, e⟩ := x; exact ⟨t, u, v, k _ _ (.inl rfl) e⟩
  | frz ob u ih => obtain ⟨e, q⟩ := x; exact ⟨k _ _ (.inl rfl) e, ih q⟩
  | tbl ps =>
    have e : h.get? a = some { cls := .none, data := .fields ps } := x
    show h'.get? a = some { cls := .none, data := .fields ps }
    exact k a _ (.inl rfl) e
  | met f y =>
    have e : h.get? a = some (PySem.W.methodObj (.ref f) (.ref y)) := x
    show h'.get? a = some (PySem.W.methodObj (.ref f) (.ref y))
    exact k a _ (.inl rfl) e
  | ext φ => obtain ⟨p, ⟨o, e⟩, st⟩ := x; exact ⟨st _ _ p fun o q => k _ _ (.inl rfl) q, ⟨o, k _ _ (.inl rfl) e⟩, st⟩
theorem HOk.lt (x : HOk P w H h) (e : H a = some o) : a < h.objs.size := (x a o e).lt
theorem HOk.fresh (x : HOk P w H h) (e : h.objs.size ≤ a) : H a = none := by
  cases q : H a with
  | none => rfl
  | some u => exact absurd (Nat.lt_of_lt_of_le (x.lt q) e) (Nat.lt_irrefl _)
theorem HOk.kept (x : HOk P w H h) (k : ∀ b u, h.get? b = some u → h'.get? b = some u) : HOk P w H h' := fun a o e =>
  (x a o e).stay (fun b u _ q => k b u q) (fun _ q => q) fun _ _ q => q
theorem HOk.laid (x : HOk P w H h) (k : ∀ b u, h.get? b = some u → h'.get? b = some u) (hp : h.objs.size ≤ a) (new : ObjOk P w (upd H a o) h' a o) : HOk P w (upd H a o) h' := fun b u e => by
  have hn := x.fresh hp
  by_cases hb : b = a
  · subst hb; rw [upd_same] at e; cases e; exact new
  · rw [upd_ne hb] at e
    exact (x b u e).stay (fun c v _ q => k c v q) (fun c q => by rw [upd_ne (ne_of_none q hn)]; exact q) fun c xs q => by rw [upd_ne (ne_of_none q hn)]; exact q
end
def Rd (H : Hp) (a : Addr) (u : HO) : Prop := H a = some u ∨ ∃ o, H a = some (.frz o u)
theorem Rd.ok {P : Program} {w : World} {H : Hp} {h : Heap} {a : Addr} {u : HO} (r : Rd H a u) (x : HOk P w H h) : ObjOk P w H h a u := by
  rcases r with r | ⟨o, r⟩
  · exact x a u r
  · obtain ⟨_, q⟩ := x a _ r
    exact q
def Mut : Option HO → Prop
  | some (.lst _) => True
  | some (.dK _) => True
  | some (.dT _) => True
  | some (.set _ _) => True
  | some (.ins _ _ _) => True
  | some (.ext _) => True
  | _ => False
section
variable {P : Program} {w : World} {H : Hp} {h h' : Heap} {x e : Addr} {o' : HO}
theorem HOk.write (ok : HOk P w H h) (mu : Mut (H x)) (he : e = x ∨ H e = some (.own x)) (k : ∀ b u, b ≠ e → h.get? b = some u → h'.get? b = some u) (heo : ∃ u, h'.get? e = some u)
    (new : ObjOk P w (upd H x o') h' x o') : HOk P w (upd H x o') h' := fun b u q => by
  have nown : ∀ c y, H c = some (.own y) → c ≠ x := fun c y r z => by subst z; rw [r] at mu; exact mu
  have ntup : ∀ c xs, H c = some (.tup xs) → c ≠ x := fun c xs r z => by subst z; rw [r] at mu; exact mu
  by_cases hb : b = x
  · subst hb; rw [upd_same] at q; cases q; exact new
  · rw [upd_ne hb] at q
    by_cases hbe : b = e
    · have q' : H b = some (.own x) := by
        rcases he with z | z
        · exact absurd (hbe.trans z) hb
        · rw [hbe]; exact z
      rw [q] at q'; cases q'
      obtain ⟨v, hv⟩ := heo
      exact ⟨v, by rw [hbe]; exact hv⟩
    · refine (ok b u q).stay (fun c v hc r => k c v ?_ r) (fun c r => by rw [upd_ne (nown c b r)]; exact r) fun c xs r => by rw [upd_ne (ntup c xs r)]; exact r
      rcases hc with rfl | hc
      · exact hbe
      · rintro rfl
        rcases he with z | z
        · exact nown c b hc z
        · rw [hc] at z; cases z; exact hb rfl
end
structure Un (fs ex : List Addr) (H H' : Hp) (h h' : Heap) : Prop where
  keep : ∀ b o, h.get? b = some o → H b = none → b ∉ fs → b ∉ ex → h'.get? b = some o
  slot : ∀ b o, h.get? b = some o → H b = none → b ∈ fs → b ∉ ex → ∃ sl, h'.get? b = some { o with slots := sl }
  free : ∀ b o, h.get? b = some o → H b = none → b ∉ ex → H' b = none
  there : ∀ b o, h.get? b = some o → b ∉ ex → ∃ o', h'.get? b = some o'
  tups : ∀ b xs, H b = some (.tup xs) → H' b = some (.tup xs)
  frzs : ∀ b o u, H b = some (.frz o u) → H' b = some (.frz o u)
  tbls : ∀ b ps, H b = some (.tbl ps) → ∃ more, H' b = some (.tbl (ps ++ more))
section
variable {fs fs' ex ex' : List Addr} {H H1 H2 : Hp} {h h1 h2 h' : Heap} {a x e : Addr} {o : HO}
theorem Un.any (u : Un fs ex H H1 h h1) {b : Addr} {ob : Obj} (q : h.get? b = some ob) (n : H b = none) (hx : b ∉ ex) : ∃ sl, h1.get? b = some { ob with slots := sl } := by
  by_cases hb : b ∈ fs
  · exact u.slot b ob q n hb hx
  · exact ⟨ob.slots, u.keep b ob q n hb hx⟩
theorem Un.kept (k : ∀ b u, h.get? b = some u → h'.get? b = some u) : Un fs ex H H h h' :=
  ⟨fun b ob q _ _ _ => k b ob q, fun b ob q _ _ _ => ⟨ob.slots, k b ob q⟩, fun _ _ _ n _ => n, fun b ob q _ => ⟨ob, k b ob q⟩, fun _ _ q => q, fun _ _ _ q => q, fun _ ps q => ⟨#[], by rw [q]; simp⟩⟩
theorem Un.refl : Un fs ex H H h h := Un.kept fun _ _ q => q
theorem Un.laid (k : ∀ b u, h.get? b = some u → h'.get? b = some u) (hp : h.objs.size ≤ a) (hn : H a = none) : Un fs ex H (upd H a o) h h' where
  keep := fun b u q _ _ _ => k b u q
  slot := fun b u q _ _ _ => ⟨u.slots, k b u q⟩
  free := fun b u q n _ => by rw [upd_ne (Nat.ne_of_lt (Nat.lt_of_lt_of_le (Heap.lt_size q) hp))]; exact n
  there := fun b u q _ => ⟨u, k b u q⟩
  tups := fun b xs q => by rw [upd_ne (ne_of_none q hn)]; exact q
  frzs := fun b u xs q => by rw [upd_ne (ne_of_none q hn)]; exact q
  tbls := fun b ps q => ⟨#[], by rw [upd_ne (ne_of_none q hn), q]; simp⟩
theorem Un.write (mu : Mut (H x)) (he : e = x ∨ H e = some (.own x)) (k : ∀ b u, b ≠ e → h.get? b = some u → h'.get? b = some u) (heo : ∃ u, h'.get? e = some u) : Un fs ex H (upd H x o) h h' := by
  have hx : ∀ b, H b = none → b ≠ x := fun b n z => by subst z; rw [n] at mu; exact mu
  have hb : ∀ b, H b = none → b ≠ e := fun b n z => by
    subst z
    rcases he with r | r
    · exact hx b n r
    · rw [n] at r; cases r
  have hm : ∀ b u, H b = some u → ¬ Mut (some u) → b ≠ x := fun b u q nm z => by subst z; rw [q] at mu; exact nm mu
  refine ⟨fun b u q n _ _ => k b u (hb b n) q, fun b u q n _ _ => ⟨u.slots, k b u (hb b n) q⟩, fun b u q n _ => by rw [upd_ne (hx b n)]; exact n, fun b u q _ => ?_,
    fun b xs q => by rw [upd_ne (hm b _ q fun z => z)]; exact q, fun b u xs q => by rw [upd_ne (hm b _ q fun z => z)]; exact q, fun b ps q => ⟨#[], by rw [upd_ne (hm b _ q fun z => z), q]; simp⟩⟩
  by_cases hbe : b = e
  · subst hbe; exact heo
  · exact ⟨u, k b u hbe q⟩
end
def trk (h : Heap) (H : Hp) : List Addr := (List.range h.objs.size).filter fun a => (H a).isSome
def hidT (h : Heap) (H : Hp) : Heap := PySem.W.hideAll h (trk h H)
theorem hidT_size (h : Heap) (H : Hp) : (hidT h H).objs.size = h.objs.size := PySem.W.hideAll_size _ _
theorem hidT_get {h : Heap} {H : Hp} {b : Addr} {o : Obj} (e : h.get? b = some o) (n : H b = none) : (hidT h H).get? b = some o :=
  PySem.W.hideAll_get _ e fun hm => by
    have q : (H b).isSome = true := (List.mem_filter.mp hm).2
    rw [n] at q; simp at q
theorem of_hidT {h : Heap} {H : Hp} {b : Addr} {o : Obj} (e : (hidT h H).get? b = some o) : h.get? b = some o ∧ H b = none := by
  have e' : h.get? b = some o := PySem.W.of_hideAll (trk h H) e
  refine ⟨e', ?_⟩
  cases q : H b with
  | none => rfl
  | some x =>
    have hm : b ∈ trk h H := List.mem_filter.mpr ⟨List.mem_range.mpr (Heap.lt_size e'), by simp [q]⟩
    have z : (hidT h H).get? b = none := PySem.W.hideAll_none (trk h H) hm
    rw [z] at e; cases e
end L2
namespace L2
open PySem PySem.Spec PyProof.Rows
structure Mod (K : PySem.W.Frag) (mg : Str → Option Value) (base : Heap) : Prop where
  kin : K.In base
  glob : base.Ns mainGlobals mg
  blt : ∃ mb, base.Ns builtinsNs mb ∧ ∀ x : Str, x ≠ "__name__" → mb x = bootBuiltins x
  nolimit : base.NoLimit
structure Cx where
  prog : Program
  w : World
  K : PySem.W.Frag
  mg : Str → Option Value
  base : Heap
  A : Around
  N : List Str
  s₀ : Shared
  H₀ : Hp
  env : Env
  outer : List Env
  stack : List Env
  ex : List Addr
  fn : Str → Bool
  calm : Bool
  pn : List (Addr × Obj)
  xe : Value → Shared → Prop
def frs (l : List Env) : List Addr := l.filterMap (·.frame)
abbrev Cx.fs (X : Cx) : List Addr := frs X.outer
def Vis (sc : Scope) (x : Str) : Prop := sc.names.lookup x = some .local ∨ sc.names.lookup x = some .cell ∨ sc.names.lookup x = some .free
def Loc (sc : Scope) (x : Str) : Prop := sc.names.lookup x = some .local ∨ sc.names.lookup x = some .cell
def Look (env : Env) (h : Heap) (m : Str → Option Value) (x : Str) (u : Value) : Prop :=
  (env.kindOf x = some .local ∧ m x = some u) ∨ ((env.kindOf x = some .cell ∨ env.kindOf x = some .free) ∧ ∃ c, env.cells.lookup x = some c ∧ h.IsCell c (some u))
structure Cx.Ok (X : Cx) : Prop where
  mod : Mod X.K X.mg X.base
  kind : X.env.scope.kind = .function
  glob : X.env.globals = mainGlobals
  blt : X.env.builtins = builtinsNs
  above : X.s₀.heap.objs.size ≤ X.env.locals
  inj : ∀ x y c, X.env.cells.lookup x = some c → X.env.cells.lookup y = some c → x = y
  has : ∀ x, (X.env.kindOf x = some .cell ∨ X.env.kindOf x = some .free) → ∃ c, X.env.cells.lookup x = some c
  cab : ∀ x c, X.fn x = true → X.env.cells.lookup x = some c → X.s₀.heap.objs.size ≤ c
  hd : X.calm = true → X.A.handled = none
  frames : X.A.frames = some X.stack
  stk : X.stack = X.outer ∨ (X.stack = X.env :: X.outer ∧ X.env.frame = some X.env.locals)
  exf : ∀ b ∈ X.ex, b ≠ X.env.locals ∧ ∀ x c, X.env.cells.lookup x = some c → c ≠ b
  bs : ∀ b o, X.base.get? b = some o → X.s₀.heap.get? b = some o ∧ X.H₀ b = none
  bsz : X.base.objs.size ≤ X.s₀.heap.objs.size
  noex : ∀ b o, X.base.get? b = some o → b ∉ X.ex
  exfs : ∀ b ∈ X.ex, b ∉ X.fs
  funs : X.s₀.heap.FunFrames X.base X.outer
  frf : ∀ b ∈ X.fs, X.H₀ b = none
structure Inv (X : Cx) (pins : List (Addr × Obj)) (σ : List (Option V)) (H : Hp) (s : Shared) : Prop where
  ok : X.Ok
  os : s.os = X.s₀.os
  bare : AllBare s.gens
  base : Un X.fs X.ex X.H₀ H X.s₀.heap s.heap
  loc : ∃ m, s.heap.Ns X.env.locals m ∧ ∀ (i : Nat) (x : Str) (v : V), X.N[i]? = some x → σ[i]? = some (some v) → Vis X.env.scope x → ∃ u, RelV v u ∧ Look X.env s.heap m x u
  cell : ∀ x c, X.env.cells.lookup x = some c → ∃ v, s.heap.IsCell c v
  free : H X.env.locals = none
  freeC : ∀ x c, X.env.cells.lookup x = some c → H c = none
  pin : ∀ p ∈ X.pn ++ pins, s.heap.get? p.1 = some p.2 ∧ H p.1 = none ∧ p.1 ≠ X.env.locals ∧ p.1 ∉ X.fs ∧ ∀ v, p.2.data ≠ .cell v
  hok : HOk X.prog X.w H s.heap
  len : σ.length = X.N.length
section
variable {X : Cx} {pins : List (Addr × Obj)} {σ : List (Option V)} {H H' : Hp} {s : Shared} {h' : Heap}
theorem Cx.Ok.nofr (ok : X.Ok) {b : Addr} {o : Obj} (e : X.base.get? b = some o) : b ∉ X.fs := fun hb => by
  have := (ok.funs.mem hb).1
  rw [e] at this; cases this
theorem Inv.bs (I : Inv X pins σ H s) : ∀ b o, X.base.get? b = some o → s.heap.get? b = some o ∧ H b = none := fun b o e =>
  ⟨I.base.keep b o (I.ok.bs b o e).1 (I.ok.bs b o e).2 (I.ok.nofr e) (I.ok.noex b o e), I.base.free b o (I.ok.bs b o e).1 (I.ok.bs b o e).2 (I.ok.noex b o e)⟩
theorem Inv.bk (I : Inv X pins σ H s) : ∀ b o, X.base.get? b = some o → s.heap.get? b = some o := fun b o e => (I.bs b o e).1
theorem Inv.mod (I : Inv X pins σ H s) : Mod X.K X.mg X.base := I.ok.mod
theorem Inv.kIn (I : Inv X pins σ H s) : X.K.In s.heap := I.ok.mod.kin.keeps I.bk
theorem Inv.lt (I : Inv X pins σ H s) : X.env.locals < s.heap.objs.size := let ⟨_, hn, _⟩ := I.loc; hn.lt
theorem Inv.sz (I : Inv X pins σ H s) : X.s₀.heap.objs.size ≤ s.heap.objs.size := Nat.le_trans I.ok.above (Nat.le_of_lt I.lt)
theorem Inv.nofs (I : Inv X pins σ H s) {a : Addr} (h : s.heap.objs.size ≤ a) : a ∉ X.fs := fun hb => by
  obtain ⟨_, o, ho, _⟩ := I.ok.funs.mem hb
  exact absurd (Nat.lt_of_lt_of_le (Heap.lt_size ho) (Nat.le_trans I.sz h)) (Nat.lt_irrefl _)
theorem Inv.cne (I : Inv X pins σ H s) : ∀ x c, X.env.cells.lookup x = some c → c ≠ X.env.locals := fun x c e z => by
  obtain ⟨v, o, ho, hd⟩ := I.cell x c e
  obtain ⟨m, ⟨o', es, ep, ho', hd', _⟩, _⟩ := I.loc
  rw [z, ho'] at ho; cases ho; rw [hd'] at hd; cases hd
theorem Inv.funs (I : Inv X pins σ H s) : s.heap.FunFrames X.base X.outer := by
  have all : ∀ (l : List Env), (∀ b ∈ frs l, b ∈ X.fs) → X.s₀.heap.FunFrames X.base l → s.heap.FunFrames X.base l := by
    intro l
    induction l with
    | nil => intro _ _; trivial
    | cons env r ih =>
      intro hs hl
      obtain ⟨hk, ⟨L, o, hf, hn, ho, hd⟩, hr⟩ := hl
      have hL : L ∈ X.fs := hs L (by unfold frs; rw [List.filterMap_cons, hf]; exact List.mem_cons_self)
      obtain ⟨sl, e⟩ := I.base.slot L o ho (I.ok.frf L hL) hL fun z => I.ok.exfs L z hL
      exact ⟨hk, ⟨L, _, hf, hn, e, hd⟩, ih (fun b hb => hs b (by unfold frs; rw [List.filterMap_cons, hf]; exact List.mem_cons_of_mem _ hb)) hr⟩
  exact all X.outer (fun _ hb => hb) I.ok.funs
theorem Inv.stack (I : Inv X pins σ H s) : s.heap.FunFrames X.base X.stack := by
  rcases I.ok.stk with e | ⟨e, hf⟩
  · rw [e]; exact I.funs
  · rw [e]
    obtain ⟨m, hn, _⟩ := I.loc
    refine .cons (by rw [I.ok.kind]; decide) hf hn ?_ I.funs
    exact Heap.get?_none_of_le (Nat.le_trans I.ok.bsz I.ok.above)
theorem Inv.stkSub (I : Inv X pins σ H s) : ∀ b ∈ frs X.stack, b ∈ X.env.locals :: X.fs := fun b hb => by
  rcases I.ok.stk with e | ⟨e, hf⟩
  · rw [e] at hb; exact List.mem_cons_of_mem _ hb
  · rw [e] at hb
    unfold frs at hb
    rw [List.filterMap_cons, hf] at hb
    exact hb
theorem Inv.stkFree (I : Inv X pins σ H s) : ∀ b ∈ frs X.stack, H b = none := fun b hb => by
  rcases List.mem_cons.mp (I.stkSub b hb) with e | hb
  · rw [e]; exact I.free
  · obtain ⟨_, o, ho, _⟩ := I.ok.funs.mem hb
    exact I.base.free b o ho (I.ok.frf b hb) fun z => I.ok.exfs b z hb
theorem Inv.step {g' : Array GenState} {t' : Nat} {d' : Drawn} {ch : List Addr} (I : Inv X pins σ H s)
    (hch : ∀ b ∈ ch, (b ∈ X.ex ∨ X.s₀.heap.objs.size ≤ b) ∧ b ≠ X.env.locals ∧ (∀ x c, X.env.cells.lookup x = some c → c ≠ b) ∧ ∀ p ∈ X.pn ++ pins, p.1 ≠ b)
    (keep : ∀ b o, b ≠ X.env.locals → b ∉ X.fs → b ∉ ch → s.heap.get? b = some o → H b = none → h'.get? b = some o)
    (slot : ∀ b o, b ≠ X.env.locals → b ∈ X.fs → b ∉ ch → s.heap.get? b = some o → H b = none → ∃ sl, h'.get? b = some { o with slots := sl }) (free : ∀ b o, b ∉ ch → s.heap.get? b = some o → H b = none → H' b = none)
    (there : ∀ b o, b ∉ ch → s.heap.get? b = some o → ∃ o', h'.get? b = some o')
    (tups : ∀ b xs, H b = some (.tup xs) → H' b = some (.tup xs)) (frzs : ∀ b o u, H b = some (.frz o u) → H' b = some (.frz o u)) (tbls : ∀ b ps, H b = some (.tbl ps) → ∃ more, H' b = some (.tbl (ps ++ more)))
    (ns : ∀ m, s.heap.Ns X.env.locals m → h'.Ns X.env.locals m) (hok : HOk X.prog X.w H' h') (hg : AllBare g') :
    Inv X pins σ H' { s with heap := h', gens := g', drawn := d', toks := t' } := by
  have neL : ∀ b o, X.s₀.heap.get? b = some o → b ≠ X.env.locals := fun b o e => Nat.ne_of_lt (Nat.lt_of_lt_of_le (Heap.lt_size e) I.ok.above)
  have neC : ∀ b o, X.s₀.heap.get? b = some o → b ∉ X.ex → b ∉ ch := fun b o e hx hb => by
    rcases (hch b hb).1 with z | z
    · exact hx z
    · exact absurd (Nat.lt_of_lt_of_le (Heap.lt_size e) z) (Nat.lt_irrefl _)
  have cellK : ∀ x c, X.env.cells.lookup x = some c → ∀ v, s.heap.IsCell c v → h'.IsCell c v := fun x c e v ⟨o, ho, hd⟩ => by
    have nch : c ∉ ch := fun z => (hch c z).2.2.1 x c e rfl
    by_cases hc : c ∈ X.fs
    · obtain ⟨sl, q⟩ := slot c o (I.cne x c e) hc nch ho (I.freeC x c e)
      exact ⟨_, q, hd⟩
    · exact ⟨o, keep c o (I.cne x c e) hc nch ho (I.freeC x c e), hd⟩
  refine ⟨I.ok, I.os, hg, ⟨fun b o e n hb hx => ?_, fun b o e n hb hx => ?_, fun b o e n hx => ?_, fun b o e hx => ?_, fun b xs e => tups b xs (I.base.tups b xs e), fun b o xs e => frzs b o xs (I.base.frzs b o xs e), fun b ps e => ?_⟩, ?_, fun x c e => ?_, ?_, fun x c e => ?_, fun p hp => ?_, hok, I.len⟩
  · exact keep b o (neL b o e) hb (neC b o e hx) (I.base.keep b o e n hb hx) (I.base.free b o e n hx)
  · obtain ⟨sl, e1⟩ := I.base.slot b o e n hb hx
    obtain ⟨sl', e2⟩ := slot b _ (neL b o e) hb (neC b o e hx) e1 (I.base.free b o e n hx)
    exact ⟨sl', e2⟩
  · obtain ⟨o', e1⟩ := I.base.there b o e hx
    exact free b o' (neC b o e hx) e1 (I.base.free b o e n hx)
  · obtain ⟨o', e1⟩ := I.base.there b o e hx
    exact there b o' (neC b o e hx) e1
  · obtain ⟨m1, e1⟩ := I.base.tbls b ps e
    obtain ⟨m2, e2⟩ := tbls b _ e1
    exact ⟨m1 ++ m2, by rw [e2, Array.append_assoc]⟩
  · obtain ⟨m, hn, hl⟩ := I.loc
    refine ⟨m, ns m hn, fun i x v e1 e2 e3 => ?_⟩
    obtain ⟨u, r, l⟩ := hl i x v e1 e2 e3
    refine ⟨u, r, ?_⟩
    rcases l with l | ⟨k, c, e, z⟩
    · exact .inl l
    · exact .inr ⟨k, c, e, cellK x c e _ z⟩
  · obtain ⟨v, z⟩ := I.cell x c e
    exact ⟨v, cellK x c e v z⟩
  · obtain ⟨m, ⟨o, _, _, ho, _⟩, _⟩ := I.loc
    exact free _ o (fun z => (hch _ z).2.1 rfl) ho I.free
  · obtain ⟨v, o, ho, hd⟩ := I.cell x c e
    exact free c o (fun z => (hch c z).2.2.1 x c e rfl) ho (I.freeC x c e)
  · obtain ⟨e, n, ne, nf, d⟩ := I.pin p hp
    have nch : p.1 ∉ ch := fun z => (hch p.1 z).2.2.2 p hp rfl
    exact ⟨keep p.1 p.2 ne nf nch e n, free p.1 p.2 nch e n, ne, nf, d⟩
theorem Inv.un {t' : Nat} (I : Inv X pins σ H s) (u : Un X.fs [] H H' s.heap h') (hok : HOk X.prog X.w H' h') : Inv X pins σ H' { s with heap := h', toks := t' } := by
  obtain ⟨m, ⟨o, es, ep, ho, r⟩, _⟩ := id I.loc
  obtain ⟨sl, hL⟩ := u.any ho I.free (by simp)
  exact I.step (g' := s.gens) (d' := s.drawn) (ch := []) (fun _ z => nomatch z) (fun b o _ hb _ e n => u.keep b o e n hb (by simp)) (fun b o _ hb _ e n => u.slot b o e n hb (by simp)) (fun b o _ e n => u.free b o e n (by simp)) (fun b o _ e => u.there b o e (by simp)) u.tups u.frzs u.tbls (fun m' hm => by
    obtain ⟨o', es', ep', ho', r'⟩ := hm
    rw [ho] at ho'; cases ho'
    exact ⟨_, es', ep', hL, r'⟩) hok I.bare
theorem Inv.call {g' : Array GenState} {t' : Nat} {d' : Drawn} {ch : List Addr} (I : Inv X pins σ H s) (u : Un (frs X.stack) ch H H' s.heap h') (hok : HOk X.prog X.w H' h') (hg : AllBare g')
    (hch : ∀ b ∈ ch, (b ∈ X.ex ∨ X.s₀.heap.objs.size ≤ b) ∧ b ≠ X.env.locals ∧ (∀ x c, X.env.cells.lookup x = some c → c ≠ b) ∧ ∀ p ∈ X.pn ++ pins, p.1 ≠ b) :
    Inv X pins σ H' { s with heap := h', gens := g', drawn := d', toks := t' } := by
  obtain ⟨m, ⟨o, es, ep, ho, r⟩, _⟩ := id I.loc
  obtain ⟨sl, hL⟩ := u.any ho I.free fun z => (hch _ z).2.1 rfl
  exact I.step (ch := ch) hch (fun b o hL hb hc e n => u.keep b o e n (fun z => (List.mem_cons.mp (I.stkSub b z)).elim hL hb) hc) (fun b o _ _ hc e n => u.any e n hc) (fun b o hc e n => u.free b o e n hc) (fun b o hc e => u.there b o e hc) u.tups u.frzs u.tbls (fun m' hm => by
    obtain ⟨o', es', ep', ho', r'⟩ := hm
    rw [ho] at ho'; cases ho'
    exact ⟨_, es', ep', hL, r'⟩) hok hg
theorem Inv.turned {t' : Nat} {it : Addr} (I : Inv X pins σ H s) (k : ∀ b o, b ≠ it → s.heap.get? b = some o → h'.get? b = some o) (hn : H it = none) (hL : it ≠ X.env.locals)
    (h1 : it ∈ X.ex ∨ X.s₀.heap.objs.size ≤ it) (h2 : ∀ x c, X.env.cells.lookup x = some c → c ≠ it) (h3 : ∀ p ∈ X.pn ++ pins, p.1 ≠ it) : Inv X pins σ H { s with heap := h', toks := t' } := by
  have nit : ∀ b u, H b = some u → b ≠ it := fun b u e z => by rw [z, hn] at e; cases e
  refine I.step (g' := s.gens) (d' := s.drawn) (ch := [it]) (fun b hb => ?_) (fun b o _ _ hc e _ => k b o (fun z => hc (by simp [z])) e) (fun b o _ _ hc e _ => ⟨o.slots, k b o (fun z => hc (by simp [z])) e⟩) (fun _ _ _ _ n => n)
    (fun b o hc e => ⟨o, k b o (fun z => hc (by simp [z])) e⟩) (fun _ _ e => e) (fun _ _ _ e => e) (fun b ps e => ⟨#[], by rw [e]; simp⟩) (fun m hm => ?_) (fun b u e => ?_) I.bare
  · have e : b = it := by simpa using hb
    subst e
    exact ⟨h1, hL, h2, h3⟩
  · obtain ⟨o, es, ep, ho, r⟩ := hm
    exact ⟨o, es, ep, k _ o (Ne.symm hL) ho, r⟩
  · refine (I.hok b u e).stay (fun c v hc q => k c v ?_ q) (fun _ q => q) fun _ _ q => q
    rcases hc with z | z
    · rw [z]; exact nit b u e
    · exact nit c _ z
theorem Inv.tok (I : Inv X pins σ H s) (t : Nat) : Inv X pins σ H { s with toks := t } := I.un (h' := s.heap) (t' := t) Un.refl I.hok
theorem Inv.kept {t' : Nat} (I : Inv X pins σ H s) (k : ∀ b u, s.heap.get? b = some u → h'.get? b = some u) : Inv X pins σ H { s with heap := h', toks := t' } := I.un (Un.kept k) (I.hok.kept k)
theorem Inv.laid {a : Addr} {o : HO} {t' : Nat} (I : Inv X pins σ H s) (k : ∀ b u, s.heap.get? b = some u → h'.get? b = some u) (hp : s.heap.objs.size ≤ a) (new : ObjOk X.prog X.w (upd H a o) h' a o) :
    Inv X pins σ (upd H a o) { s with heap := h', toks := t' } := I.un (Un.laid k hp (I.hok.fresh hp)) (I.hok.laid k hp new)
theorem Inv.write {x e : Addr} {o : HO} {t' : Nat} (I : Inv X pins σ H s) (mu : Mut (H x)) (he : e = x ∨ H e = some (.own x)) (k : ∀ b u, b ≠ e → s.heap.get? b = some u → h'.get? b = some u) (heo : ∃ u, h'.get? e = some u)
    (new : ObjOk X.prog X.w (upd H x o) h' x o) : Inv X pins σ (upd H x o) { s with heap := h', toks := t' } := I.un (Un.write mu he k heo) (I.hok.write mu he k heo new)
theorem Inv.pins_of {pins' : List (Addr × Obj)} (I : Inv X pins σ H s) (h : ∀ p ∈ pins', s.heap.get? p.1 = some p.2 ∧ H p.1 = none ∧ p.1 ≠ X.env.locals ∧ p.1 ∉ X.fs ∧ ∀ v, p.2.data ≠ .cell v) : Inv X pins' σ H s :=
  ⟨I.ok, I.os, I.bare, I.base, I.loc, I.cell, I.free, I.freeC, fun p hp => (List.mem_append.mp hp).elim (fun z => I.pin p (List.mem_append_left _ z)) (h p), I.hok, I.len⟩
theorem nodup_ix {N : List Str} (hN : N.Nodup) {i j : Nat} {x : Str} (a : N[i]? = some x) (b : N[j]? = some x) : i = j := by
  obtain ⟨h1, e1⟩ := List.getElem?_eq_some_iff.mp a
  obtain ⟨h2, e2⟩ := List.getElem?_eq_some_iff.mp b
  exact (List.getElem_inj hN).mp (e1.trans e2.symm)
theorem store_ok2 {M : Model} {A : Around} {E : Value → Shared → Prop} {i : Nat} {x : Str} {v : V} {u : Value} {Q : Unit → Shared → Prop} (I : Inv X pins σ H s) (hN : X.N.Nodup) (hi : X.N[i]? = some x) (hx : Loc X.env.scope x) (r : RelV v u)
    (h : ∀ s', Inv X pins (σ.set i (some v)) H s' → (∃ a, Heap.SameBut a s.heap s'.heap ∧ (a = X.env.locals ∨ X.env.cells.lookup x = some a)) → Q () s') (hf : X.fn x = true ∨ X.env.scope.names.lookup x = some .local := by first | exact .inl rfl | exact .inr rfl | assumption) : wpAny M A (storeName X.env x u) Q E s := by
  obtain ⟨m, hn, hl⟩ := id I.loc
  have hcls : (X.env.scope.kind == .class || (X.env.scope.kind == .module && X.env.locals != X.env.globals)) = false := by rw [I.ok.kind]; rfl
  have hiσ : i < σ.length := by rw [I.len]; exact (List.getElem?_eq_some_iff.mp hi).1
  have cne := I.cne
  have tracked : ∀ {a : Addr} {h' : Heap}, (∃ o, s.heap.get? a = some o ∧ H a = none) → Heap.SameBut a s.heap h' → HOk X.prog X.w H h' := fun {a h'} ha hs b ob e => by
    obtain ⟨_, _, hfree⟩ := ha
    refine (I.hok b ob e).stay (fun c w' hc q => (hs.2 c ?_).trans q) (fun _ q => q) fun _ _ q => q
    rintro rfl
    rcases hc with rfl | hc
    · rw [hfree] at e; cases e
    · rw [hfree] at hc; cases hc
  rcases hx with hk | hk
  · refine wpAny_storeName_local hk hn (fun h' hn' hs => ?_) hcls
    obtain ⟨oL, _, _, hoL, _⟩ := id hn
    refine h _ ⟨I.ok, I.os, I.bare, ⟨fun b o e n hb hx => ?_, fun b o e n hb hx => ?_, I.base.free, fun b o e hx => ?_, I.base.tups, I.base.frzs, I.base.tbls⟩, ⟨_, hn', fun j y v' e1 e2 e3 => ?_⟩, fun y c e => ?_, I.free, I.freeC, fun p hp => ?_, tracked ⟨oL, hoL, I.free⟩ hs, by simpa using I.len⟩ ⟨_, hs, .inl rfl⟩
    · exact (hs.2 b (Nat.ne_of_lt (Nat.lt_of_lt_of_le (Heap.lt_size e) I.ok.above))).trans (I.base.keep b o e n hb hx)
    · obtain ⟨sl, e1⟩ := I.base.slot b o e n hb hx
      exact ⟨sl, (hs.2 b (Nat.ne_of_lt (Nat.lt_of_lt_of_le (Heap.lt_size e) I.ok.above))).trans e1⟩
    · obtain ⟨o', e1⟩ := I.base.there b o e hx
      exact ⟨o', (hs.2 b (Nat.ne_of_lt (Nat.lt_of_lt_of_le (Heap.lt_size e) I.ok.above))).trans e1⟩
    · by_cases hj : j = i
      · subst hj
        rw [hi] at e1; cases e1
        rw [List.getElem?_set_self hiσ] at e2
        cases e2
        exact ⟨u, r, .inl ⟨hk, by simp⟩⟩
      · rw [List.getElem?_set_ne (Ne.symm hj)] at e2
        obtain ⟨u', r', q⟩ := hl j y v' e1 e2 e3
        refine ⟨u', r', ?_⟩
        rcases q with ⟨k, e⟩ | ⟨k, c, e, z⟩
        · refine .inl ⟨k, ?_⟩
          have : y ≠ x := fun e => hj (nodup_ix hN e1 (e ▸ hi))
          simp [this, e]
        · exact .inr ⟨k, c, e, z.sameBut hs (cne y c e)⟩
    · obtain ⟨w', z⟩ := I.cell y c e
      exact ⟨w', z.sameBut hs (cne y c e)⟩
    · obtain ⟨e, n, ne, nf, d⟩ := I.pin p hp
      exact ⟨(hs.2 p.1 ne).trans e, n, ne, nf, d⟩
  · have hfn : X.fn x = true := by
      rcases hf with z | z
      · exact z
      · rw [z] at hk; cases hk
    obtain ⟨c, hc⟩ := I.ok.has x (.inl hk)
    obtain ⟨w', z⟩ := I.cell x c hc
    refine wpAny_storeName_cell I.ok.kind hk hc z (fun h' hc' hs => ?_)
    obtain ⟨oc, hoc, hocd⟩ := id z
    refine h { s with heap := h' } ⟨I.ok, I.os, I.bare, ⟨fun b o e n hb hx => ?_, fun b o e n hb hx => ?_, I.base.free, fun b o e hx => ?_, I.base.tups, I.base.frzs, I.base.tbls⟩, ⟨m, hn.sameBut hs (Ne.symm (cne x c hc)), fun j y v' e1 e2 e3 => ?_⟩, fun y c' e => ?_, I.free, I.freeC, fun p hp => ?_, tracked ⟨oc, hoc, I.freeC x c hc⟩ hs, by simpa using I.len⟩ ⟨c, hs, .inr hc⟩
    · exact (hs.2 b (Nat.ne_of_lt (Nat.lt_of_lt_of_le (Heap.lt_size e) (I.ok.cab x c hfn hc)))).trans (I.base.keep b o e n hb hx)
    · obtain ⟨sl, e1⟩ := I.base.slot b o e n hb hx
      exact ⟨sl, (hs.2 b (Nat.ne_of_lt (Nat.lt_of_lt_of_le (Heap.lt_size e) (I.ok.cab x c hfn hc)))).trans e1⟩
    · obtain ⟨o', e1⟩ := I.base.there b o e hx
      exact ⟨o', (hs.2 b (Nat.ne_of_lt (Nat.lt_of_lt_of_le (Heap.lt_size e) (I.ok.cab x c hfn hc)))).trans e1⟩
    · by_cases hj : j = i
      · subst hj
        rw [hi] at e1; cases e1
        rw [List.getElem?_set_self hiσ] at e2
        cases e2
        exact ⟨u, r, .inr ⟨.inl hk, c, hc, hc'⟩⟩
      · rw [List.getElem?_set_ne (Ne.symm hj)] at e2
        obtain ⟨u', r', q⟩ := hl j y v' e1 e2 e3
        refine ⟨u', r', ?_⟩
        rcases q with q | ⟨k, c', e, z'⟩
        · exact .inl q
        · refine .inr ⟨k, c', e, z'.sameBut hs ?_⟩
          rintro rfl
          exact hj (nodup_ix hN e1 (I.ok.inj _ _ _ e hc ▸ hi))
    · by_cases hcc : c' = c
      · subst hcc; exact ⟨_, hc'⟩
      · obtain ⟨w2, z2⟩ := I.cell y c' e
        exact ⟨w2, z2.sameBut hs hcc⟩
    · obtain ⟨e, n, ne, nf, d⟩ := I.pin p hp
      refine ⟨(hs.2 p.1 ?_).trans e, n, ne, nf, d⟩
      intro q
      rw [q, hoc] at e
      have q' : oc = p.2 := Option.some.inj e
      exact d w' (by rw [← q']; exact hocd)
theorem store_ok {M : Model} {A : Around} {E : Value → Shared → Prop} {i : Nat} {x : Str} {v : V} {u : Value} {Q : Unit → Shared → Prop} (I : Inv X pins σ H s) (hN : X.N.Nodup) (hi : X.N[i]? = some x) (hx : Loc X.env.scope x) (r : RelV v u)
    (h : ∀ s', Inv X pins (σ.set i (some v)) H s' → Q () s') (hf : X.fn x = true ∨ X.env.scope.names.lookup x = some .local := by first | exact .inl rfl | exact .inr rfl | assumption) : wpAny M A (storeName X.env x u) Q E s :=
  store_ok2 I hN hi hx r (fun s' I' _ => h s' I') hf
theorem Inv.call' {s' : Shared} {ch : List Addr} (I : Inv X pins σ H s) (ho : s'.os = s.os) (u : Un (frs X.stack) ch H H' s.heap s'.heap) (hok : HOk X.prog X.w H' s'.heap) (hg : AllBare s'.gens)
    (hch : ∀ b ∈ ch, (b ∈ X.ex ∨ X.s₀.heap.objs.size ≤ b) ∧ b ≠ X.env.locals ∧ (∀ x c, X.env.cells.lookup x = some c → c ≠ b) ∧ ∀ p ∈ X.pn ++ pins, p.1 ≠ b) : Inv X pins σ H' s' := by
  obtain ⟨h', g', d', t', o'⟩ := s'
  have e : o' = s.os := ho
  subst e
  exact I.call (g' := g') (t' := t') (d' := d') u hok hg hch
end
abbrev XK := Value → Option Addr → Hp → Prop
abbrev St := List (Option V)
abbrev VK := V → Hp → Prop
abbrev TE := St → Hp → VK → Prop
abbrev TT := St → Hp → (Bool → Hp → Prop) → Prop
abbrev TA := St → Hp → (List V → Hp → Prop) → Prop
structure Ends where
  nx : St → Hp → Prop
  rt : VK
  bk : St → Hp → Prop := fun _ _ => False
  ct : St → Hp → Prop := fun _ _ => False
abbrev TS := Ends → St → Hp → Prop
def EP (X : Cx) (pins : List (Addr × Obj)) (σ : St) (Q : VK) (u : Value) (s' : Shared) : Prop := ∃ v H', Inv X pins σ H' s' ∧ RelV v u ∧ Q v H'
def TP (X : Cx) (pins : List (Addr × Obj)) (σ : St) (Q : Bool → Hp → Prop) (b : Bool) (s' : Shared) : Prop := ∃ H', Inv X pins σ H' s' ∧ Q b H'
def AP (X : Cx) (pins : List (Addr × Obj)) (σ : St) (Q : List V → Hp → Prop) (us : List Value) (s' : Shared) : Prop := ∃ vs H', Inv X pins σ H' s' ∧ Vals vs us ∧ Q vs H'
def SP (X : Cx) (pins : List (Addr × Obj)) (D : Ends) (f : Flow) (s' : Shared) : Prop :=
  match f with
  | .next => ∃ σ' H', Inv X pins σ' H' s' ∧ D.nx σ' H'
  | .brk => ∃ σ' H', Inv X pins σ' H' s' ∧ D.bk σ' H'
  | .cont => ∃ σ' H', Inv X pins σ' H' s' ∧ D.ct σ' H'
  | .ret u => ∃ v σ' H', Inv X pins σ' H' s' ∧ RelV v u ∧ D.rt v H'
def PE (X : Cx) (e : Expr) (t : TE) : Prop :=
  ∀ (pins : List (Addr × Obj)) (s : Shared) (σ : St) (H : Hp) (Q : VK), Inv X pins σ H s → t σ H Q → wpAny (model X.prog X.w) X.A (eval e X.env) (EP X pins σ Q) X.xe s
def PT (X : Cx) (e : Expr) (t : TT) : Prop :=
  ∀ (pins : List (Addr × Obj)) (s : Shared) (σ : St) (H : Hp) (Q : Bool → Hp → Prop), Inv X pins σ H s → t σ H Q → wpAny (model X.prog X.w) X.A (isTrue e X.env (eval e X.env)) (TP X pins σ Q) X.xe s
def PW (X : Cx) (e : Expr) (t : TT) : Prop :=
  ∀ (whole : Sem Value) (pins : List (Addr × Obj)) (s : Shared) (σ : St) (H : Hp) (Q : Bool → Hp → Prop), Inv X pins σ H s → t σ H Q → wpAny (model X.prog X.w) X.A (isTrue e X.env whole) (TP X pins σ Q) X.xe s
theorem PW.pt {X : Cx} {e : Expr} {t : TT} (h : PW X e t) : PT X e t := h _
def PA (X : Cx) (es : List Expr) (t : TA) : Prop :=
  ∀ (pos : Pos) (pins : List (Addr × Obj)) (s : Shared) (σ : St) (H : Hp) (Q : List V → Hp → Prop), Inv X pins σ H s → t σ H Q → wpAny (model X.prog X.w) X.A (spliced (backTo pos (starEach es X.env))) (AP X pins σ Q) X.xe s
def PS (X : Cx) (st : Stmt) (t : TS) : Prop :=
  ∀ (pins : List (Addr × Obj)) (s : Shared) (σ : St) (H : Hp) (D : Ends), Inv X pins σ H s → t D σ H → wpAny (model X.prog X.w) X.A (exec st X.env) (SP X pins D) X.xe s
def PSs (X : Cx) (st : List Stmt) (t : TS) : Prop :=
  ∀ (pins : List (Addr × Obj)) (s : Shared) (σ : St) (H : Hp) (D : Ends), Inv X pins σ H s → t D σ H → wpAny (model X.prog X.w) X.A (execs st X.env) (SP X pins D) X.xe s
theorem thn {α : Type} {t : Sem α} {Q Q' : α → Shared → Prop} {M : Model} {A : Around} {E : Value → Shared → Prop} {s : Shared} (h : wpAny M A t Q E s) (hQ : ∀ a s, Q a s → Q' a s) : wpAny M A t Q' E s := wpAny_mono h hQ fun _ _ x => x
end L2
namespace L2
open PySem PySem.Spec PyProof.Rows
section
variable {X : Cx}
theorem bin {a b : Expr} {ta tb : TE} (ha : PE X a ta) (hb : PE X b tb) {pins : List (Addr × Obj)} {s : Shared} {σ : St} {H : Hp} {R : V → V → Hp → Prop} (I : Inv X pins σ H s) (h : ta σ H fun x H1 => tb σ H1 fun y H2 => R x y H2)
    {α : Type} {Q : α → Shared → Prop} {f : Value → Value → Sem α}
    (hf : ∀ v u s2 x y H2, Inv X pins σ H2 s2 → RelV x v → RelV y u → R x y H2 → wpAny (model X.prog X.w) X.A (f v u) Q X.xe s2) :
    wpAny (model X.prog X.w) X.A (eval a X.env) (fun v s₁ => wpAny (model X.prog X.w) X.A (eval b X.env) (fun u s₂ => wpAny (model X.prog X.w) X.A (f v u) Q X.xe s₂) X.xe s₁) X.xe s := by
  refine thn (ha pins s σ H _ I h) fun v s1 ⟨x, H1, I1, r1, q1⟩ => ?_
  refine thn (hb pins s1 σ H1 _ I1 q1) fun u s2 ⟨y, H2, I2, r2, q2⟩ => ?_
  exact hf v u s2 x y H2 I2 r1 r2 q2
def tVar (i : Nat) : TE := fun σ H Q => ∃ v, σ[i]? = some (some v) ∧ Q v H
def tC (v : V) : TE := fun _ H Q => Q v H
theorem pe_var {i : Nat} {x : Str} {pos : Pos} (hN : X.N[i]? = some x) (hv : Vis X.env.scope x) (hd : (x == ("__debug__" : Str)) = false := by decide) (hcd : (x == ("__classdict__" : Str)) = false := by decide) : PE X (.Name x pos) (tVar i) := by
  intro pins s σ H Q I h
  obtain ⟨v, e, h⟩ := h
  obtain ⟨m, hn, hl⟩ := I.loc
  obtain ⟨u, r, l⟩ := hl i x v hN e hv
  have fin : EP X pins σ Q u s := ⟨v, H, I, r, h⟩
  rcases l with ⟨hk, hm⟩ | ⟨hk, c, hc, hcell⟩
  · exact wpAny_Name (wpAny_loadName_local I.ok.kind hk hn hm fin) hd
  · rcases hk with hk | hk
    · exact wpAny_Name (wpAny_loadName_cell I.ok.kind hk hc hcell fin) hd
    · exact wpAny_Name (wpAny_loadName_free I.ok.kind hk hc hcell fin hcd) hd
theorem pe_int {i j pos} : PE X (.Constant (.int i) j pos) (tC (.int i)) := fun _ _ _ H _ I h => wpAny_Constant_int ⟨.int i, H, I.tok _, ⟨_, rfl⟩, h⟩
theorem pe_bl {b j pos} : PE X (.Constant (.bool b) j pos) (tC (.bl b)) := fun _ _ _ H _ I h => Constant_bool ⟨.bl b, H, I, rfl, h⟩
theorem pe_non {j pos} : PE X (.Constant .none j pos) (tC .non) := fun _ _ _ H _ I h => Constant_none ⟨.non, H, I, rfl, h⟩
theorem pe_str {x j pos} : PE X (.Constant (.str x) j pos) (tC (.str x)) := fun _ _ _ H _ I h => Calls.Constant_str ⟨.str x, H, I.tok _, ⟨_, rfl⟩, h⟩
def Gl (X : Cx) (x : Str) : Prop := X.env.kindOf x = some .globalImplicit
theorem ld_glob {E : Value → Shared → Prop} {pins : List (Addr × Obj)} {s : Shared} {σ : St} {H : Hp} {x : Str} {u : Value} {pos : Pos} {Q : Value → Shared → Prop} (I : Inv X pins σ H s) (hg : Gl X x) (hm : X.mg x = some u) (h : Q u s)
    (hd : (x == ("__debug__" : Str)) = false := by decide) : wpAny (model X.prog X.w) X.A (eval (.Name x pos) X.env) Q E s :=
  Calls.Name_function_global I.ok.kind hg (Calls.loadGlobal_global (by rw [I.ok.glob]; exact I.mod.glob.keeps I.bk) hm h) hd
theorem ld_blt {E : Value → Shared → Prop} {pins : List (Addr × Obj)} {s : Shared} {σ : St} {H : Hp} {x : Str} {u : Value} {pos : Pos} {Q : Value → Shared → Prop} (I : Inv X pins σ H s) (hg : Gl X x) (hm : X.mg x = none) (hv : bootBuiltins x = some u) (h : Q u s)
    (hn : x ≠ "__name__" := by decide) (hd : (x == ("__debug__" : Str)) = false := by decide) : wpAny (model X.prog X.w) X.A (eval (.Name x pos) X.env) Q E s := by
  obtain ⟨mb, h1, h2⟩ := I.mod.blt
  exact Calls.Name_function_global I.ok.kind hg (Calls.loadGlobal_builtin (by rw [I.ok.glob]; exact I.mod.glob.keeps I.bk) hm (by rw [I.ok.blt]; exact h1.keeps I.bk) ((h2 x hn).trans hv) h) hd
theorem pe_glob {x : Str} {v : V} {u : Value} {pos : Pos} (hg : Gl X x) (hm : X.mg x = some u) (r : RelV v u) (hd : (x == ("__debug__" : Str)) = false := by decide) : PE X (.Name x pos) (tC v) :=
  fun _ _ _ H _ I h => ld_glob I hg hm ⟨v, H, I, r, h⟩ hd
theorem pe_bltn {x : Str} {v : V} {u : Value} {pos : Pos} (hg : Gl X x) (hm : X.mg x = none) (hv : bootBuiltins x = some u) (r : RelV v u) (hn : x ≠ "__name__" := by decide) (hd : (x == ("__debug__" : Str)) = false := by decide) : PE X (.Name x pos) (tC v) :=
  fun _ _ _ H _ I h => ld_blt I hg hm hv ⟨v, H, I, r, h⟩ hn hd
variable {a b : Expr} {ta tb : TE} {pos : Pos}
def PC (X : Cx) (op : CmpOp) (a b : Expr) (t : TE) : Prop :=
  ∀ (pins : List (Addr × Obj)) (s : Shared) (σ : St) (H : Hp) (Q : VK), Inv X pins σ H s → t σ H Q →
    wpAny (model X.prog X.w) X.A (eval a X.env) (fun v s₁ => wpAny (model X.prog X.w) X.A (eval b X.env) (fun u s₂ => wpAny (model X.prog X.w) X.A (compareOp op v u) (EP X pins σ Q) X.xe s₂) X.xe s₁) X.xe s
def tB (t : TE) : TT := fun σ H Q => t σ H fun x H1 => ∃ c, x = .bl c ∧ Q c H1
theorem pe_cmp {op : CmpOp} {t : TE} (h : PC X op a b t) (h1 : behindInMarks op b = false := by first | exact nobehind _ (by decide) (by decide) | rfl) : PE X (.Compare a [op] [b] pos) t := fun pins s σ H Q I hw => wpAny_Compare1 (h pins s σ H Q I hw) h1
theorem pt_cmp {op : CmpOp} {t : TE} (h : PC X op a b t) (h1 : behindInMarks op b = false := by first | exact nobehind _ (by decide) (by decide) | rfl) : PT X (.Compare a [op] [b] pos) (tB t) := by
  intro pins s σ H Q I hw
  refine wpAny_isTrue_Compare1 (thn (h pins s σ H _ I hw) fun v s1 h1 => thn h1 fun u s2 h2 => thn h2 fun c s3 ⟨x, H1, I1, r1, q1⟩ => ?_) h1
  obtain ⟨d, rfl, q⟩ := q1
  cases r1
  exact wpAny_truthy_bool ⟨H1, I1, q⟩
theorem pt_val {e : Expr} {t : TE} (h : PE X e t) (he : ∀ whole, isTrue e X.env whole = (do let v ← whole; standAt e.pos; holding [v] (truthy v)) := by intro _; rfl) : PT X e (tB t) := by
  intro pins s σ H Q I hw
  refine isTrue_plain (thn (h pins s σ H _ I hw) fun v s1 ⟨x, H1, I1, r1, q1⟩ => ?_) (he _)
  obtain ⟨d, rfl, q⟩ := q1
  cases r1
  exact wpAny_truthy_bool ⟨H1, I1, q⟩
variable {tA tB' : TT} {rest : List Expr}
def tOr (t u : TT) : TT := fun σ H Q => t σ H fun c H1 => if c = true then Q true H1 else u σ H1 Q
def tNot (t : TT) : TT := fun σ H Q => t σ H fun c H1 => Q (!c) H1
theorem pw_or1 (ha : PT X a tA) : PW X (.BoolOp .Or [a] pos) tA := by
  intro wh pins s σ H Q I h
  refine isTrue_or (thn (ha pins s σ H Q I h) fun c s1 e => ?_)
  cases c with
  | false => exact isTrue_or_nil e
  | true => exact e
theorem pw_or (ha : PT X a tA) (hb : PW X (.BoolOp .Or (b :: rest) pos) tB') : PW X (.BoolOp .Or (a :: b :: rest) pos) (tOr tA tB') := by
  intro wh pins s σ H Q I h
  refine isTrue_or (thn (ha pins s σ H _ I h) fun c s1 ⟨H1, I1, q1⟩ => ?_)
  cases c with
  | true => exact ⟨H1, I1, q1⟩
  | false => exact hb wh pins s1 σ H1 Q I1 q1
theorem pt_not (ha : PT X a tA) : PT X (.UnaryOp .Not a pos) (tNot tA) := by
  intro pins s σ H Q I h
  exact isTrue_not (ha pins s σ H (fun c H1 => Q (!c) H1) I h)
def tAndV (ta tb : TE) : TE := fun σ H Q => ta σ H fun x H1 => ∃ c, x = .bl c ∧ if c = true then tb σ H1 Q else Q (.bl false) H1
def tNotV (ta : TE) : TE := fun σ H Q => ta σ H fun x H1 => ∃ c, x = .bl c ∧ Q (.bl (!c)) H1
theorem pe_one {op} {t : TE} (h : PE X a t) : PE X (.BoolOp op [a] pos) t := fun pins s σ H Q I hw => BoolOp_one (h pins s σ H Q I hw)
theorem pe_and (ha : PE X a ta) (hb : PE X (.BoolOp .And (b :: rest) pos) tb) : PE X (.BoolOp .And (a :: b :: rest) pos) (tAndV ta tb) := by
  intro pins s σ H Q I h
  refine BoolOp_and (thn (ha pins s σ H _ I h) fun v s1 ⟨x, H1, I1, r1, q1⟩ => ?_)
  obtain ⟨c, rfl, q1⟩ := q1
  cases r1
  refine wpAny_truthy_bool ?_
  cases c with
  | true => exact hb pins s1 σ H1 Q I1 q1
  | false => exact ⟨.bl false, H1, I1, rfl, q1⟩
theorem pe_not (ha : PE X a ta) : PE X (.UnaryOp .Not a pos) (tNotV ta) := by
  intro pins s σ H Q I h
  refine UnaryOp_ (thn (ha pins s σ H _ I h) fun v s1 ⟨x, H1, I1, r1, q1⟩ => ?_)
  obtain ⟨c, rfl, q1⟩ := q1
  cases r1
  exact not_of (wpAny_truthy_bool ⟨.bl (!c), H1, I1, rfl, q1⟩)
end
end L2
namespace L2
open PySem PySem.Spec PyProof.Rows
def SqL (K : PySem.W.Frag) (H : Hp) (a : Addr) (xs : List V) : Prop :=
  Rd H a (.lst xs) ∨
    ∃ (o : Obj) (its : Array Value) (n : Nat), K.lookup a = some o ∧ o.cls = .type "list" ∧ o.dict = none ∧ o.data = .seq its n ∧ its.size ≤ sizeLine ∧ Vals xs its.toList
def SqT (K : PySem.W.Frag) (H : Hp) (a : Addr) (xs : List V) : Prop :=
  Rd H a (.tup xs) ∨
    ∃ (o : Obj) (its : Array Value) (n : Nat), K.lookup a = some o ∧ o.cls = .type "tuple" ∧ o.data = .seq its n ∧ its.size ≤ sizeLine ∧ Vals xs its.toList
def absV : Value → Option V
  | .none => some .non
  | .bool b => some (.bl b)
  | .int i _ => some (.int i)
  | .str x _ => some (.str x)
  | .bytes b _ => some (.byt b)
  | .float b _ => some (.flt b)
  | .ref a => some (.ref a)
  | .type n => some (.ty n)
  | _ => none
theorem RelV.abs {x : V} {u : Value} (r : RelV x u) : absV u = some x := by
  cases x with
  | non => cases r; rfl
  | bl _ => cases r; rfl
  | int _ => obtain ⟨t, rfl⟩ := r; rfl
  | str _ => obtain ⟨t, rfl⟩ := r; rfl
  | byt _ => obtain ⟨t, rfl⟩ := r; rfl
  | flt _ => obtain ⟨t, rfl⟩ := r; rfl
  | ref _ => cases r; rfl
  | ty _ => cases r; rfl
theorem RelV.inj {x y : V} {u : Value} (r : RelV x u) (q : RelV y u) : x = y := Option.some.inj (r.abs.symm.trans q.abs)
theorem Vals.inj : ∀ {xs ys : List V} {us : List Value}, Vals xs us → Vals ys us → xs = ys
  | _, _, _, .nil, .nil => rfl
  | _, _, _, .cons r t, .cons r' t' => by rw [r.inj r', Vals.inj t t']
section
variable {X : Cx} {pins : List (Addr × Obj)} {σ : St} {H : Hp} {s : Shared} {a : Addr} {xs ys : List V}
theorem SqL.of {K : PySem.W.Frag} (h : H a = some (.lst xs)) : SqL K H a xs := .inl (.inl h)
theorem SqT.of {K : PySem.W.Frag} (h : H a = some (.tup xs)) : SqT K H a xs := .inl (.inl h)
theorem Inv.list (I : Inv X pins σ H s) (h : SqL X.K H a xs) : ∃ its : List Value, Vals xs its ∧ PlainL s.heap a its.toArray ∧ xs.length ≤ sizeLine := by
  rcases h with h | ⟨o, its, n, hk, hc, hd, hs, hz, r⟩
  · obtain ⟨z, its, n, r, e⟩ := h.ok I.hok
    exact ⟨its, r, ⟨_, n, e, rfl, rfl, rfl⟩, z⟩
  · refine ⟨its.toList, r, ⟨o, n, I.kIn a o hk, hc, hd, by simpa using hs⟩, ?_⟩
    have e := r.length
    simp only [Array.length_toList] at e
    omega
theorem Inv.tuple (I : Inv X pins σ H s) (h : SqT X.K H a xs) : ∃ its : List Value, Vals xs its ∧ IsTup s.heap a its.toArray ∧ xs.length ≤ sizeLine := by
  rcases h with h | ⟨o, its, n, hk, hc, hs, hz, r⟩
  · obtain ⟨z, its, r, p⟩ := h.ok I.hok
    exact ⟨its, r, p, z⟩
  · refine ⟨its.toList, r, ⟨o, I.kIn a o hk, hc, n, by simpa using hs⟩, ?_⟩
    have e := r.length
    simp only [Array.length_toList] at e
    omega
theorem Inv.list_inj (I : Inv X pins σ H s) (h : SqL X.K H a xs) (h' : SqL X.K H a ys) : xs = ys := by
  obtain ⟨its, r, ⟨o, n, e, _, _, d⟩, _⟩ := I.list h
  obtain ⟨its', r', ⟨o', n', e', _, _, d'⟩, _⟩ := I.list h'
  rw [e] at e'; cases e'
  rw [d] at d'
  injection d' with d1 _
  have : its = its' := by simpa using congrArg Array.toList d1
  subst this
  exact r.inj r'
theorem Inv.tuple_inj (I : Inv X pins σ H s) (h : SqT X.K H a xs) (h' : SqT X.K H a ys) : xs = ys := by
  obtain ⟨its, r, ⟨o, e, _, n, d⟩, _⟩ := I.tuple h
  obtain ⟨its', r', ⟨o', e', _, n', d'⟩, _⟩ := I.tuple h'
  rw [e] at e'; cases e'
  rw [d] at d'
  injection d' with d1 _
  have : its = its' := by simpa using congrArg Array.toList d1
  subst this
  exact r.inj r'
end
abbrev Cx.wish (X : Cx) (E : Value → Shared → Prop) : Cx := { X with xe := E }
abbrev Cx.nox (X : Cx) : Cx := X.wish fun _ _ => False
theorem Cx.Ok.wish {X : Cx} (ok : X.Ok) (E : Value → Shared → Prop) : (X.wish E).Ok :=
  ⟨ok.mod, ok.kind, ok.glob, ok.blt, ok.above, ok.inj, ok.has, ok.cab, ok.hd, ok.frames, ok.stk, ok.exf, ok.bs, ok.bsz, ok.noex, ok.exfs, ok.funs, ok.frf⟩
theorem Cx.Ok.unwish {X : Cx} {E : Value → Shared → Prop} (ok : (X.wish E).Ok) : X.Ok :=
  ⟨ok.mod, ok.kind, ok.glob, ok.blt, ok.above, ok.inj, ok.has, ok.cab, ok.hd, ok.frames, ok.stk, ok.exf, ok.bs, ok.bsz, ok.noex, ok.exfs, ok.funs, ok.frf⟩
section
variable {X : Cx} {pins : List (Addr × Obj)} {σ : St} {H : Hp} {s : Shared} {E : Value → Shared → Prop}
theorem Inv.wish (I : Inv X pins σ H s) (E : Value → Shared → Prop) : Inv (X.wish E) pins σ H s := ⟨I.ok.wish E, I.os, I.bare, I.base, I.loc, I.cell, I.free, I.freeC, I.pin, I.hok, I.len⟩
theorem Inv.unwish (I : Inv (X.wish E) pins σ H s) : Inv X pins σ H s := ⟨I.ok.unwish, I.os, I.bare, I.base, I.loc, I.cell, I.free, I.freeC, I.pin, I.hok, I.len⟩
theorem SP.unwish {D : Ends} {f : Flow} {s' : Shared} (h : SP (X.wish E) pins D f s') : SP X pins D f s' := by
  cases f with
  | next => obtain ⟨σ', H', I, q⟩ := h; exact ⟨σ', H', I.unwish, q⟩
  | brk => obtain ⟨σ', H', I, q⟩ := h; exact ⟨σ', H', I.unwish, q⟩
  | cont => obtain ⟨σ', H', I, q⟩ := h; exact ⟨σ', H', I.unwish, q⟩
  | ret u => obtain ⟨v, σ', H', I, r, q⟩ := h; exact ⟨v, σ', H', I.unwish, r, q⟩
theorem PSs.nox {st : List Stmt} {t : TS} (h : PSs X.nox st t) : PSs X st t := fun pins s σ H D I hw =>
  wpAny_mono (h pins s σ H D (I.wish _) hw) (fun _ _ q => q.unwish) fun _ _ z => False.elim z
end
section
variable {X : Cx} {st : Stmt} {rest : List Stmt} {t u : TS} {e : Expr} {te : TE} {pos : Pos}
def tNext : TS := fun D σ H => D.nx σ H
def tSeq (t u : TS) : TS := fun D σ H => t { D with nx := u D } σ H
theorem pss_nil : PSs X [] tNext := fun _ _ σ H _ I h => wpAny_execs_nil ⟨σ, H, I, h⟩
theorem pss_cons (h1 : PS X st t) (h2 : PSs X rest u) : PSs X (st :: rest) (tSeq t u) := by
  intro pins s σ H D I h
  refine wpAny_execs_cons (thn (h1 pins s σ H { D with nx := u D } I h) fun f s1 q => ?_)
  cases f with
  | next =>
    obtain ⟨σ', H', I', q⟩ := q
    exact h2 pins s1 σ' H' D I' q
  | ret v => exact q
  | brk => exact q
  | cont => exact q
theorem pss_one (h1 : PS X st t) : PSs X [st] t := by
  intro pins s σ H D I h
  refine wpAny_execs_cons (thn (h1 pins s σ H D I h) fun f s1 q => ?_)
  cases f with
  | next => exact wpAny_execs_nil q
  | ret v => exact q
  | brk => exact q
  | cont => exact q
theorem Inv.quiet {pins : List (Addr × Obj)} {σ : St} {H : Hp} {s : Shared} (I : Inv X pins σ H s) : interactive X.env = false := by simp [interactive, I.ok.kind]
def tDrop (te : TE) : TS := fun D σ H => te σ H fun _ H1 => D.nx σ H1
theorem ps_expr (he : PE X e te) (hs : swapsWith e none pos.line X.env = pure false := by rfl) : PS X (.Expr e pos) (tDrop te) := by
  intro pins s σ H D I h
  exact wpAny_Expr_any (thn (he pins s σ H _ I h) fun v s1 ⟨x, H1, I1, r1, q1⟩ => ⟨σ, H1, I1, q1⟩) I.quiet hs
def tRet (te : TE) : TS := fun D σ H => te σ H D.rt
theorem ps_ret (he : PE X e te) : PS X (.Return (some e) pos) (tRet te) := by
  intro pins s σ H D I h
  exact wpAny_Return_some (thn (he pins s σ H _ I h) fun v s1 ⟨x, H1, I1, r1, q1⟩ => ⟨x, σ, H1, I1, r1, q1⟩)
def tIfS (c : TT) (t u : TS) : TS := fun D σ H => c σ H fun b H1 => if b = true then t D σ H1 else u D σ H1
theorem ps_if {c : Expr} {a b : List Stmt} {tc : TT} (hc : PT X c tc) (ha : PSs X a t) (hb : PSs X b u) : PS X (.If c a b pos) (tIfS tc t u) := by
  intro pins s σ H D I h
  refine wpAny_If (thn (hc pins s σ H _ I h) fun d s1 ⟨H1, I1, q1⟩ => ?_)
  cases d with
  | true => exact ha pins s1 σ H1 D I1 q1
  | false => exact hb pins s1 σ H1 D I1 q1
end
abbrev TG := V → St → Hp → (St → Hp → Prop) → Prop
abbrev TGs := List V → St → Hp → (St → Hp → Prop) → Prop
def PG (X : Cx) (target : Expr) (t : TG) : Prop :=
  ∀ (pins : List (Addr × Obj)) (s : Shared) (σ : St) (H : Hp) (v : V) (u : Value) (Q : St → Hp → Prop), Inv X pins σ H s → RelV v u → t v σ H Q →
    wpAny (model X.prog X.w) X.A (assign target X.env u) (fun _ s' => ∃ σ' H', Inv X pins σ' H' s' ∧ Q σ' H') X.xe s
def PGs (X : Cx) (ts : List Expr) (t : TGs) : Prop :=
  ∀ (pins : List (Addr × Obj)) (s : Shared) (σ : St) (H : Hp) (vs : List V) (us : List Value) (Q : St → Hp → Prop), Inv X pins σ H s → Vals vs us → t vs σ H Q →
    wpAny (model X.prog X.w) X.A (assignInOrder ((assignEach ts X.env).map (·.2)) us) (fun _ s' => ∃ σ' H', Inv X pins σ' H' s' ∧ Q σ' H') X.xe s
section
variable {X : Cx} {pos : Pos}
def gName (i : Nat) : TG := fun v σ H Q => Q (σ.set i (some v)) H
theorem pg_name {i : Nat} {x : Str} (hN : X.N.Nodup) (hi : X.N[i]? = some x) (hx : Loc X.env.scope x) (hf : X.fn x = true ∨ X.env.scope.names.lookup x = some .local := by first | exact .inl rfl | exact .inr rfl | assumption) : PG X (.Name x pos) (gName i) := by
  intro pins s σ H v u Q I r h
  exact wpAny_assign_Name (store_ok I hN hi hx r (fun s' I' => ⟨_, H, I', h⟩) hf)
def gNil : TGs := fun vs σ H Q => vs = [] ∧ Q σ H
def gCons (t : TG) (u : TGs) : TGs := fun vs σ H Q => ∃ v r, vs = v :: r ∧ t v σ H fun σ' H' => u r σ' H' Q
theorem pgs_nil : PGs X [] gNil := by
  intro pins s σ H vs us Q I r h
  obtain ⟨e, h⟩ := h
  subst e
  cases r
  exact assignInOrder_nil ⟨σ, H, I, h⟩
theorem pgs_cons {e : Expr} {es : List Expr} {t : TG} {u : TGs} (h1 : PG X e t) (h2 : PGs X es u)
    (hs : (assignEach (e :: es) X.env).map (·.2) = assign e X.env :: (assignEach es X.env).map (·.2) := by rfl) : PGs X (e :: es) (gCons t u) := by
  intro pins s σ H vs us Q I r h
  obtain ⟨v, vr, e1, h⟩ := h
  subst e1
  cases r with
  | cons r rr =>
    rw [hs]
    refine assignInOrder_cons (thn (h1 pins s σ H _ _ _ I r h) fun _ s1 ⟨σ1, H1, I1, q1⟩ => ?_)
    exact h2 pins s1 σ1 H1 _ _ Q I1 rr q1
def gTup (K : PySem.W.Frag) (n : Nat) (t : TGs) : TG := fun v σ H Q => ∃ a xs, v = .ref a ∧ SqT K H a xs ∧ xs.length = n ∧ t xs σ H Q
theorem pg_tup {es : List Expr} {k : Nat} {t : TGs} {n : Nat} (hc : X.calm = true) (h : PGs X es t)
    (hn : (assignEach es X.env).length = n := by rfl) (hst : (assignEach es X.env).findIdx? (·.1) = none := by rfl) : PG X (.Tuple es k pos) (gTup X.K n t) := by
  intro pins s σ H v u Q I r hw
  obtain ⟨a, xs, e1, hq, hl, hw⟩ := hw
  subst e1
  cases r
  obtain ⟨its, rv, ht, hz⟩ := I.tuple hq
  refine assign_Tuple_tuple (I.ok.hd hc) ht (by simp [hn, ← hl, rv.length]) hst fun h' hx => ?_
  have I1 : Inv X pins σ H { s with heap := h' } := I.kept (t' := s.toks) fun b o e => hx b o (Nat.ne_of_lt (Heap.lt_size e)) e
  exact h pins _ σ H xs _ Q I1 (by simpa using rv) hw
def tAsg (te : TE) (g : TG) : TS := fun D σ H => te σ H fun x H1 => g x σ H1 D.nx
theorem ps_asg {tg e : Expr} {te : TE} {g : TG} (he : PE X e te) (hg : PG X tg g) (hs : swapsWithSole [tg] e pos.line X.env = pure false := by rfl) (hw : swappedStores [tg] e X.env = pure none := by rfl)
    (h1 : (assignEach [tg] X.env).map (·.2) = [assign tg X.env] := by rfl) : PS X (.Assign [tg] e pos) (tAsg te g) := by
  intro pins s σ H D I h
  refine wpAny_Assign_stores (thn (he pins s σ H _ I h) fun v s1 ⟨x, H1, I1, r1, q1⟩ => ?_) hs hw
  rw [h1]
  exact thn (hg pins s1 σ H1 x v _ I1 r1 q1) fun _ s2 q => q
theorem ps_set {i : Nat} {x : Str} {e : Expr} {te : TE} {pos' : Pos} (hN : X.N.Nodup) (hi : X.N[i]? = some x) (hx : Loc X.env.scope x) (he : PE X e te) (hs : swapsWith e (some (.Name x pos')) pos.line X.env = pure false := by rfl) (hf : X.fn x = true ∨ X.env.scope.names.lookup x = some .local := by first | exact .inl rfl | exact .inr rfl | assumption) :
    PS X (.Assign [.Name x pos'] e pos) (tAsg te (gName i)) := by
  intro pins s σ H D I h
  refine wpAny_Assign_Name (thn (he pins s σ H _ I h) fun v s1 ⟨y, H1, I1, r1, q1⟩ => ?_) hs
  exact store_ok I1 hN hi hx r1 (fun s2 I2 => ⟨_, H1, I2, q1⟩) hf
def tPar (i j : Nat) (ta : TA) : TS := fun D σ H => ta σ H fun vs H1 => ∃ v w, vs = [v, w] ∧ D.nx ((σ.set i (some v)).set j (some w)) H1
theorem ps_par {i j : Nat} {x y : Str} {a b : Expr} {ta : TA} {px py pt : Pos} {kt k2 pt2} (hc : X.calm = true) (hN : X.N.Nodup) (hi : X.N[i]? = some x) (hj : X.N[j]? = some y) (hij : i ≠ j)
    (hx : X.env.scope.names.lookup x = some .local) (hy : X.env.scope.names.lookup y = some .local) (ha : PA X [a, b] ta)
    (hw : swappedStores [.Tuple [.Name x px, .Name y py] kt pt] (.Tuple [a, b] k2 pt2) X.env = pure (some [x, y]))
    (hs : swapsWithSole [.Tuple [.Name x px, .Name y py] kt pt] (.Tuple [a, b] k2 pt2) pos.line X.env = pure false := by rfl) :
    PS X (.Assign [.Tuple [.Name x px, .Name y py] kt pt] (.Tuple [a, b] k2 pt2) pos) (tPar i j ta) := by
  intro pins s σ H D I h
  rw [exec_Assign_arm]
  refine wpAny_bind (wpAny_standAt ?_)
  rw [hs]
  refine wpAny_bind (wpAny_pure ?_)
  rw [if_neg (by decide)]
  refine wpAny_bind (Tuple_ (thn (ha _ pins s σ H _ I h) fun us s1 ⟨vs, H1, I1, r1, q1⟩ => ?_))
  obtain ⟨v, w, e1, q1⟩ := q1
  subst e1
  obtain ⟨u1, u2, rfl, rv, rw'⟩ : ∃ u1 u2, us = [u1, u2] ∧ RelV v u1 ∧ RelV w u2 := by
    cases r1 with
    | cons p q =>
      cases q with
      | cons p' q' =>
        cases q'
        exact ⟨_, _, rfl, p, p'⟩
  refine wpAny_newObj_type ?_ (by show 2 ≤ sizeLine; decide)
  have I2 : Inv X pins σ H1 { s1 with heap := s1.heap.push { cls := .type "tuple", data := .seq [u1, u2].toArray } } := I1.kept (t' := s1.toks) fun b o e => Heap.get?_push_of_some _ e
  rw [hw]
  refine wpAny_bind (wpAny_pure ?_)
  show wpAny (model X.prog X.w) X.A (do rule "assign.swapped-stores"; let items ← unpackItems (.ref s1.heap.objs.size) 2 none; assignInOrder [fun v => bindName X.env y v, fun v => bindName X.env x v] items.reverse; pure Flow.next) _ _ _
  refine wpAny_bind (wpAny_rule (wpAny_bind (unpackItems_tuple (items := #[u1, u2]) (I.ok.hd hc) (IsTup.new s1.heap _) fun h' hx' => ?_)))
  have I3 := I2.kept (h' := h') (t' := s1.toks) fun b o e => hx' b o (Nat.ne_of_lt (Heap.lt_size e)) e
  show wpAny _ _ (assignInOrder [fun v => bindName X.env y v, fun v => bindName X.env x v] [u2, u1] >>= fun _ => pure Flow.next) _ _ _
  refine wpAny_bind (assignInOrder_cons (wpAny_bindName (store_ok I3 hN hj (.inl hy) rw' (fun s2 I4 => ?_) (.inr hy))))
  refine assignInOrder_cons (wpAny_bindName (store_ok I4 hN hi (.inl hx) rv (fun s3 I5 => assignInOrder_nil (wpAny_pure ?_)) (.inr hx)))
  rw [List.set_comm _ _ (Ne.symm hij)] at I5
  exact ⟨_, H1, I5, q1⟩
end
section
variable {X : Cx} {pos : Pos}
end
structure It where
  go : Nat → Hp → Prop
  yld : Nat → Hp → V → Hp → Prop
  stop : Nat → Hp → Prop
def FpOk (X : Cx) (pins : List (Addr × Obj)) (H : Hp) (b : Addr) : Prop :=
  H b = none ∧ b ≠ X.env.locals ∧ b ∉ X.fs ∧ (b ∈ X.ex ∨ X.s₀.heap.objs.size ≤ b) ∧ (∀ x c, X.env.cells.lookup x = some c → c ≠ b) ∧ ∀ p ∈ X.pn ++ pins, p.1 ≠ b
theorem Inv.fpOk {X : Cx} {pins : List (Addr × Obj)} {σ : St} {H H' : Hp} {s : Shared} {b : Addr} (I : Inv X pins σ H s) (hb : s.heap.objs.size ≤ b) (hn : H' b = none) : FpOk X pins H' b := by
  refine ⟨hn, Nat.ne_of_gt (Nat.lt_of_lt_of_le I.lt hb), I.nofs hb, .inr (Nat.le_trans I.sz hb), fun x c e z => ?_, fun p hp z => ?_⟩
  · obtain ⟨v, q⟩ := I.cell x c e
    exact absurd (Nat.lt_of_lt_of_le q.lt (by rw [z]; exact hb)) (Nat.lt_irrefl _)
  · exact absurd (Nat.lt_of_lt_of_le (Heap.lt_size (I.pin p hp).1) (by rw [z]; exact hb)) (Nat.lt_irrefl _)
structure Turn (P : Program) (w : World) (K : PySem.W.Frag) (tg : Expr) (J : It) (fp : List Addr) (it : Addr) (tn : Nat → Heap → Prop) : Prop where
  mem : it ∈ fp
  obj : ∀ i h, tn i h → ∀ b ∈ fp, ∃ o, h.get? b = some o ∧ ∀ v, o.data ≠ .cell v
  keep : ∀ i h h', tn i h → (∀ b ∈ fp, ∀ o, h.get? b = some o → h'.get? b = some o) → tn i h'
  item : ∀ (X : Cx), X.prog = P → X.w = w → X.K = K → X.calm = true → ∀ (i : Nat) (pins : List (Addr × Obj)) (s : Shared) (σ : St) (H : Hp) (E : Value → Shared → Prop), Inv X pins σ H s → (∀ b ∈ fp, FpOk X pins H b) → tn i s.heap → J.go i H →
    wpAny (model P w) X.A (pyNext (.ref it)) (fun r s1 => ∃ u, r = some u ∧
      wpAny (model P w) X.A (letOwnedTupleGo tg (.ref it) u) (fun _ s2 => ∃ x H', Inv X pins σ H' s2 ∧ RelV x u ∧ J.yld i H x H' ∧ tn (i + 1) s2.heap ∧ ∀ b ∈ fp, H' b = none) E s1) E s
  done : ∀ (X : Cx), X.prog = P → X.w = w → X.K = K → X.calm = true → ∀ (i : Nat) (pins : List (Addr × Obj)) (s : Shared) (σ : St) (H : Hp) (E : Value → Shared → Prop), Inv X pins σ H s → (∀ b ∈ fp, FpOk X pins H b) → tn i s.heap → J.stop i H →
    wpAny (model P w) X.A (pyNext (.ref it)) (fun r s1 => r = none ∧ Inv X pins σ H s1) E s
  self : ∀ (A : Around) (i : Nat) (s : Shared) (Q : Value → Shared → Prop) (E : Value → Shared → Prop), tn i s.heap → Q (.ref it) s → wpAny (model P w) A (pyIter (.ref it)) Q E s
abbrev TI := St → Hp → (It → Hp → Prop) → Prop
def PIE (X : Cx) (pins : List (Addr × Obj)) (σ : St) (tg : Expr) (R : It → Hp → Prop) (itv : Value) (s2 : Shared) : Prop :=
  ∃ (it : Addr) (fp : List Addr) (tn : Nat → Heap → Prop) (J : It) (H' : Hp), itv = .ref it ∧ Inv X pins σ H' s2 ∧ Turn X.prog X.w X.K tg J fp it tn ∧ tn 0 s2.heap ∧ (∀ b ∈ fp, FpOk X pins H' b) ∧ R J H'
def PI (X : Cx) (tg iter : Expr) (wi : TI) : Prop :=
  ∀ (pins : List (Addr × Obj)) (s : Shared) (σ : St) (H : Hp) (R : It → Hp → Prop), Inv X pins σ H s → wi σ H R →
    wpAny (model X.prog X.w) X.A (eval iter X.env) (fun v s1 => wpAny (model X.prog X.w) X.A (pyIter v) (PIE X pins σ tg R) X.xe s1) X.xe s
theorem go_of {M : Model} {A : Around} {E : Value → Shared → Prop} {s : Shared} {tg : Expr} {it : Addr} {u : Value} {o : Obj} {n : String} {vs : Array Value} {Q : Unit → Shared → Prop} (ho : s.heap.get? it = some o) (hc : o.cls = .type n) (hd : o.data = .fields vs)
    (hn : ["enumerate", "zip", "dict_itemiterator", "dict_reverseitemiterator", "odict_iterator", "itertools.zip_longest", "itertools.pairwise"].contains n = false) (hQ : Q () s) : wpAny M A (letOwnedTupleGo tg (.ref it) u) Q E s := by
  unfold letOwnedTupleGo
  cases tg <;> first
    | exact wpAny_pure hQ
    | (cases u <;> first
        | exact wpAny_pure hQ
        | (refine wpAny_bind (wpAny_load ho ?_)
           rw [hc, hd]
           show wpAny M A (if (["enumerate", "zip", "dict_itemiterator", "dict_reverseitemiterator", "odict_iterator", "itertools.zip_longest", "itertools.pairwise"].contains n && vs[0]? == some (rawInt _)) = true then _ else _) Q E s
           rw [if_neg (by intro h; rw [hn, Bool.false_and] at h; cases h)]
           exact wpAny_pure hQ))
def Itl (K : PySem.W.Frag) (a : Addr) : It :=
  ⟨fun i H => ∃ xs x, SqL K H a xs ∧ xs[i]? = some x, fun i H x H' => H' = H ∧ ∀ xs, SqL K H a xs → xs[i]? = some x, fun i H => ∃ xs, SqL K H a xs ∧ xs.length ≤ i⟩
def Itt (K : PySem.W.Frag) (a : Addr) : It :=
  ⟨fun i H => ∃ xs x, SqT K H a xs ∧ xs[i]? = some x, fun i H x H' => H' = H ∧ ∀ xs, SqT K H a xs → xs[i]? = some x, fun i H => ∃ xs, SqT K H a xs ∧ xs.length ≤ i⟩
def Itr (lo : Int) (n : Nat) : It := ⟨fun i _ => i < n, fun i H x H' => H' = H ∧ x = .int (lo + i), fun i _ => n ≤ i⟩
theorem turn_list {P : Program} {w : World} {K : PySem.W.Frag} {tg : Expr} (a it : Addr) : Turn P w K tg (Itl K a) [it] it (fun i h => h.IsListIter it a i) where
  mem := by simp
  obj := fun i h st b hb => by
    have e : b = it := by simpa using hb
    subst e
    obtain ⟨o, e, c, d⟩ := st
    exact ⟨o, e, fun v z => by rw [d] at z; cases z⟩
  keep := fun i h h' st k => st.at fun o e => k it (by simp) o e
  item := by
    intro X hP hw hK hc i pins s σ H E I hf st hg
    subst hP hw hK
    obtain ⟨xs, x, hq, hx⟩ := hg
    obtain ⟨its, rv, p, hz⟩ := I.list hq
    obtain ⟨u, hu, ru⟩ := rv.get hx
    obtain ⟨f0, f1, f2, f3, f4, f5⟩ := hf it (by simp)
    refine wpAny_pyNext_list_item st p.isList (x := u) (by simpa using hu) fun h' st' sb => ?_
    have I1 : Inv X pins σ H { s with heap := h' } := I.turned (t' := s.toks) (fun b o hb e => (sb.2 b hb).trans e) f0 f1 f3 f4 f5
    obtain ⟨o, e, c, d⟩ := id st'
    exact ⟨u, rfl, go_of (s := { s with heap := h' }) e c d (by decide) ⟨x, H, I1, ru, ⟨rfl, fun ys hy => by rw [I.list_inj hy hq]; exact hx⟩, st', fun b hb => (hf b hb).1⟩⟩
  done := by
    intro X hP hw hK hc i pins s σ H E I hf st hg
    subst hP hw hK
    obtain ⟨xs, hq, hx⟩ := hg
    obtain ⟨its, rv, p, hz⟩ := I.list hq
    obtain ⟨f0, f1, f2, f3, f4, f5⟩ := hf it (by simp)
    have hl := rv.length
    exact wpAny_pyNext_list_end (I.ok.hd hc) st p.isList (by simp; omega) fun h' eb => ⟨rfl, I.turned (t' := s.toks) (fun b o hb e => eb b o hb e) f0 f1 f3 f4 f5⟩
  self := fun _ _ _ _ _ st h => wpAny_pyIter_listiter st h
theorem turn_tuple {P : Program} {w : World} {K : PySem.W.Frag} {tg : Expr} (a it : Addr) : Turn P w K tg (Itt K a) [it] it (fun i h => h.IsTupleIter it a i) where
  mem := by simp
  obj := fun i h st b hb => by
    have e : b = it := by simpa using hb
    subst e
    obtain ⟨o, e, c, d⟩ := st
    exact ⟨o, e, fun v z => by rw [d] at z; cases z⟩
  keep := fun i h h' st k => st.at fun o e => k it (by simp) o e
  item := by
    intro X hP hw hK hc i pins s σ H E I hf st hg
    subst hP hw hK
    obtain ⟨xs, x, hq, hx⟩ := hg
    obtain ⟨its, rv, p, hz⟩ := I.tuple hq
    obtain ⟨u, hu, ru⟩ := rv.get hx
    obtain ⟨f0, f1, f2, f3, f4, f5⟩ := hf it (by simp)
    refine wpAny_pyNext_tuple_item st (show s.heap.IsTuple a its.toArray from p) (x := u) (by simpa using hu) fun h' st' sb => ?_
    have I1 : Inv X pins σ H { s with heap := h' } := I.turned (t' := s.toks) (fun b o hb e => (sb.2 b hb).trans e) f0 f1 f3 f4 f5
    obtain ⟨o, e, c, d⟩ := id st'
    exact ⟨u, rfl, go_of (s := { s with heap := h' }) e c d (by decide) ⟨x, H, I1, ru, ⟨rfl, fun ys hy => by rw [I.tuple_inj hy hq]; exact hx⟩, st', fun b hb => (hf b hb).1⟩⟩
  done := by
    intro X hP hw hK hc i pins s σ H E I hf st hg
    subst hP hw hK
    obtain ⟨xs, hq, hx⟩ := hg
    obtain ⟨its, rv, p, hz⟩ := I.tuple hq
    obtain ⟨f0, f1, f2, f3, f4, f5⟩ := hf it (by simp)
    have hl := rv.length
    exact wpAny_pyNext_tuple_end (I.ok.hd hc) st (show s.heap.IsTuple a its.toArray from p) (by simp; omega) fun h' eb => ⟨rfl, I.turned (t' := s.toks) (fun b o hb e => eb b o hb e) f0 f1 f3 f4 f5⟩
  self := fun _ _ _ _ _ st h => wpAny_pyIter_tupleiter st h
theorem turn_range {P : Program} {w : World} {K : PySem.W.Frag} {tg : Expr} (it : Addr) (lo : Int) (n : Nat) : Turn P w K tg (Itr lo n) [it] it (fun i h => IsRangeIter h it (lo + (i : Nat) * 1) ((n : Int) - (i : Nat)) 1) where
  mem := by simp
  obj := fun i h st b hb => by
    have e : b = it := by simpa using hb
    subst e
    exact ⟨_, st, fun v z => by
      have z' : Data.fields _ = Data.cell v := z
      cases z'⟩
  keep := fun i h h' st k => k it (by simp) _ st
  item := by
    intro X hP hw hK hc i pins s σ H E I hf st hg
    subst hP hw hK
    obtain ⟨f0, f1, f2, f3, f4, f5⟩ := hf it (by simp)
    have W := Walks.range (prog := X.prog) (w := X.w) (I.ok.hd hc) it lo 1 n
    refine W.item i s _ _ hg st fun v h' tk hv st' kk => ?_
    obtain ⟨t, rfl⟩ := hv
    have I1 : Inv X pins σ H { s with heap := h', toks := tk } := I.turned (fun b o hb e => kk b o (by simpa using hb) e) f0 f1 f3 f4 f5
    refine ⟨_, rfl, go_of (s := { s with heap := h', toks := tk }) (n := "range_iterator") st' rfl rfl (by decide) ⟨.int (lo + i), H, I1, ⟨t, ?_⟩, ⟨rfl, rfl⟩, st', fun b hb => (hf b hb).1⟩⟩
    rw [Int.mul_one]
  done := by
    intro X hP hw hK hc i pins s σ H E I hf st hg
    subst hP hw hK
    obtain ⟨f0, f1, f2, f3, f4, f5⟩ := hf it (by simp)
    exact wpAny_pyNext_range_end (I.ok.hd hc) st (by have : n ≤ i := hg; omega) fun h' eb => ⟨rfl, I.turned (t' := s.toks) (fun b o hb e => eb b o hb e) f0 f1 f3 f4 f5⟩
  self := fun _ _ _ _ _ st h => wpAny_pyIter_rangeiter st h
end L2
namespace L2
open PySem PySem.Spec PyProof.Rows
section
variable {X : Cx} {tg : Expr}
def iList (K : PySem.W.Frag) (tl : TE) : TI := fun σ H R => tl σ H fun x H1 => ∃ a, x = .ref a ∧ (∃ xs, SqL K H1 a xs) ∧ R (Itl K a) H1
def iTup (K : PySem.W.Frag) (tl : TE) : TI := fun σ H R => tl σ H fun x H1 => ∃ a, x = .ref a ∧ (∃ xs, SqT K H1 a xs) ∧ R (Itt K a) H1
theorem pi_list {l : Expr} {tl : TE} (hl : PE X l tl) : PI X tg l (iList X.K tl) := by
  intro pins s σ H R I h
  refine thn (hl pins s σ H _ I h) fun v s1 ⟨x, H1, I1, r1, q1⟩ => ?_
  obtain ⟨a, e, ⟨xs, hq⟩, q⟩ := q1
  subst e
  cases r1
  obtain ⟨its, rv, p, hz⟩ := I1.list hq
  refine wpAny_pyIter_list p.isList ?_
  refine ⟨s1.heap.objs.size, [s1.heap.objs.size], _, _, H1, rfl, I1.kept (t' := s1.toks) fun b o e => Heap.get?_push_of_some _ e, turn_list a _, ⟨_, Heap.get?_push_size _ rfl, rfl, rfl⟩, fun b hb => ?_, q⟩
  have e : b = s1.heap.objs.size := by simpa using hb
  subst e
  exact I1.fpOk (Nat.le_refl _) (I1.hok.fresh (Nat.le_refl _))
theorem pi_tup {l : Expr} {tl : TE} (hl : PE X l tl) : PI X tg l (iTup X.K tl) := by
  intro pins s σ H R I h
  refine thn (hl pins s σ H _ I h) fun v s1 ⟨x, H1, I1, r1, q1⟩ => ?_
  obtain ⟨a, e, ⟨xs, hq⟩, q⟩ := q1
  subst e
  cases r1
  obtain ⟨its, rv, p, hz⟩ := I1.tuple hq
  refine wpAny_pyIter_tuple (show s1.heap.IsTuple a its.toArray from p) ?_
  refine ⟨s1.heap.objs.size, [s1.heap.objs.size], _, _, H1, rfl, I1.kept (t' := s1.toks) fun b o e => Heap.get?_push_of_some _ e, turn_tuple a _, ⟨_, Heap.get?_push_size _ rfl, rfl, rfl⟩, fun b hb => ?_, q⟩
  have e : b = s1.heap.objs.size := by simpa using hb
  subst e
  exact I1.fpOk (Nat.le_refl _) (I1.hok.fresh (Nat.le_refl _))
theorem range_it {pins : List (Addr × Obj)} {σ : St} {H : Hp} {s : Shared} {R : It → Hp → Prop} {E : Value → Shared → Prop} {lo hi : Int} {t u v : Tok} {tk : Nat} (I : Inv X pins σ H s) (h1 : -(2 ^ 62) ≤ lo) (h2 : lo < 2 ^ 62) (h3 : -(2 ^ 62) ≤ hi) (h4 : hi < 2 ^ 62)
    (q : R (Itr lo (hi - lo).toNat) H) : wpAny (model X.prog X.w) X.A (pyIter (.ref s.heap.objs.size)) (PIE X pins σ tg R) E { s with heap := s.heap.push { cls := .type "range", data := .fields #[.int lo t, .int hi u, .int 1 v] }, toks := tk } := by
  refine wpAny_pyIter_range (IsRange.new ..) (small_one h1 h2 h3 h4) ?_
  have I1 : Inv X pins σ H { s with heap := s.heap.push { cls := .type "range", data := .fields #[.int lo t, .int hi u, .int 1 v] }, toks := tk } := I.kept fun b o e => Heap.get?_push_of_some _ e
  refine ⟨(s.heap.push { cls := .type "range", data := .fields #[.int lo t, .int hi u, .int 1 v] }).objs.size, [(s.heap.push { cls := .type "range", data := .fields #[.int lo t, .int hi u, .int 1 v] }).objs.size], _, _, H, rfl,
    I1.kept (t' := tk) fun b o e => Heap.get?_push_of_some _ e, turn_range _ lo (hi - lo).toNat, ?_, fun b hb => ?_, q⟩
  · have e1 : lo + ((0 : Nat) : Int) * 1 = lo := by simp
    have e2 : (((hi - lo).toNat : Nat) : Int) - ((0 : Nat) : Int) = Builtin.Range.rangeSize lo hi 1 := by rw [rangeSize_one]; split <;> omega
    show IsRangeIter _ _ (lo + ((0 : Nat) : Int) * 1) ((((hi - lo).toNat : Nat) : Int) - ((0 : Nat) : Int)) 1
    rw [e1, e2]
    exact Heap.get?_push_size _ rfl
  · have e : b = (s.heap.push { cls := .type "range", data := .fields #[.int lo t, .int hi u, .int 1 v] }).objs.size := by simpa using hb
    subst e
    exact I1.fpOk (Nat.le_refl _) (I1.hok.fresh (Nat.le_refl _))
def iRng1 (ta : TA) : TI := fun σ H R => ta σ H fun vs H1 => ∃ j : Int, vs = [.int j] ∧ -(2 ^ 62) ≤ j ∧ j < 2 ^ 62 ∧ R (Itr 0 j.toNat) H1
theorem pi_range1 {a : Expr} {ta : TA} {p pos : Pos} (hg : Gl X "range") (hm : X.mg "range" = none) (ha : PA X [a] ta) (hs : starEach [a] X.env = [(false, eval a X.env)] := by rfl) : PI X tg (.Call (.Name "range" p) [a] [] pos) (iRng1 ta) := by
  intro pins s σ H R I h
  refine Call_ (ld_blt I hg hm boot_range (PyProof.Rows.callWith_type1 (thn (ha pos pins s σ H _ I h) fun us s1 ⟨vs, H1, I1, r1, q1⟩ => ?_) hs rfl))
  obtain ⟨j, e, q1, q2, q⟩ := q1
  subst e
  cases r1 with
  | cons r rr =>
    cases rr
    obtain ⟨t, rfl⟩ := r
    exact call_range_1 (range_it I1 (by omega) (by omega) q1 q2 (by simpa using q))
def tFor (wi : TI) (g : TG) (tb : TS) : TS := fun D σ H => wi σ H fun J H1 => ∃ W : Nat → Nat → St → Hp → Prop, (∃ m, W 0 m σ H1) ∧ ∀ i m σ H, W i m σ H →
  (J.stop i H ∧ D.nx σ H) ∨ (J.go i H ∧ ∃ N : St → Hp → Prop, (∀ σ' H', N σ' H' → ∃ m', m' < m ∧ W (i + 1) m' σ' H') ∧ ∀ x H', J.yld i H x H' → g x σ H' fun σ2 H2 => tb { D with nx := N, ct := N, bk := D.nx } σ2 H2)
def pinsAt (fp : List Addr) (h : Heap) : List (Addr × Obj) := fp.filterMap fun b => (h.get? b).map fun o => (b, o)
theorem mem_pinsAt {fp : List Addr} {h : Heap} {b : Addr} {o : Obj} (hb : b ∈ fp) (e : h.get? b = some o) : (b, o) ∈ pinsAt fp h := List.mem_filterMap.mpr ⟨b, hb, by rw [e]; rfl⟩
theorem of_pinsAt {fp : List Addr} {h : Heap} {p : Addr × Obj} (hp : p ∈ pinsAt fp h) : p.1 ∈ fp ∧ h.get? p.1 = some p.2 := by
  obtain ⟨b, hb, e⟩ := List.mem_filterMap.mp hp
  cases q : h.get? b with
  | none => rw [q] at e; cases e
  | some o =>
    rw [q] at e
    have e' : (b, o) = p := Option.some.inj e
    subst e'
    exact ⟨hb, q⟩
theorem Inv.pinned {pins : List (Addr × Obj)} {σ : St} {H : Hp} {s : Shared} {fp : List Addr} (I : Inv X pins σ H s) (hf : ∀ b ∈ fp, FpOk X pins H b) (ho : ∀ b ∈ fp, ∃ o, s.heap.get? b = some o ∧ ∀ v, o.data ≠ .cell v) : Inv X (pins ++ pinsAt fp s.heap) σ H s :=
  I.pins_of fun p hp => (List.mem_append.mp hp).elim (fun z => I.pin p (List.mem_append_right _ z)) fun z => by
    obtain ⟨hb, e⟩ := of_pinsAt z
    obtain ⟨f0, f1, f2, _⟩ := hf p.1 hb
    obtain ⟨o, e', d⟩ := ho p.1 hb
    rw [e] at e'; cases e'
    exact ⟨e, f0, f1, f2, d⟩
theorem Inv.unpinned {pins pl : List (Addr × Obj)} {σ : St} {H : Hp} {s : Shared} (I : Inv X (pins ++ pl) σ H s) : Inv X pins σ H s := I.pins_of fun p hp => I.pin p (List.mem_append_right _ (List.mem_append_left _ hp))
theorem ps_for {iter : Expr} {body : List Stmt} {wi : TI} {g : TG} {tb : TS} {pos : Pos} (hp : PassesOwn (model X.prog X.w) X.A X.env X.xe) (hc : X.calm = true) (hi : PI X tg iter wi) (hg : PG X tg g) (hb : PSs X body tb)
    (hs : ∀ x, foldedSetIterable iter X.env x = pure x := by intro _; rfl) : PS X (.For tg iter body [] pos) (tFor wi g tb) := by
  intro pins s σ H D I h
  refine wpAny_For (thn (hi pins s σ H _ I h) fun v s1 h1 => thn h1 fun itv s2 h2 => ?_) hs
  obtain ⟨it, fp, tn, J, H2, e, I2, T, st2, f2, W, ⟨m0, w0⟩, turn⟩ := h2
  subst e
  -- what stays true of the iterator's objects through the loop
  have stat : ∀ {H' : Hp}, (∀ b ∈ fp, H' b = none) → ∀ b ∈ fp, FpOk X pins H' b := fun hn b hb => ⟨hn b hb, (f2 b hb).2⟩
  refine codeAny_forLoop_any (fun n s' => ∃ i σ' H', Inv X pins σ' H' s' ∧ tn i s'.heap ∧ (∀ b ∈ fp, H' b = none) ∧ W i n σ' H') ?_ m0 ⟨0, σ, H2, I2, st2, fun b hb => (f2 b hb).1, w0⟩
  rintro n s3 ⟨i, σ3, H3, I3, st3, fr3, w3⟩
  rcases turn i n σ3 H3 w3 with ⟨stop, qn⟩ | ⟨go, N, hN, step⟩
  · refine wpAny_passesOwn hp (thn (T.done X rfl rfl rfl hc i pins s3 σ3 H3 X.xe I3 (stat fr3) st3 stop) fun r s4 ⟨hr, I4⟩ => ?_)
    subst hr
    exact wpAny_execs_nil ⟨σ3, H3, I4, qn⟩
  · refine wpAny_passesOwn hp (thn (T.item X rfl rfl rfl hc i pins s3 σ3 H3 X.xe I3 (stat fr3) st3 go) fun r s4 ⟨u, hr, h4⟩ => ?_)
    subst hr
    refine wpAny_passesOwn hp (thn h4 fun _ s5 ⟨x, H5, I5, r5, y5, st5, fr5⟩ => ?_)
    have I5' := I5.pinned (stat fr5) (T.obj _ _ st5)
    refine wpAny_passesOwn hp (thn (hg _ s5 σ3 H5 x u _ I5' r5 (step x H5 y5)) fun _ s6 ⟨σ6, H6, I6, q6⟩ => ?_)
    refine wpAny_passesOwn hp (thn (hb _ s6 σ6 H6 _ I6 q6) fun f s7 q7 => ?_)
    have again : ∀ {σ7 : St} {H7 : Hp}, Inv X (pins ++ pinsAt fp s5.heap) σ7 H7 s7 → N σ7 H7 → ∃ m, m < n ∧ ∃ i σ' H', Inv X pins σ' H' s7 ∧ tn i s7.heap ∧ (∀ b ∈ fp, H' b = none) ∧ W i m σ' H' := fun {σ7 H7} I7 n7 => by
      obtain ⟨m', hm, w7⟩ := hN σ7 H7 n7
      refine ⟨m', hm, i + 1, σ7, H7, I7.unpinned, T.keep _ _ _ st5 fun b hb o e => (I7.pin (b, o) (List.mem_append_right _ (List.mem_append_right _ (mem_pinsAt hb e)))).1, fun b hb => ?_, w7⟩
      obtain ⟨o, e, d⟩ := T.obj _ _ st5 b hb
      exact (I7.pin (b, o) (List.mem_append_right _ (List.mem_append_right _ (mem_pinsAt hb e)))).2.1
    cases f with
    | next => obtain ⟨σ7, H7, I7, n7⟩ := q7; exact again I7 n7
    | cont => obtain ⟨σ7, H7, I7, n7⟩ := q7; exact again I7 n7
    | brk => obtain ⟨σ7, H7, I7, q7⟩ := q7; exact ⟨σ7, H7, I7.unpinned, q7⟩
    | ret v => obtain ⟨x7, σ7, H7, I7, r7, q7⟩ := q7; exact ⟨x7, σ7, H7, I7.unpinned, r7, q7⟩
end
theorem for_list {K : PySem.W.Frag} {a : Addr} {xs : List V} {g : TG} {tb : TS} {D : Ends} {σ : St} {H : Hp} (Pv : Nat → St → Hp → Prop) (h0 : Pv 0 σ H) (hl : ∀ i σ H, i ≤ xs.length → Pv i σ H → SqL K H a xs)
    (hs : ∀ i x σ H, xs[i]? = some x → Pv i σ H → g x σ H fun σ2 H2 => tb { D with nx := Pv (i + 1), ct := Pv (i + 1), bk := D.nx } σ2 H2) (hd : ∀ σ H, Pv xs.length σ H → D.nx σ H) :
    ∃ W : Nat → Nat → St → Hp → Prop, (∃ m, W 0 m σ H) ∧ ∀ i m σ H, W i m σ H →
      ((Itl K a).stop i H ∧ D.nx σ H) ∨ ((Itl K a).go i H ∧ ∃ N : St → Hp → Prop, (∀ σ' H', N σ' H' → ∃ m', m' < m ∧ W (i + 1) m' σ' H') ∧ ∀ x H', (Itl K a).yld i H x H' → g x σ H' fun σ2 H2 => tb { D with nx := N, ct := N, bk := D.nx } σ2 H2) := by
  refine ⟨fun i m σ H => m = xs.length - i ∧ i ≤ xs.length ∧ Pv i σ H, ⟨xs.length, by simp, Nat.zero_le _, h0⟩, ?_⟩
  rintro i m σ H ⟨rfl, hi, p⟩
  have q := hl i σ H hi p
  by_cases hlt : i < xs.length
  · refine .inr ⟨⟨xs, xs[i], q, by simp [hlt]⟩, Pv (i + 1), fun σ' H' p' => ⟨xs.length - (i + 1), by omega, rfl, hlt, p'⟩, fun x H' y => ?_⟩
    obtain ⟨e, y⟩ := y
    subst e
    exact hs i x σ _ (y xs q) p
  · have e : i = xs.length := by omega
    subst e
    exact .inl ⟨⟨xs, q, Nat.le_refl _⟩, hd σ H p⟩
theorem for_tup {K : PySem.W.Frag} {a : Addr} {xs : List V} {g : TG} {tb : TS} {D : Ends} {σ : St} {H : Hp} (Pv : Nat → St → Hp → Prop) (h0 : Pv 0 σ H) (hl : ∀ i σ H, i ≤ xs.length → Pv i σ H → SqT K H a xs)
    (hs : ∀ i x σ H, xs[i]? = some x → Pv i σ H → g x σ H fun σ2 H2 => tb { D with nx := Pv (i + 1), ct := Pv (i + 1), bk := D.nx } σ2 H2) (hd : ∀ σ H, Pv xs.length σ H → D.nx σ H) :
    ∃ W : Nat → Nat → St → Hp → Prop, (∃ m, W 0 m σ H) ∧ ∀ i m σ H, W i m σ H →
      ((Itt K a).stop i H ∧ D.nx σ H) ∨ ((Itt K a).go i H ∧ ∃ N : St → Hp → Prop, (∀ σ' H', N σ' H' → ∃ m', m' < m ∧ W (i + 1) m' σ' H') ∧ ∀ x H', (Itt K a).yld i H x H' → g x σ H' fun σ2 H2 => tb { D with nx := N, ct := N, bk := D.nx } σ2 H2) := by
  refine ⟨fun i m σ H => m = xs.length - i ∧ i ≤ xs.length ∧ Pv i σ H, ⟨xs.length, by simp, Nat.zero_le _, h0⟩, ?_⟩
  rintro i m σ H ⟨rfl, hi, p⟩
  have q := hl i σ H hi p
  by_cases hlt : i < xs.length
  · refine .inr ⟨⟨xs, xs[i], q, by simp [hlt]⟩, Pv (i + 1), fun σ' H' p' => ⟨xs.length - (i + 1), by omega, rfl, hlt, p'⟩, fun x H' y => ?_⟩
    obtain ⟨e, y⟩ := y
    subst e
    exact hs i x σ _ (y xs q) p
  · have e : i = xs.length := by omega
    subst e
    exact .inl ⟨⟨xs, q, Nat.le_refl _⟩, hd σ H p⟩
theorem for_range {lo : Int} {n : Nat} {g : TG} {tb : TS} {D : Ends} {σ : St} {H : Hp} (Pv : Nat → St → Hp → Prop) (h0 : Pv 0 σ H)
    (hs : ∀ i σ H, i < n → Pv i σ H → g (.int (lo + i)) σ H fun σ2 H2 => tb { D with nx := Pv (i + 1), ct := Pv (i + 1), bk := D.nx } σ2 H2) (hd : ∀ σ H, Pv n σ H → D.nx σ H) :
    ∃ W : Nat → Nat → St → Hp → Prop, (∃ m, W 0 m σ H) ∧ ∀ i m σ H, W i m σ H →
      ((Itr lo n).stop i H ∧ D.nx σ H) ∨ ((Itr lo n).go i H ∧ ∃ N : St → Hp → Prop, (∀ σ' H', N σ' H' → ∃ m', m' < m ∧ W (i + 1) m' σ' H') ∧ ∀ x H', (Itr lo n).yld i H x H' → g x σ H' fun σ2 H2 => tb { D with nx := N, ct := N, bk := D.nx } σ2 H2) := by
  refine ⟨fun i m σ H => m = n - i ∧ i ≤ n ∧ Pv i σ H, ⟨n, by simp, Nat.zero_le _, h0⟩, ?_⟩
  rintro i m σ H ⟨rfl, hi, p⟩
  by_cases hlt : i < n
  · refine .inr ⟨hlt, Pv (i + 1), fun σ' H' p' => ⟨n - (i + 1), by omega, rfl, hlt, p'⟩, fun x H' y => ?_⟩
    obtain ⟨e, y⟩ := y
    subst e y
    exact hs i σ _ hlt p
  · have e : i = n := by omega
    subst e
    exact .inl ⟨Nat.le_refl _, hd σ H p⟩
end L2
namespace L2
open PySem PySem.Spec PyProof.Rows
abbrev R2 := V → V → Hp → VK → Prop
def OpR (X : Cx) (f : Value → Value → Sem Value) (r : R2) : Prop :=
  ∀ (pins : List (Addr × Obj)) (s : Shared) (σ : St) (H : Hp) (x y : V) (v u : Value) (Q : VK), Inv X pins σ H s → RelV x v → RelV y u → r x y H Q →
    wpAny (model X.prog X.w) X.A (f v u) (EP X pins σ Q) X.xe s
def UnR (X : Cx) (f : Value → Sem Value) (r : V → Hp → VK → Prop) : Prop :=
  ∀ (pins : List (Addr × Obj)) (s : Shared) (σ : St) (H : Hp) (x : V) (v : Value) (Q : VK), Inv X pins σ H s → RelV x v → r x H Q →
    wpAny (model X.prog X.w) X.A (f v) (EP X pins σ Q) X.xe s
def CallR (X : Cx) (f : Value) (r : List V → Hp → VK → Prop) : Prop :=
  ∀ (pins : List (Addr × Obj)) (s : Shared) (σ : St) (H : Hp) (xs : List V) (us : List Value) (Q : VK), Inv X pins σ H s → Vals xs us → r xs H Q →
    wpAny (model X.prog X.w) X.A (call f us) (EP X pins σ Q) X.xe s
def tOp (r : R2) (ta tb : TE) : TE := fun σ H Q => ta σ H fun x H1 => tb σ H1 fun y H2 => r x y H2 Q
def tUn (r : V → Hp → VK → Prop) (ta : TE) : TE := fun σ H Q => ta σ H fun x H1 => r x H1 Q
def rI (C : Int → Int → Prop) (g : Int → Int → V) : R2 := fun x y H Q => ∃ i j, x = .int i ∧ y = .int j ∧ C i j ∧ Q (g i j) H
def rI0 (g : Int → Int → V) : R2 := fun x y H Q => ∃ i j, x = .int i ∧ y = .int j ∧ Q (g i j) H
def rU (g : Int → V) : V → Hp → VK → Prop := fun x H Q => ∃ i, x = .int i ∧ Q (g i) H
section
variable {X : Cx} {a b c : Expr} {ta tb tc : TE} {pos : Pos}
theorem binT (ha : PE X a ta) (hb : PE X b tb) {pins : List (Addr × Obj)} {s : Shared} {σ : St} {H : Hp} {R : V → V → Hp → Prop} (I : Inv X pins σ H s)
    (h : ta σ H fun x H1 => tb σ H1 fun y H2 => R x y H2) {Q : Value → Shared → Prop} {f : Value → Value → Sem Value}
    (hf : ∀ v u s2 x y H2, Inv X pins σ H2 s2 → RelV x v → RelV y u → R x y H2 → wpAny (model X.prog X.w) X.A (f v u) Q X.xe s2) :
    wpAny (model X.prog X.w) X.A (eval a X.env) (fun v s₁ => wpAny (model X.prog X.w) X.A (eval b X.env) (fun u s₂ => wpAny (model X.prog X.w) X.A (f v u) Q X.xe s₂) X.xe s₁) X.xe s := by
  refine thn (ha pins s σ H _ I h) fun v s1 ⟨x, H1, I1, r1, q1⟩ => ?_
  refine thn (hb pins s1 σ H1 _ I1 q1) fun u s2 ⟨y, H2, I2, r2, q2⟩ => ?_
  exact hf v u s2 x y H2 I2 r1 r2 q2
theorem pe_op {op : Operator} {r : R2} (ho : OpR X (binaryOp op) r) (ha : PE X a ta) (hb : PE X b tb) : PE X (.BinOp a op b pos) (tOp r ta tb) := by
  intro pins s σ H Q I h
  exact wpAny_BinOp (binT ha hb I h fun v u s2 x y H2 I2 rx ry q => ho pins s2 σ H2 x y v u Q I2 rx ry q)
theorem pe_un {op : UnaryOp} {r : V → Hp → VK → Prop} (ho : UnR X (unaryOp op) r) (ha : PE X a ta) : PE X (.UnaryOp op a pos) (tUn r ta) := by
  intro pins s σ H Q I h
  exact UnaryOp_ (thn (ha pins s σ H _ I h) fun v s1 ⟨x, H1, I1, r1, q1⟩ => ho pins s1 σ H1 x v Q I1 r1 q1)
theorem opI {f : Value → Value → Sem Value} {C : Int → Int → Prop} {g : Int → Int → Int}
    (rule : ∀ (i j : Int) (t u : Tok) (s : Shared) (Q : Value → Shared → Prop) (E : Value → Shared → Prop), C i j → Q (.int (g i j) s.toks) { s with toks := s.toks + 1 } → wpAny (model X.prog X.w) X.A (f (.int i t) (.int j u)) Q E s) :
    OpR X f (rI C fun i j => .int (g i j)) := by
  intro pins s σ H x y v u Q I rx ry h
  obtain ⟨i, j, rfl, rfl, hc, q⟩ := h
  obtain ⟨t, rfl⟩ := rx
  obtain ⟨t', rfl⟩ := ry
  exact rule i j t t' s _ _ hc ⟨.int (g i j), H, I.tok _, ⟨_, rfl⟩, q⟩
theorem opI0 {f : Value → Value → Sem Value} {g : Int → Int → Int}
    (rule : ∀ (i j : Int) (t u : Tok) (s : Shared) (Q : Value → Shared → Prop) (E : Value → Shared → Prop), Q (.int (g i j) s.toks) { s with toks := s.toks + 1 } → wpAny (model X.prog X.w) X.A (f (.int i t) (.int j u)) Q E s) :
    OpR X f (rI0 fun i j => .int (g i j)) := by
  intro pins s σ H x y v u Q I rx ry h
  obtain ⟨i, j, rfl, rfl, q⟩ := h
  obtain ⟨t, rfl⟩ := rx
  obtain ⟨t', rfl⟩ := ry
  exact rule i j t t' s _ _ ⟨.int (g i j), H, I.tok _, ⟨_, rfl⟩, q⟩
theorem opB0 {f : Value → Value → Sem Value} {g : Int → Int → Bool}
    (rule : ∀ (i j : Int) (t u : Tok) (s : Shared) (Q : Value → Shared → Prop) (E : Value → Shared → Prop), Q (.bool (g i j)) s → wpAny (model X.prog X.w) X.A (f (.int i t) (.int j u)) Q E s) :
    OpR X f (rI0 fun i j => .bl (g i j)) := by
  intro pins s σ H x y v u Q I rx ry h
  obtain ⟨i, j, rfl, rfl, q⟩ := h
  obtain ⟨t, rfl⟩ := rx
  obtain ⟨t', rfl⟩ := ry
  exact rule i j t t' s _ _ ⟨.bl (g i j), H, I, rfl, q⟩
def CPow (i j : Int) : Prop := 0 ≤ j ∧ j ≤ 1000000 ∧ i.natAbs < 2 ^ 64
def CMul (i j : Int) : Prop := (-(2 ^ 64) < i ∧ i < 2 ^ 64) ∨ (-(2 ^ 64) < j ∧ j < 2 ^ 64)
theorem CMul.ok {i j : Int} (h : CMul i j) : IntMulOk i j := by
  rcases h with ⟨h1, h2⟩ | ⟨h1, h2⟩
  · exact .of_left (intBits_le_64 h1 h2)
  · exact .of_right (intBits_le_64 h1 h2)
theorem op_add : OpR X (binaryOp .Add) (rI0 fun i j => .int (i + j)) := opI0 fun _ _ _ _ _ _ _ q => add_int q
theorem op_sub : OpR X (binaryOp .Sub) (rI0 fun i j => .int (i - j)) := opI0 fun _ _ _ _ _ _ _ q => sub_int q
theorem op_mul : OpR X (binaryOp .Mult) (rI CMul fun i j => .int (i * j)) := opI fun _ _ _ _ _ _ _ hc q => mul_int q hc.ok
theorem op_mod : OpR X (binaryOp .Mod) (rI (fun _ j => 0 < j) fun i j => .int (i % j)) := opI fun i j _ _ _ _ _ hc q => by
  have h1 : (0 : Int) < j := hc
  exact mod_int' (by omega) (by rw [Int.fmod_eq_emod_of_nonneg i (by omega)]; exact q)
theorem op_pow : OpR X (binaryOp .Pow) (rI CPow fun i j => .int (i ^ j.toNat)) := opI fun _ _ _ _ _ _ _ hc q => pow_int_small hc.1 hc.2.1 hc.2.2 q
theorem unI {f : Value → Sem Value} {g : Int → Int}
    (rule : ∀ (i : Int) (t : Tok) (s : Shared) (Q : Value → Shared → Prop) (E : Value → Shared → Prop), Q (.int (g i) s.toks) { s with toks := s.toks + 1 } → wpAny (model X.prog X.w) X.A (f (.int i t)) Q E s) :
    UnR X f (rU fun i => .int (g i)) := by
  intro pins s σ H x v Q I rx h
  obtain ⟨i, rfl, q⟩ := h
  obtain ⟨t, rfl⟩ := rx
  exact rule i t s _ _ ⟨.int (g i), H, I.tok _, ⟨_, rfl⟩, q⟩
theorem un_neg : UnR X (unaryOp .USub) (rU fun i => .int (-i)) := unI fun _ _ _ _ _ q => neg_int q
end
def scal : V → V → Bool
  | .non, .non => true | .non, .int _ => true | .int _, .non => true | .non, .bl _ => true | .bl _, .non => true | .non, .str _ => true | .str _, .non => true
  | .int _, .int _ => true | .bl _, .bl _ => true | .str _, .str _ => true | .byt _, .byt _ => true
  | .int _, .str _ => true | .str _, .int _ => true | .bl _, .str _ => true | .str _, .bl _ => true
  | _, _ => false
def rEq : R2 := fun x y H Q => scal x y = true ∧ Q (.bl (decide (x = y))) H
def rNe : R2 := fun x y H Q => scal x y = true ∧ Q (.bl (!decide (x = y))) H
theorem dec_int {i j : Int} : decide (V.int i = V.int j) = (i == j) := by
  rw [Bool.eq_iff_iff]
  simp
theorem dec_bl {i j : Bool} : decide (V.bl i = V.bl j) = (i == j) := by
  rw [Bool.eq_iff_iff]
  simp
theorem dec_str {i j : Str} : decide (V.str i = V.str j) = (i == j) := by
  rw [Bool.eq_iff_iff]
  simp
theorem dec_byt {i j : Array UInt8} : decide (V.byt i = V.byt j) = (i.toList == j.toList) := by
  rw [Bool.eq_iff_iff]
  cases i
  cases j
  simp
section
variable {X : Cx} {a b c : Expr} {ta tb tc : TE} {pos : Pos}
theorem fin_bl {pins : List (Addr × Obj)} {σ : St} {H : Hp} {s : Shared} {Q : VK} {k k' : Bool} (I : Inv X pins σ H s) (q : Q (.bl k) H) (e : k = k') : EP X pins σ Q (.bool k') s := by
  subst e
  exact ⟨.bl k, H, I, rfl, q⟩
theorem op_eq : OpR X (compareOp .Eq) rEq := by
  intro pins s σ H x y v u Q I rx ry h
  obtain ⟨hs, q⟩ := h
  cases x with
  | non =>
    cases rx
    cases y with
    | non => cases ry; exact PySem.EqNone.eq_none_none (fin_bl I q (by simp))
    | bl j => cases ry; exact PySem.EqNone.eq_none_bool (fin_bl I q (by simp))
    | int j => obtain ⟨t', rfl⟩ := ry; exact PySem.EqNone.eq_none_int (fin_bl I q (by simp))
    | str j => obtain ⟨t', rfl⟩ := ry; exact PySem.EqNone.eq_none_str (fin_bl I q (by simp))
    | _ => exact absurd (show false = true from hs) Bool.false_ne_true
  | bl i =>
    cases rx
    cases y with
    | non => cases ry; exact PySem.EqNone.eq_bool_none (fin_bl I q (by simp))
    | bl j => cases ry; exact eq_bool (fin_bl I q dec_bl)
    | str j => obtain ⟨t', rfl⟩ := ry; exact PySem.EqMixed.eq_bool_str (fin_bl I q (by simp))
    | _ => exact absurd (show false = true from hs) Bool.false_ne_true
  | int i =>
    obtain ⟨t, rfl⟩ := rx
    cases y with
    | non => cases ry; exact PySem.EqNone.eq_int_none (fin_bl I q (by simp))
    | int j => obtain ⟨t', rfl⟩ := ry; exact eq_int (fin_bl I q dec_int)
    | str j => obtain ⟨t', rfl⟩ := ry; exact PySem.EqMixed.eq_int_str (fin_bl I q (by simp))
    | _ => exact absurd (show false = true from hs) Bool.false_ne_true
  | str i =>
    obtain ⟨t, rfl⟩ := rx
    cases y with
    | non => cases ry; exact PySem.EqNone.eq_str_none (fin_bl I q (by simp))
    | bl j => cases ry; exact PySem.EqMixed.eq_str_bool (fin_bl I q (by simp))
    | int j => obtain ⟨t', rfl⟩ := ry; exact PySem.EqMixed.eq_str_int (fin_bl I q (by simp))
    | str j => obtain ⟨t', rfl⟩ := ry; exact eq_str (fin_bl I q dec_str)
    | _ => exact absurd (show false = true from hs) Bool.false_ne_true
  | byt i =>
    obtain ⟨t, rfl⟩ := rx
    cases y with
    | byt j => obtain ⟨t', rfl⟩ := ry; exact PySem.W.eq_bytes (fin_bl I q dec_byt)
    | _ => exact absurd (show false = true from hs) Bool.false_ne_true
  | _ => cases y <;> exact absurd (show false = true from hs) Bool.false_ne_true
theorem op_ne : OpR X (compareOp .NotEq) rNe := by
  intro pins s σ H x y v u Q I rx ry h
  obtain ⟨hs, q⟩ := h
  cases x with
  | non =>
    cases rx
    cases y with
    | non => cases ry; exact PySem.EqNone.ne_none_none (fin_bl I q (by simp))
    | bl j => cases ry; exact PySem.EqNone.ne_none_bool (fin_bl I q (by simp))
    | int j => obtain ⟨t', rfl⟩ := ry; exact PySem.EqNone.ne_none_int (fin_bl I q (by simp))
    | str j => obtain ⟨t', rfl⟩ := ry; exact PySem.EqNone.ne_none_str (fin_bl I q (by simp))
    | _ => exact absurd (show false = true from hs) Bool.false_ne_true
  | bl i =>
    cases rx
    cases y with
    | non => cases ry; exact PySem.EqNone.ne_bool_none (fin_bl I q (by simp))
    | bl j => cases ry; exact ne_bool (fin_bl I q (congrArg not dec_bl))
    | str j => obtain ⟨t', rfl⟩ := ry; exact PySem.EqMixed.ne_bool_str (fin_bl I q (by simp))
    | _ => exact absurd (show false = true from hs) Bool.false_ne_true
  | int i =>
    obtain ⟨t, rfl⟩ := rx
    cases y with
    | non => cases ry; exact PySem.EqNone.ne_int_none (fin_bl I q (by simp))
    | int j => obtain ⟨t', rfl⟩ := ry; exact ne_int (fin_bl I q (congrArg not dec_int))
    | str j => obtain ⟨t', rfl⟩ := ry; exact PySem.EqMixed.ne_int_str (fin_bl I q (by simp))
    | _ => exact absurd (show false = true from hs) Bool.false_ne_true
  | str i =>
    obtain ⟨t, rfl⟩ := rx
    cases y with
    | non => cases ry; exact PySem.EqNone.ne_str_none (fin_bl I q (by simp))
    | bl j => cases ry; exact PySem.EqMixed.ne_str_bool (fin_bl I q (by simp))
    | int j => obtain ⟨t', rfl⟩ := ry; exact PySem.EqMixed.ne_str_int (fin_bl I q (by simp))
    | str j => obtain ⟨t', rfl⟩ := ry; exact ne_str (fin_bl I q (congrArg not dec_str))
    | _ => exact absurd (show false = true from hs) Bool.false_ne_true
  | byt i =>
    obtain ⟨t, rfl⟩ := rx
    cases y with
    | byt j => obtain ⟨t', rfl⟩ := ry; exact PySem.W.ne_bytes (fin_bl I q (congrArg not dec_byt))
    | _ => exact absurd (show false = true from hs) Bool.false_ne_true
  | _ => cases y <;> exact absurd (show false = true from hs) Bool.false_ne_true
theorem op_lt : OpR X (compareOp .Lt) (rI0 fun i j => .bl (decide (i < j))) := opB0 fun _ _ _ _ _ _ _ q => lt_int q
theorem op_le : OpR X (compareOp .LtE) (rI0 fun i j => .bl (decide (i ≤ j))) := opB0 fun _ _ _ _ _ _ _ q => le_int q
theorem op_gt : OpR X (compareOp .Gt) (rI0 fun i j => .bl (decide (j < i))) := opB0 fun _ _ _ _ _ _ _ q => gt_int q
theorem op_ge : OpR X (compareOp .GtE) (rI0 fun i j => .bl (decide (j ≤ i))) := opB0 fun _ _ _ _ _ _ _ q => ge_int q
theorem nomark (b : Expr) {op : CmpOp} (h : op ≠ .In := by decide) (h2 : op ≠ .NotIn := by decide) : behindInMarks op b = false := by
  have e1 : (op == CmpOp.In) = false := by cases op <;> first | rfl | exact absurd rfl h
  have e2 : (op == CmpOp.NotIn) = false := by cases op <;> first | rfl | exact absurd rfl h2
  cases b <;> simp [behindInMarks, e1, e2]
theorem pe_cmpR {op : CmpOp} {r : R2} (ho : OpR X (compareOp op) r) (ha : PE X a ta) (hb : PE X b tb) (hm : behindInMarks op b = false) : PE X (.Compare a [op] [b] pos) (tOp r ta tb) := by
  intro pins s σ H Q I h
  exact wpAny_Compare1 (binT ha hb I h fun v u s2 x y H2 I2 rx ry q => ho pins s2 σ H2 x y v u Q I2 rx ry q) hm
def tTest (t : TE) : TT := fun σ H Q => t σ H fun x H' => ∃ k, x = .bl k ∧ Q k H'
theorem pt_cmpR {op : CmpOp} {r : R2} (ho : OpR X (compareOp op) r) (ha : PE X a ta) (hb : PE X b tb) (hm : behindInMarks op b = false) : PT X (.Compare a [op] [b] pos) (tTest (tOp r ta tb)) := by
  intro pins s σ H Q I h
  refine wpAny_isTrue_Compare1 (thn (ha pins s σ H _ I h) fun v s1 ⟨x, H1, I1, r1, q1⟩ => thn (hb pins s1 σ H1 _ I1 q1) fun u s2 ⟨y, H2, I2, r2, q2⟩ =>
    thn (ho pins s2 σ H2 x y v u _ I2 r1 r2 q2) fun c s3 ⟨z, H3, I3, r3, k, e, q3⟩ => ?_) hm
  subst e
  cases r3
  exact wpAny_truthy_bool ⟨H3, I3, q3⟩
def tChain (r r' : R2) (ta tb tc : TE) : TE := fun σ H Q => ta σ H fun x H1 => tb σ H1 fun y H2 => r x y H2 fun z H3 => ∃ k, z = .bl k ∧
  (if k = true then tc σ H3 fun w' H4 => r' y w' H4 Q else Q (.bl false) H3)
theorem pe_chain {op op' : CmpOp} {r r' : R2} (ho : OpR X (compareOp op) r) (ho' : OpR X (compareOp op') r') (ha : PE X a ta) (hb : PE X b tb) (hc : PE X c tc)
    (hm : lastMarks [op, op'] [b, c] = false := by with_unfolding_all rfl) : PE X (.Compare a [op, op'] [b, c] pos) (tChain r r' ta tb tc) := by
  intro pins s σ H Q I h
  refine Compare_chain (thn (ha pins s σ H _ I h) fun v s1 ⟨x, H1, I1, r1, q1⟩ => chain_link (thn (hb pins s1 σ H1 _ I1 q1) fun u s2 ⟨y, H2, I2, r2, q2⟩ =>
    thn (ho pins s2 σ H2 x y v u _ I2 r1 r2 q2) fun d s3 ⟨z, H3, I3, r3, k, e, q3⟩ => ?_)) hm
  subst e
  cases r3
  refine wpAny_truthy_bool ?_
  cases k with
  | false => exact ite_ff ⟨.bl false, H3, I3, rfl, q3⟩
  | true => exact ite_tt (chain_last (thn (hc pins s3 σ H3 _ I3 q3) fun w' s4 ⟨z', H4, I4, r4, q4⟩ => ho' pins s4 σ H4 y z' u w' Q I4 r2 r4 q4))
theorem line63 : (sizeLine : Nat) < 2 ^ 63 := by rw [sizeLine_eq]; decide
theorem op_add_str : OpR X (binaryOp .Add) (fun x y H Q => ∃ i j, x = .str i ∧ y = .str j ∧ i.length + j.length ≤ sizeLine ∧ Q (.str (i ++ j)) H) := by
  intro pins s σ H x y v u Q I rx ry h
  obtain ⟨i, j, rfl, rfl, hz, q⟩ := h
  obtain ⟨t, rfl⟩ := rx
  obtain ⟨t', rfl⟩ := ry
  exact add_str (fun t' tk => ⟨.str (i ++ j), H, I.tok _, ⟨_, rfl⟩, q⟩) hz
theorem vals1 {x : V} {us : List Value} (r : Vals [x] us) : ∃ u, us = [u] ∧ RelV x u := by
  cases r with
  | cons r1 r2 => cases r2; exact ⟨_, rfl, r1⟩
theorem vals2 {x y : V} {us : List Value} (r : Vals [x, y] us) : ∃ u w', us = [u, w'] ∧ RelV x u ∧ RelV y w' := by
  cases r with
  | cons r1 r2 =>
    cases r2 with
    | cons r3 r4 => cases r4; exact ⟨_, _, rfl, r1, r3⟩
theorem call_max2 (hc : X.calm = true) : CallR X (.builtin "max") (fun xs H Q => ∃ i j, xs = [.int i, .int j] ∧ Q (.int (if j > i then j else i)) H) := by
  intro pins s σ H xs us Q I r h
  obtain ⟨i, j, rfl, q⟩ := h
  obtain ⟨u, w', rfl, ⟨t, rfl⟩, ⟨t', rfl⟩⟩ := vals2 r
  refine max_two_ints (I.ok.hd hc) fun h' tk k => ⟨_, H, I.kept k, ?_, q⟩
  by_cases hj : j > i
  · rw [if_pos hj, if_pos hj]; exact ⟨_, rfl⟩
  · rw [if_neg hj, if_neg hj]; exact ⟨_, rfl⟩
theorem call_min2 (hc : X.calm = true) : CallR X (.builtin "min") (fun xs H Q => ∃ i j, xs = [.int i, .int j] ∧ Q (.int (if j < i then j else i)) H) := by
  intro pins s σ H xs us Q I r h
  obtain ⟨i, j, rfl, q⟩ := h
  obtain ⟨u, w', rfl, ⟨t, rfl⟩, ⟨t', rfl⟩⟩ := vals2 r
  refine min_two_ints (I.ok.hd hc) fun h' tk k => ⟨_, H, I.kept k, ?_, q⟩
  by_cases hj : j < i
  · rw [if_pos hj, if_pos hj]; exact ⟨_, rfl⟩
  · rw [if_neg hj, if_neg hj]; exact ⟨_, rfl⟩
theorem call_str_int : CallR X (.type "str") (fun xs H Q => ∃ i, xs = [.int i] ∧ i.natAbs.log2 < 1920 ∧ Q (.str (toString i)) H) := by
  intro pins s σ H xs us Q I r h
  obtain ⟨i, rfl, hz, q⟩ := h
  obtain ⟨u, rfl, t, rfl⟩ := vals1 r
  exact PySem.P.str_of_int hz ⟨.str _, H, I.tok _, ⟨_, rfl⟩, q⟩
end
end L2
namespace L2
open PySem PySem.Spec PyProof.Rows
structure ObjM (h : Heap) (x dx C : Addr) (mA : Str → Option Value) : Prop where
  obj : h.get? x = some (PySem.W.instObj C dx)
  ns : h.Ns1 dx mA
  ne : dx ≠ x
theorem lookIn_ns {h : Heap} {dx : Addr} {mA : Str → Option Value} (n : h.Ns1 dx mA) : ∃ od, h.get? dx = some od ∧ ∀ name, PySem.W.lookIn name od = some (mA name) := by
  obtain ⟨o, es, ep, ho, hd, hk, _, hm⟩ := n
  refine ⟨o, ho, fun name => ?_⟩
  have e := hm name
  unfold nsFind findBy at e
  rw [← Array.find?_toList] at e
  unfold PySem.W.lookIn
  rw [hd]
  dsimp only
  split
  · rename_i y q
    rw [q] at e
    exact congrArg some e
  · rename_i q
    rw [q] at e
    have a : es.toList.any (·.refKey) = false := by
      rw [List.any_eq_false]
      intro y hy
      obtain ⟨z, t, hkey⟩ := hk y (Array.mem_toList_iff.mp hy)
      simp [DictEntry.refKey, hkey]
    have a' : ¬ es.toList.any (·.refKey) = true := by rw [a]; exact Bool.false_ne_true
    rw [if_neg a']
    exact congrArg some e
theorem ObjM.look {h : Heap} {x dx C : Addr} {mA : Str → Option Value} (I : ObjM h x dx C mA) : ∃ od, PySem.W.InstAt h x (PySem.W.instObj C dx) C (some od) ∧ ∀ name, PySem.W.lookIn name od = some (mA name) :=
  let ⟨od, ho, hl⟩ := lookIn_ns I.ns
  ⟨od, ⟨I.obj, rfl, rfl, ho⟩, hl⟩
section
variable {prog : Program} {w : World} {A : Around} {E : Value → Shared → Prop} {s : Shared} {K : PySem.W.Frag} {x dx C f : Addr} {mA : Str → Option Value} {name : Str} {v : Value}
end
section
variable {P : Program} {w : World} {H H' : Hp} {h h' : Heap} {a C dx : Addr} {fs fs' : List (Str × V)}
theorem ins_get (hok : HOk P w H h) (e : H a = some (.ins C dx fs)) : ∃ mA, ObjM h a dx C mA ∧ (∀ f, RelO (fs.lookup f) (mA f)) ∧ PySem.Within mA (fs.map (·.1)) ∧ fs.length ≤ 1000 ∧ H dx = some (.own a) := by
  obtain ⟨d, z, ne, ob, mA, n, r, q⟩ := (show ObjOk P w H h a (.ins C dx fs) from hok a _ e)
  exact ⟨mA, ⟨ob, n, ne⟩, r, q, z, d⟩
end
structure Cls (K : PySem.W.Frag) (C : Addr) : Prop where
  pg : PySem.W.plainGet K C Str.empty = true
  hd : PySem.W.hasDictIn K C = true
  po : PySem.W.plainOver K C = true
  sa : PySem.W.findIn K (.ref C) "__setattr__" = some (some (.builtin "object.__setattr__"))
theorem Cls.get {K : PySem.W.Frag} {C : Addr} (c : Cls K C) (f : Str) : PySem.W.plainGet K C f = true := c.pg
section
variable {X : Cx} {pins : List (Addr × Obj)} {σ : St} {H : Hp} {s : Shared} {a C dx : Addr} {fs : List (Str × V)} {f : Str} {v : V} {A : Around} {E : Value → Shared → Prop}
end
section
variable {X : Cx} {o e value : Expr} {f : Str} {pos pos' tpos : Pos} {ta tv : TE}
end
section
variable {X : Cx} {pins : List (Addr × Obj)} {σ : St} {H : Hp} {s : Shared} {A : Around} {E : Value → Shared → Prop} {Q : Value → Shared → Prop} {c : Value} {b : Bool}
inductive TyOf (K : PySem.W.Frag) (H : Hp) : V → Value → Prop where
  | non : TyOf K H .non (.type "NoneType")
  | bl (x : Bool) : TyOf K H (.bl x) (.type "bool")
  | int (i : Int) : TyOf K H (.int i) (.type "int")
  | str (x : Str) : TyOf K H (.str x) (.type "str")
  | flt (x : UInt64) : TyOf K H (.flt x) (.type "float")
  | lst {a : Addr} {xs : List V} (e : H a = some (.lst xs)) : TyOf K H (.ref a) (.type "list")
  | frz {a : Addr} {o : Obj} {xs : List V} (e : H a = some (.frz o (.lst xs))) : TyOf K H (.ref a) (.type "list")
  | tup {a : Addr} {xs : List V} (e : H a = some (.tup xs)) : TyOf K H (.ref a) (.type "tuple")
  | dK {a : Addr} {kvs : List (Key × V)} (e : H a = some (.dK kvs)) : TyOf K H (.ref a) (.type "dict")
  | dT {a : Addr} {kvs : List (List Key × V)} (e : H a = some (.dT kvs)) : TyOf K H (.ref a) (.type "dict")
  | ins {a C dx : Addr} {fs : List (Str × V)} (e : H a = some (.ins C dx fs)) (cl : Cls K C) (ha : PySem.W.findIn K (.ref C) "__class__" = some (some (.builtin "object.__class__")))
      (hn : PySem.W.specialIn K (.builtin "object.__class__") "__get__" = some (some (.builtin "getset_descriptor.__get__"))) (htk : PySem.W.takesIn K (.builtin "object.__class__") = some true)
      (hm : PySem.W.mroIn K C (.type "object") = some true) : TyOf K H (.ref a) (.ref C)
theorem isinst_ok {x : V} {u t : Value} (I : Inv X pins σ H s) (rx : RelV x u) (ty : TyOf X.K H x t) (e : PySem.W.kitOne X.K t c = some b) (h : ∀ tk, Q (.bool b) { s with toks := tk }) :
    wpAny (model X.prog X.w) A (call (.builtin "isinstance") [u, c]) Q E s := by
  cases ty with
  | non => cases (show u = Value.none from rx); exact PySem.W.kia_one PySem.W.kitx_none I.kIn True.intro e (fun z => nomatch z) h
  | bl y => cases (show u = Value.bool y from rx); exact PySem.W.kia_one PySem.W.kitx_bool I.kIn True.intro e (fun z => nomatch z) h
  | int i => obtain ⟨t, q⟩ := (show ∃ t, u = Value.int i t from rx); cases q; exact PySem.W.kia_one PySem.W.kitx_int I.kIn True.intro e (fun z => nomatch z) h
  | str y => obtain ⟨t, q⟩ := (show ∃ t, u = Value.str y t from rx); cases q; exact PySem.W.kia_one PySem.W.kitx_str I.kIn True.intro e (fun z => nomatch z) h
  | flt y => obtain ⟨t, q⟩ := (show ∃ t, u = Value.float y t from rx); cases q; exact PySem.W.kia_one PySem.W.kitx_float I.kIn True.intro e (fun z => nomatch z) h
  | @lst a xs ea =>
    cases (show u = Value.ref a from rx)
    obtain ⟨_, _, n, _, h1⟩ := (show ObjOk X.prog X.w H s.heap a (.lst xs) from I.hok a _ ea)
    exact PySem.W.kia_one PySem.W.kitx_list I.kIn ⟨_, h1, rfl⟩ e (fun z => nomatch z) h
  | @frz a ob xs ea =>
    cases (show u = Value.ref a from rx)
    obtain ⟨_, _, _, n, _, h1⟩ := (show ObjOk X.prog X.w H s.heap a (.frz ob (.lst xs)) from I.hok a _ ea)
    exact PySem.W.kia_one PySem.W.kitx_list I.kIn ⟨_, h1, rfl⟩ e (fun z => nomatch z) h
  | @tup a xs ea =>
    cases (show u = Value.ref a from rx)
    obtain ⟨_, _, _, p⟩ := (show ObjOk X.prog X.w H s.heap a (.tup xs) from I.hok a _ ea)
    obtain ⟨o, h1, h2, _⟩ := p
    exact PySem.W.kia_one PySem.W.kitx_tuple I.kIn ⟨o, h1, h2⟩ e (fun z => nomatch z) h
  | @dK a kvs ea =>
    cases (show u = Value.ref a from rx)
    obtain ⟨_, _, vs, _, p⟩ := (show ObjOk X.prog X.w H s.heap a (.dK kvs) from I.hok a _ ea)
    obtain ⟨o, es, ep, h1, h2, _⟩ := p
    exact PySem.W.kia_one PySem.W.kitx_dict I.kIn ⟨o, h1, h2.1⟩ e (fun z => nomatch z) h
  | @dT a kvs ea =>
    cases (show u = Value.ref a from rx)
    obtain ⟨_, _, xs, _, o, es, ep, h1, h2, _⟩ := (show ObjOk X.prog X.w H s.heap a (.dT kvs) from I.hok a _ ea)
    exact PySem.W.kia_one PySem.W.kitx_dict I.kIn ⟨o, h1, h2.1⟩ e (fun z => nomatch z) h
  | @ins a C dx fs ea cl ha hn htk hm =>
    cases (show u = Value.ref a from rx)
    obtain ⟨mA, O, _⟩ := ins_get I.hok ea
    obtain ⟨od, J, _⟩ := O.look
    exact PySem.W.kia_one (PySem.W.kitx_own (cl.get _) cl.hd ha hn htk hm) I.kIn J e (fun z => nomatch z) h
end
end L2
namespace L2
open PySem PySem.Spec PyProof.Rows
structure Room (k : Nat) (A : Around) : Prop where
  hd : A.handled = none
  dp : A.depth + 3 * k + 5 < recursionLimit
  un : A.units + 16 * k + 200 < cLine
theorem Room.mono {j k : Nat} {A : Around} (r : Room k A) (h : j ≤ k) : Room j A := ⟨r.hd, by have := r.dp; omega, by have := r.un; omega⟩
theorem Room.deeper {k : Nat} {A : Around} (r : Room (k + 1) A) (env : Env) : Room k (A.deeper env) :=
  ⟨r.hd, by have := r.dp; show A.depth + 1 + 3 * k + 5 < _; omega, by have := r.un; show A.units + 3 + 16 * k + 200 < _; omega⟩
theorem Room.depth {k : Nat} {A : Around} (r : Room k A) : A.depth < recursionLimit := by have := r.dp; omega
theorem Room.units {k : Nat} {A : Around} (r : Room k A) : A.units + 64 < cLine := by have := r.un; omega
def tNil : TA := fun _ H Q => Q [] H
def tCons (ta : TE) (tr : TA) : TA := fun σ H Q => ta σ H fun x H1 => tr σ H1 fun xs H2 => Q (x :: xs) H2
section
variable {X : Cx} {e : Expr} {es : List Expr} {te : TE} {t : TA} {pos : Pos}
theorem pa_nil : PA X [] tNil := fun _ _ _ _ H Q I h => Calls.spliced_nil ⟨[], H, I, .nil, h⟩
theorem pa_cons (ha : PE X e te) (hr : PA X es t) (hs : starEach (e :: es) X.env = (false, eval e X.env) :: starEach es X.env := by rfl) : PA X (e :: es) (tCons te t) := by
  intro pos pins s σ H Q I h
  rw [hs]
  show wpAny _ _ (spliced ((false, eval e X.env) :: backTo pos (starEach es X.env))) _ _ s
  refine Calls.spliced_cons (thn (ha pins s σ H _ I h) fun u s1 ⟨x, H1, I1, r1, q1⟩ => ?_)
  exact thn (hr pos pins s1 σ H1 _ I1 q1) fun us s2 ⟨xs, H2, I2, r2, q2⟩ => ⟨x :: xs, H2, I2, .cons r1 r2, q2⟩
def tTup (t : TA) : TE := fun σ H Q => t σ H fun xs H1 => xs.length ≤ sizeLine ∧ ∀ p, H1 p = none → Q (.ref p) (upd H1 p (.tup xs))
def tLst (t : TA) : TE := fun σ H Q => t σ H fun xs H1 => xs.length ≤ sizeLine ∧ ∀ p, H1 p = none → Q (.ref p) (upd H1 p (.lst xs))
theorem pe_tup {x1} (h : PA X es t) : PE X (.Tuple es x1 pos) (tTup t) := by
  intro pins s σ H Q I hq
  refine wpAny_Tuple_spliced (thn (h pos pins s σ H _ I hq) fun us s1 ⟨xs, H1, I1, r, z, q⟩ => ⟨by rw [← r.length]; exact z, ?_⟩)
  have hf : H1 s1.heap.objs.size = none := I1.hok.fresh (Nat.le_refl _)
  refine ⟨.ref s1.heap.objs.size, upd H1 s1.heap.objs.size (.tup xs), I1.laid (t' := s1.toks) (fun b u e => Heap.get?_push_of_some _ e) (Nat.le_refl _) ?_, rfl, q _ hf⟩
  exact ⟨z, us, r, ⟨_, Heap.get?_push_size _ rfl, rfl, _, rfl⟩⟩
theorem pe_lst (h : PA X es t) : PE X (.List es pos) (tLst t) := by
  intro pins s σ H Q I hq
  refine wpAny_List_spliced (thn (h pos pins s σ H _ I hq) fun us s1 ⟨xs, H1, I1, r, z, q⟩ => ⟨by rw [← r.length]; exact z, ?_⟩)
  have hf : H1 s1.heap.objs.size = none := I1.hok.fresh (Nat.le_refl _)
  refine ⟨.ref s1.heap.objs.size, upd H1 s1.heap.objs.size (.lst xs), I1.laid (t' := s1.toks) (fun b u e => Heap.get?_push_of_some _ e) (Nat.le_refl _) ?_, rfl, q _ hf⟩
  exact ⟨z, us, 0, r, Heap.get?_push_size _ rfl⟩
end
abbrev Sp := List V → Hp → VK → XK → Prop
abbrev CXT := List Env → Hp → Shared → XK → Value → Shared → Prop
structure Env0 (P : Program) (w : World) (K : PySem.W.Frag) (mg : Str → Option Value) (base : Heap) (A : Around) (outer : List Env) (s : Shared) (H : Hp) : Prop where
  frames : A.frames = some outer
  mod : Mod K mg base
  bs : ∀ b o, base.get? b = some o → s.heap.get? b = some o ∧ H b = none
  bsz : base.objs.size ≤ s.heap.objs.size
  funs : s.heap.FunFrames base outer
  frf : ∀ b ∈ frs outer, H b = none
  hok : HOk P w H s.heap
  bare : AllBare s.gens
def CE (outer : List Env) (P : Program) (w : World) (H : Hp) (s : Shared) (Q : VK) (u : Value) (s' : Shared) : Prop :=
  ∃ v H', s'.os = s.os ∧ AllBare s'.gens ∧ Un (frs outer) [] H H' s.heap s'.heap ∧ HOk P w H' s'.heap ∧ RelV v u ∧ Q v H'
def CR (CX : CXT) (outer : List Env) (P : Program) (w : World) (H : Hp) (s : Shared) (Q : VK) (E : XK) (r : Result) (s' : Shared) : Prop :=
  match r with
  | .ok (.ret u) => CE outer P w H s Q u s'
  | .ok _ => False
  | .error e => CX outer H s E e s'
structure FnOk (P : Program) (w : World) (K : PySem.W.Frag) (mg : Str → Option Value) (base : Heap) (CX : CXT) (k : Nat) (f : Addr) (fd : FuncData) (ps : List Str) (sp : Sp) : Prop where
  len : ∀ vs H Q E, sp vs H Q E → vs.length = ps.length
  run : ∀ (A : Around) (outer : List Env) (s : Shared) (H : Hp) (args : Args) (us : List Value) (vs : List V) (Q : VK) (E : XK), Room k A → Env0 P w K mg base A outer s H → BindsTo s fd args (ps.zip us) → Vals vs us → sp vs H Q E →
    codeAny (model P w) A (.call (.ref f) args) (CR CX outer P w H s Q E) s
section
variable {X : Cx} {pins : List (Addr × Obj)} {σ : St} {H : Hp} {s s' : Shared}
theorem Inv.env0 (I : Inv X pins σ H s) : Env0 X.prog X.w X.K X.mg X.base X.A X.stack s H :=
  ⟨I.ok.frames, I.ok.mod, I.bs, Nat.le_trans I.ok.bsz I.sz, I.stack, I.stkFree, I.hok, I.bare⟩
theorem Inv.after {Q : VK} {u : Value} (I : Inv X pins σ H s) (h : CE X.stack X.prog X.w H s Q u s') : EP X pins σ Q u s' := by
  obtain ⟨v, H', os, bare, un, hok, r, q⟩ := h
  obtain ⟨hh, g, d, t, os'⟩ := s'
  obtain rfl : os' = s.os := os
  exact ⟨v, H', I.call (h' := hh) (g' := g) (d' := d) (t' := t) (ch := []) un hok bare (fun b z => absurd z (by simp)), r, q⟩
end
def tCall (sp : Sp) (dvs : List V) (E : XK) (t : TA) : TE := fun σ H Q => t σ H fun vs H1 => sp (vs ++ dvs) H1 Q E
def Binds (K : PySem.W.Frag) (fd : FuncData) (ps : List Str) (ds : List Value) : Prop :=
  ∀ (s : Shared) (us : List Value), K.In s.heap → (us ++ ds).length = ps.length → BindsTo s fd ⟨us, []⟩ (ps.zip (us ++ ds))
theorem Binds.all {K : PySem.W.Frag} {fd : FuncData} {ps : List Str} (h : ∀ us : List Value, us.length = ps.length → bindArgs fd ⟨us, []⟩ = pure (ps.zip us)) : Binds K fd ps [] := fun s us _ hl => by
  rw [List.append_nil] at hl ⊢
  exact .of_eq (h us hl)
def Passes (CX : CXT) (X : Cx) (E : XK) : Prop := ∀ (pins : List (Addr × Obj)) (σ : St) (H : Hp) (s : Shared) (e : Value) (s' : Shared), Inv X pins σ H s → CX X.stack H s E e s' → X.xe e s'
section
variable {X : Cx} {CX : CXT} {k : Nat} {f C : Addr} {fd : FuncData} {ps : List Str} {sp : Sp} {dvs : List V} {ds : List Value} {E : XK} {x m : Str} {p pos apos : Pos} {e o : Expr} {es : List Expr} {ta : TE} {t : TA}
theorem run_fn {pins : List (Addr × Obj)} {σ : St} {H : Hp} {s : Shared} {Q : VK} {us : List Value} {vs : List V} (F : FnOk X.prog X.w X.K X.mg X.base CX k f fd ps sp) (hr : Room k X.A) (hb : Binds X.K fd ps ds) (hd : Vals dvs ds) (hx : Passes CX X E)
    (I : Inv X pins σ H s) (r : Vals vs us) (h : sp (vs ++ dvs) H Q E) : wpAny (model X.prog X.w) X.A (call (.ref f) us) (EP X pins σ Q) X.xe s := by
  have r2 : Vals (vs ++ dvs) (us ++ ds) := r.append hd
  have hl : (us ++ ds).length = ps.length := by rw [← r2.length]; exact F.len _ _ _ _ h
  refine wpAny_call (codeAny_mono (F.run X.A X.stack s H ⟨us, []⟩ (us ++ ds) (vs ++ dvs) Q E hr I.env0 (hb s us I.kIn hl) r2 h) fun r s' hq => ?_)
  cases r with
  | error e => exact hx pins σ H s e s' I hq
  | ok fl =>
    cases fl with
    | ret u => exact I.after hq
    | next => exact False.elim hq
    | brk => exact False.elim hq
    | cont => exact False.elim hq
theorem pe_call (F : FnOk X.prog X.w X.K X.mg X.base CX k f fd ps sp) (hr : Room k X.A) (hg : Gl X x) (hm : X.mg x = some (.ref f)) (hk : PySem.W.keepIn X.K (.ref f) = true) (hb : Binds X.K fd ps ds) (hd : Vals dvs ds) (hx : Passes CX X E)
    (ha : PA X (e :: es) t) (hdb : (x == ("__debug__" : Str)) = false := by decide) (he : starEach (e :: es) X.env = (false, eval e X.env) :: starEach es X.env := by rfl) (hpl : (backTo pos (starEach es X.env)).any (·.1) = false := by rfl) :
    PE X (.Call (.Name x p) (e :: es) [] pos) (tCall sp dvs E t) := by
  intro pins s σ H Q I h
  refine wpAny_Call_Name_kw (ld_glob I hg hm ?_ hdb)
  refine PySem.W.callWith_K (h₀ := X.base) I.ok.mod.kin hk (thn (ha pos pins s σ H _ I h) fun us s1 ⟨vs, H1, I1, r, q⟩ => ⟨I1.kIn, ?_⟩) he hpl
  exact run_fn F hr hb hd hx I1 r q
theorem pe_call0 (F : FnOk X.prog X.w X.K X.mg X.base CX k f fd ps sp) (hr : Room k X.A) (hg : Gl X x) (hm : X.mg x = some (.ref f)) (hk : PySem.W.keepIn X.K (.ref f) = true) (hb : Binds X.K fd ps ds) (hd : Vals dvs ds) (hx : Passes CX X E)
    (hdb : (x == ("__debug__" : Str)) = false := by decide) : PE X (.Call (.Name x p) [] [] pos) (tCall sp dvs E tNil) := by
  intro pins s σ H Q I h
  refine wpAny_Call_Name_kw (ld_glob I hg hm ?_ hdb)
  exact PySem.W.callWith_K0 I.kIn hk (run_fn (us := []) F hr hb hd hx I .nil h)
end
section
variable {X : Cx} {CX : CXT} {k : Nat} {f C : Addr} {fd : FuncData} {ps ks : List Str} {sp : Sp} {E : XK} {x m : Str} {p pos apos kpos : Pos} {e o : Expr} {es : List Expr} {kws : List Keyword} {te ta : TE} {t tk : TA} {nm : Option Str}
variable {g : List Value → List Value → List Value} {gV : List V → List V → List V}
end
structure FnScope (N P : List Str) (sc : Scope) : Prop where
  kind : sc.kind = .function
  co : sc.isCoroutine = false
  gen : sc.isGenerator = false
  nd : N.Nodup
  pre : N.take P.length = P
  par : ∀ x ∈ P, sc.names.lookup x = some .local ∨ sc.names.lookup x = some .cell
  nofree : ∀ y ∈ sc.names, y.2 ≠ .free
theorem bindL_out {kindOf : Str → Option NameKind} {x : Str} : ∀ {binds : List (Str × Value)} {m : Str → Option Value}, (∀ v, (x, v) ∉ binds) → bindL kindOf binds m x = m x
  | [], _, _ => rfl
  | (n, v) :: r, m, h => by
    unfold bindL
    rw [bindL_out fun w hw => h w (List.mem_cons_of_mem _ hw)]
    split
    · have : x ≠ n := by rintro rfl; exact h v List.mem_cons_self
      simp [this]
    · rfl
theorem bindC_out {kindOf : Str → Option NameKind} {x : Str} : ∀ {binds : List (Str × Value)} {m : Str → Option Value}, (∀ v, (x, v) ∉ binds) → bindC kindOf binds m x = m x
  | [], _, _ => rfl
  | (n, v) :: r, m, h => by
    unfold bindC
    rw [bindC_out fun w hw => h w (List.mem_cons_of_mem _ hw)]
    split
    · rfl
    · have : x ≠ n := by rintro rfl; exact h v List.mem_cons_self
      simp [this]
theorem bindL_get {kindOf : Str → Option NameKind} {x : Str} {v : Value} : ∀ {P : List Str} {vs : List Value} {i : Nat} {m : Str → Option Value}, P.Nodup → P[i]? = some x → vs[i]? = some v → kindOf x = some .local →
    bindL kindOf (P.zip vs) m x = some v
  | [], _, _, _, _, h, _, _ => by simp at h
  | _ :: _, [], _, _, _, _, h, _ => by simp at h
  | p :: P, w :: vs, 0, m, nd, h1, h2, hk => by
    simp at h1 h2; subst h1; subst h2
    show bindL kindOf ((p, w) :: P.zip vs) m p = _
    unfold bindL
    rw [bindL_out fun v hv => (List.nodup_cons.mp nd).1 (List.of_mem_zip hv).1, if_pos hk]
    simp
  | p :: P, w :: vs, i + 1, m, nd, h1, h2, hk => by
    show bindL kindOf ((p, w) :: P.zip vs) m x = _
    unfold bindL
    exact bindL_get (i := i) (List.nodup_cons.mp nd).2 (by simpa using h1) (by simpa using h2) hk
theorem bindC_get {kindOf : Str → Option NameKind} {x : Str} {v : Value} : ∀ {P : List Str} {vs : List Value} {i : Nat} {m : Str → Option Value}, P.Nodup → P[i]? = some x → vs[i]? = some v → kindOf x ≠ some .local →
    bindC kindOf (P.zip vs) m x = some v
  | [], _, _, _, _, h, _, _ => by simp at h
  | _ :: _, [], _, _, _, _, h, _ => by simp at h
  | p :: P, w :: vs, 0, m, nd, h1, h2, hk => by
    simp at h1 h2; subst h1; subst h2
    show bindC kindOf ((p, w) :: P.zip vs) m p = _
    unfold bindC
    rw [bindC_out fun v hv => (List.nodup_cons.mp nd).1 (List.of_mem_zip hv).1, if_neg hk]
    simp
  | p :: P, w :: vs, i + 1, m, nd, h1, h2, hk => by
    show bindC kindOf ((p, w) :: P.zip vs) m x = _
    unfold bindC
    exact bindC_get (i := i) (List.nodup_cons.mp nd).2 (by simpa using h1) (by simpa using h2) hk
def start (N : List Str) (vs : List V) : St := vs.map some ++ List.replicate (N.length - vs.length) none
def cxOf (CX : CXT) (P : Program) (w : World) (K : PySem.W.Frag) (mg : Str → Option Value) (base : Heap) (N : List Str) (qual : Str) (scope : Scope) (f : Addr) (cd : Value) (A : Around) (outer : List Env) (s : Shared) (H : Hp) (E : XK) : Cx where
  prog := P
  w := w
  K := K
  mg := mg
  base := base
  A := A.deeper (envOfC qual scope s.heap.objs.size f cd)
  N := N
  s₀ := s
  H₀ := H
  env := envOfC qual scope s.heap.objs.size f cd
  outer := outer
  stack := envOfC qual scope s.heap.objs.size f cd :: outer
  ex := []
  calm := true
  fn := fun _ => true
  pn := []
  xe := fun e s' => wpAny (model P w) (A.deeper (envOfC qual scope s.heap.objs.size f cd)) (leaving (envOfC qual scope s.heap.objs.size f cd) e) (fun _ s'' => CX outer H s E e s'') (fun e' s'' => CX outer H s E e' s'') s'
theorem cell_has {sc : Scope} {n : Nat} {x : Str} (h : sc.names.lookup x = some .cell) : ∃ c, (cellsFrom n sc.names []).lookup x = some c := by
  have q := PySem.W.cellsFrom_some sc.names n [] (.inl h)
  exact Option.isSome_iff_exists.mp q
theorem inv_start {CX : CXT} {P : Program} {w : World} {K : PySem.W.Frag} {mg : Str → Option Value} {base : Heap} {N ps : List Str} {qual : Str} {scope : Scope} {f : Addr} {cd : Value} {A : Around} {outer : List Env} {s s1 : Shared} {H : Hp} {E : XK} {us : List Value} {vs : List V}
    (S : FnScope N ps scope) (hd : A.handled = none) (e0 : Env0 P w K mg base A outer s H) (hl : vs.length = ps.length) (r : Vals vs us)
    (x : InCallC s s.heap.objs.size (bindL (envOfC qual scope s.heap.objs.size f cd).kindOf (ps.zip us) fun _ => none) (cellsFrom (s.heap.objs.size + 1) scope.names []) (bindC (envOfC qual scope s.heap.objs.size f cd).kindOf (ps.zip us) fun _ => none) s1) :
    Inv (cxOf CX P w K mg base N qual scope f cd A outer s H E) [] (start N vs) H s1 := by
  have hpl : ps.length ≤ N.length := by have := congrArg List.length S.pre; rw [List.length_take] at this; omega
  obtain ⟨h1, tk, rfl, hk⟩ := x.done
  have noA : ∀ b : Addr, b ∉ (cxOf CX P w K mg base N qual scope f cd A outer s H E).ex := fun b z => absurd (show b ∈ ([] : List Addr) from z) (by simp)
  refine ⟨⟨e0.mod, S.kind, rfl, rfl, Nat.le_refl _, fun y z c h1 h2 => ?_, fun y hy => ?_, fun y c _ h => ?_, fun _ => hd, Around.frames_deeper e0.frames, .inr ⟨rfl, rfl⟩, fun b z => absurd z (noA b), e0.bs, e0.bsz, fun b _ _ => noA b, fun b z => absurd z (noA b), e0.funs, e0.frf⟩,
    rfl, e0.bare, Un.kept hk, ⟨_, x.toInCall.ns, fun i y v h1 h2 h3 => ?_⟩, fun y c h => ⟨_, x.cell y c h⟩, e0.hok.fresh (Nat.le_refl _), fun y c h => ?_, fun p hp => absurd (show p ∈ ([] : List (Addr × Obj)) from hp) (by simp), e0.hok.kept hk, ?_⟩
  · exact name_of_addr x.apart (PySem.mem_of_lookup h1) (PySem.mem_of_lookup h2)
  · have hy : scope.names.lookup y = some .cell ∨ scope.names.lookup y = some .free := hy
    rcases hy with hy | hy
    · exact cell_has hy
    · exact absurd rfl (S.nofree _ (PySem.mem_of_lookup hy))
  · exact Nat.le_of_lt (x.above y c (PySem.mem_of_lookup h))
  · have hi : i < vs.length := by
      unfold start at h2
      by_cases hi : i < vs.length
      · exact hi
      · rw [List.getElem?_append_right (by simpa using hi)] at h2
        rw [List.getElem?_replicate] at h2
        split at h2 <;> cases h2
    have ha : vs[i]? = some v := by
      unfold start at h2
      rw [List.getElem?_append_left (by simpa using hi), List.getElem?_map] at h2
      cases e : vs[i]? with
      | none => rw [e] at h2; cases h2
      | some a => rw [e] at h2; cases h2; rfl
    obtain ⟨u, hu, rv⟩ := r.get ha
    have hp : ps[i]? = some y := by
      rw [← S.pre, List.getElem?_take_of_lt (by omega)]; exact h1
    have ndP : ps.Nodup := by rw [← S.pre]; exact S.nd.sublist (List.take_sublist _ _)
    refine ⟨u, rv, ?_⟩
    rcases S.par y (List.mem_of_getElem? hp) with k | k
    · exact .inl ⟨k, bindL_get ndP hp hu k⟩
    · obtain ⟨c, e⟩ := cell_has (n := s.heap.objs.size + 1) k
      refine .inr ⟨.inl k, c, e, ?_⟩
      have q := x.cell y c e
      rw [bindC_get ndP hp hu (by show scope.names.lookup y ≠ _; rw [k]; decide)] at q
      exact q
  · exact e0.hok.fresh (Nat.le_of_lt (x.above y c (PySem.mem_of_lookup h)))
  · unfold start
    show _ = N.length
    rw [List.length_append, List.length_map, List.length_replicate]
    omega
theorem fn_of {CX : CXT} {P : Program} {w : World} {K : PySem.W.Frag} {mg : Str → Option Value} {base : Heap} {k : Nat} {f : Addr} {name qual : Str} {params : Arguments} {body : List Stmt} {scope : Scope} {dV kV doc pm cdv ct oc : Value} {an od : Option Addr}
    {osl : Array (Option Value)} {N ps : List Str} {sp : Sp} (lk : K.lookup f = some ⟨oc, od, .func (PySem.W.fnOf name qual params body scope dV kV doc pm an cdv ct), osl⟩) (hcd : PySem.W.codeIn K cdv qual = true) (S : FnScope N ps scope)
    (len : ∀ vs H Q E, sp vs H Q E → vs.length = ps.length)
    (hbody : ∀ (A : Around) (outer : List Env) (s : Shared) (H : Hp) (vs : List V) (Q : VK) (E : XK), Room k (A.deeper (envOfC qual scope s.heap.objs.size f cdv)) → sp vs H Q E →
      ∃ t, PSs (cxOf CX P w K mg base N qual scope f cdv A outer s H E) body t ∧ t { nx := fun _ H' => Q .non H', rt := Q } (start N vs) H) :
    FnOk P w K mg base CX (k + 1) f (PySem.W.fnOf name qual params body scope dV kV doc pm an cdv ct) ps sp := by
  refine ⟨len, fun A outer s H args us vs Q E hr e0 hb r hsp => ?_⟩
  have hl := len _ _ _ _ hsp
  have KX : K.In s.heap := e0.mod.kin.keeps fun b o e => (e0.bs b o e).1
  have lim : s.heap.NoLimit := e0.mod.nolimit.keeps fun b o e => (e0.bs b o e).1
  have hkind : ∀ y ∈ ps.zip us, scope.names.lookup y.1 = some .local ∨ (scope.names.lookup y.1 = some .cell ∧ ((cellsFrom (s.heap.objs.size + 1) scope.names []).lookup y.1).isSome = true) := fun ⟨n, v⟩ hy => by
    rcases S.par n (List.of_mem_zip hy).1 with q | q
    · exact .inl q
    · exact .inr ⟨q, PySem.W.cellsFrom_some _ _ _ (.inl q)⟩
  refine codeAny_call_function hr.depth (KX _ _ lk) rfl S.co S.gen rfl (PySem.W.codeRec_of KX hcd) (hb _ _ _ _ ?_)
  refine wpAny_newFunctionEnv_cells S.kind hkind fun env he s1 x => ?_
  subst he
  refine ⟨lim.keeps x.toInCall.keep, codeAny_func ?_⟩
  obtain ⟨t, ht, hq⟩ := hbody A outer s H vs Q E (hr.deeper _) hsp
  have I : Inv (cxOf CX P w K mg base N qual scope f cdv A outer s H E) [] (start N vs) H s1 := inv_start S hr.hd e0 hl r x
  refine wpAny_mono (ht [] s1 (start N vs) H _ I hq) (fun fl s' hs => ?_) fun e s' hs => hs
  have fin : ∀ {σ' : St} {H' : Hp} {v : V} {u : Value}, Inv (cxOf CX P w K mg base N qual scope f cdv A outer s H E) [] σ' H' s' → RelV v u → Q v H' → CE outer P w H s Q u s' :=
    fun {σ' H' v u} J rv q => ⟨v, H', J.os, J.bare, J.base, J.hok, rv, q⟩
  cases fl with
  | ret u =>
    obtain ⟨v, σ', H', J, rv, q⟩ := hs
    exact fin J rv q
  | next =>
    obtain ⟨σ', H', J, q⟩ := hs
    exact fin (v := V.non) (u := Value.none) J rfl q
  | brk =>
    obtain ⟨_, _, _, q⟩ := hs
    exact False.elim q
  | cont =>
    obtain ⟨_, _, _, q⟩ := hs
    exact False.elim q
end L2
namespace L2
open PySem PySem.Spec PyProof.Rows
section
variable {X : Cx} {x : Str} {p pos : Pos} {e : Expr} {es : List Expr} {t : TA} {id T : String} {r : List V → Hp → VK → Prop}
def tCB (r : List V → Hp → VK → Prop) (t : TA) : TE := fun σ H Q => t σ H fun vs H1 => r vs H1 Q
theorem pe_callB (hc : CallR X (.builtin id) r) (hg : Gl X x) (hm : X.mg x = none) (hv : bootBuiltins x = some (.builtin id)) (ha : PA X (e :: es) t) (hn : x ≠ "__name__" := by decide) (hdb : (x == ("__debug__" : Str)) = false := by decide)
    (he : starEach (e :: es) X.env = (false, eval e X.env) :: starEach es X.env := by rfl) (hpl : (backTo pos (starEach es X.env)).any (·.1) = false := by rfl) : PE X (.Call (.Name x p) (e :: es) [] pos) (tCB r t) := by
  intro pins s σ H Q I h
  refine wpAny_Call_Name_kw (ld_blt I hg hm hv ?_ hn hdb)
  exact PyProof.Rows.callWith_builtin1 (thn (ha pos pins s σ H _ I h) fun us s1 ⟨vs, H1, I1, r1, q1⟩ => hc pins s1 σ H1 vs us Q I1 r1 q1) he hpl
theorem pe_callTy (hc : CallR X (.type T) r) (hg : Gl X x) (hm : X.mg x = none) (hv : bootBuiltins x = some (.type T)) (ha : PA X (e :: es) t) (hn : x ≠ "__name__" := by decide) (hdb : (x == ("__debug__" : Str)) = false := by decide)
    (he : starEach (e :: es) X.env = (false, eval e X.env) :: starEach es X.env := by rfl) (hpl : (backTo pos (starEach es X.env)).any (·.1) = false := by rfl) : PE X (.Call (.Name x p) (e :: es) [] pos) (tCB r t) := by
  intro pins s σ H Q I h
  refine wpAny_Call_Name_kw (ld_blt I hg hm hv ?_ hn hdb)
  exact PyProof.Rows.callWith_type1 (thn (ha pos pins s σ H _ I h) fun us s1 ⟨vs, H1, I1, r1, q1⟩ => hc pins s1 σ H1 vs us Q I1 r1 q1) he hpl
end
end L2
namespace HT
open PySem PyProof.Rows
section
open PySem.SeqAt
open PySem.AutoSeq1 (wpAny_loadPart')
open PySem.MeetsSeq PySem.MeetsSeq2 PySem.MeetsSeq3
end
section
variable {prog : Program} {w : World} {A : Around} {E : Value → Shared → Prop} {s : Shared}
theorem cat_tup {t b : Addr} {vs ws : List Value} {Q : Value → Shared → Prop} (ht : IsTup s.heap t vs.toArray) (hb : IsTup s.heap b ws.toArray) (hv : vs ≠ [])
    (h1 : ws = [] → Q (.ref t) s) (h2 : ws ≠ [] → Q (.ref s.heap.objs.size) { s with heap := s.heap.push { cls := .type "tuple", data := .seq (vs ++ ws).toArray } })
    (hsz : vs.length + ws.length ≤ sizeLine) : wpAny (model prog w) A (binaryOp .Add (.ref t) (.ref b)) Q E s := by
  obtain ⟨⟨cls, dd, data, sl⟩, ho, hc, n, hd⟩ := id ht
  obtain ⟨⟨cls2, dd2, data2, sl2⟩, ho2, hc2, n2, hd2⟩ := id hb
  simp only at hc hd hc2 hd2
  subst hc hd hc2 hd2
  have e : vs.toArray ++ ws.toArray = (vs ++ ws).toArray := by simp
  by_cases hw : ws = []
  · exact concat_meets ⟨_, ho, rfl⟩ ⟨_, ho2, rfl⟩ noFill_tuple_add seq_tuple_add PySem.F.slot_tuple_add PySem.F.entry_tuple_add (PySem.F.args_tuple_add_2 _ _)
      (tuple_addW1 t b vs.toArray ws.toArray n n2 dd dd2 sl sl2 (by simpa using hv) (by simp [hw])) ⟨ho, ho2, h1 hw⟩
  · refine concat_meets ⟨_, ho, rfl⟩ ⟨_, ho2, rfl⟩ noFill_tuple_add seq_tuple_add PySem.F.slot_tuple_add PySem.F.entry_tuple_add (PySem.F.args_tuple_add_2 _ _)
      (tuple_addW2 t b vs.toArray ws.toArray n n2 dd dd2 sl sl2 (by simpa using hv) (by simpa using hw) (by rw [List.size_toArray, List.size_toArray]; exact hsz)) ⟨ho, ho2, ?_⟩
    rw [e]
    exact h2 hw
def sIx (n d : Nat) : Option Int → Nat
  | none => d
  | some v => if v < 0 then (v + (n : Int)).toNat else min v.toNat n
theorem sIx_none (n d : Nat) : sIx n d none = d := rfl
theorem sIx_nat (n d k : Nat) : sIx n d (some (k : Int)) = min k n := by
  show (if (k : Int) < 0 then ((k : Int) + (n : Int)).toNat else min (k : Int).toNat n) = min k n
  rw [if_neg (by omega), Int.toNat_natCast]
theorem sIx_le (n d : Nat) (hd : d ≤ n) (o : Option Int) : sIx n d o ≤ n := by
  cases o with
  | none => exact hd
  | some v =>
    show (if v < 0 then (v + (n : Int)).toNat else min v.toNat n) ≤ n
    by_cases hv : v < 0
    · rw [if_pos hv]; omega
    · rw [if_neg hv]; exact Nat.min_le_right _ _
theorem clip_eq (v : Int) (n d : Nat) : (if v < 0 then max (v + (n : Int)) 0 else min v (n : Int)) = ((sIx n d (some v) : Nat) : Int) := by
  show (if v < 0 then max (v + (n : Int)) 0 else min v (n : Int)) = (((if v < 0 then (v + (n : Int)).toNat else min v.toNat n) : Nat) : Int)
  by_cases hv : v < 0
  · simp only [if_pos hv]; omega
  · simp only [if_neg hv]; omega
theorem adjust_gen (lo hi : Option Int) (n : Nat) : Builtin.Slice.sliceAdjust lo hi 1 (n : Int) = (((sIx n 0 lo : Nat) : Int), ((sIx n n hi : Nat) : Int)) := by
  have h1 : ¬ ((1 : Int) < 0) := by omega
  unfold Builtin.Slice.sliceAdjust
  simp only [h1, if_false]
  refine Prod.ext ?_ ?_
  · cases lo with
    | none => rfl
    | some v => exact clip_eq v n 0
  · cases hi with
    | none => rfl
    | some v => exact clip_eq v n n
theorem places_gen (i j : Nat) : Builtin.Slice.slicePlaces (i : Int) (j : Int) 1 = j - i := by
  unfold Builtin.Slice.slicePlaces
  have h1 : (1 : Int) > 0 := by omega
  simp only [h1, if_true, Int.ediv_one]
  split <;> omega
theorem slicePart_ {v : Value} {o : Option Int} {Q : Option Int → Shared → Prop} (p : IsPart v o) (h : Q o s) : wpAny (model prog w) A (Builtin.Slice.slicePartIndex v) Q E s := by
  cases p with
  | none => exact slicePart_none h
  | int i t => exact slicePart_int h
theorem sliceApplied_gen {sl : Addr} {vl vu : Value} {lo hi : Option Int} {n : Nat} {Q : Int × Int × Nat → Shared → Prop} (hs : s.heap.IsSliceOf sl vl vu .none) (pl : IsPart vl lo) (pu : IsPart vu hi)
    (h : Q (((sIx n 0 lo : Nat) : Int), 1, sIx n n hi - sIx n 0 lo) s) : wpAny (model prog w) A (Builtin.Slice.sliceApplied (.ref sl) (pure (n : Int))) Q E s := by
  obtain ⟨os, hos, hcs, hds⟩ := id hs
  unfold Builtin.Slice.sliceApplied Builtin.Slice.sliceFields
  refine wpAny_bind (wpAny_bind (wpAny_field hos hds (x := vl) rfl (wpAny_bind (wpAny_field hos hds (x := vu) rfl (wpAny_bind (wpAny_field hos hds (x := .none) rfl (wpAny_pure ?_)))))))
  refine wpAny_bind (slicePart_none ?_)
  show wpAny _ _ (if ((1 : Int) == 0) = true then _ else _) _ _ s
  rw [if_neg (by decide)]
  refine wpAny_bind (slicePart_ pl (wpAny_bind (slicePart_ pu (wpAny_bind (wpAny_pure ?_)))))
  show wpAny _ _ (match Builtin.Slice.sliceAdjust lo hi 1 (n : Int) with | (lo, hi) => pure (lo, (1 : Int), Builtin.Slice.slicePlaces lo hi 1)) _ _ s
  rw [adjust_gen lo hi n]
  show wpAny _ _ (pure (((sIx n 0 lo : Nat) : Int), (1 : Int), Builtin.Slice.slicePlaces ((sIx n 0 lo : Nat) : Int) ((sIx n n hi : Nat) : Int) 1)) _ _ s
  rw [places_gen]
  exact wpAny_pure h
theorem pick_gen (xs : Array Value) (i k : Nat) : ((List.range k).filterMap fun (m : Nat) => xs[((i : Int) + (m : Int) * 1).toNat]?).toArray = ((xs.toList.drop i).take k).toArray := by
  have e : (fun (m : Nat) => xs[((i : Int) + (m : Int) * 1).toNat]?) = fun m => xs[i + m]? := by
    funext m
    have : ((i : Int) + (m : Int) * 1).toNat = i + m := by omega
    rw [this]
  rw [e]
  have := pick_run xs i k
  rw [List.filterMap_map] at this
  have e2 : ((fun x => xs[x]?) ∘ fun x => i + x) = fun m => xs[i + m]? := rfl
  rw [e2] at this
  rw [this]
theorem getItem_tuple_cut {t sl : Addr} {items : Array Value} {vl vu : Value} {lo hi : Option Int} {Q : Value → Shared → Prop} (ht : IsTup s.heap t items) (hs : s.heap.IsSliceOf sl vl vu .none) (pl : IsPart vl lo) (pu : IsPart vu hi)
    (hw : ¬ (sIx items.size 0 lo = 0 ∧ sIx items.size items.size hi = items.size))
    (h : Q (.ref s.heap.objs.size) { s with heap := s.heap.push { cls := .type "tuple", data := .seq ((items.toList.drop (sIx items.size 0 lo)).take (sIx items.size items.size hi - sIx items.size 0 lo)).toArray } })
    (hsz : items.size ≤ sizeLine) : wpAny (model prog w) A (getItem (.ref t) (.ref sl)) Q E s := by
  have htake : sizeOk (.seq ((items.toList.drop (sIx items.size 0 lo)).take (sIx items.size items.size hi - sIx items.size 0 lo)).toArray) := by
    show ((items.toList.drop (sIx items.size 0 lo)).take (sIx items.size items.size hi - sIx items.size 0 lo)).toArray.size ≤ sizeLine
    rw [List.size_toArray, List.length_take, List.length_drop, Array.length_toList]
    omega
  have hj : sIx items.size items.size hi ≤ items.size := sIx_le _ _ (Nat.le_refl _) hi
  obtain ⟨os, hos, hcs, hds⟩ := id hs
  have hTs : s.TypeIs (.ref sl) "slice" := ⟨os, hos, hcs⟩
  unfold getItem
  try with_reducible refine wpAny_holding ?_
  first | refine wpAny_bind (wpAny_pure ?_) | skip
  refine wpAny_bind (wpAny_sequenceKey ht.typeIs (by decide) ?_)
  refine wpAny_bind (wpAny_callSpecial?_slot (name := Str.ofString "__getitem__") ht.typeIs PyProof.Rows.slot_tuple_getitem
    (wpAny_call_entry PyProof.Rows.slot_tuple_getitem ht.typeIs entry_tuple_getitem ?_ (args_tuple_getitem _ _)))
  show wpAny _ _ (Builtin.Tuple.tupleItemsOf (.ref t) >>= _) _ _ s
  refine wpAny_bind (tupleItemsOf_ ht ?_)
  refine wpAny_bind (wpAny_typeOf hTs ?_)
  rw [if_pos (by decide)]
  refine wpAny_bind (sliceApplied_gen hs pl pu ?_)
  have hno : ¬ ((((sIx items.size 0 lo : Nat) : Int) == 0 && (1 : Int) == 1 && (sIx items.size items.size hi - sIx items.size 0 lo) == items.size) = true) := by
    intro q
    rw [Bool.and_eq_true, Bool.and_eq_true] at q
    have q1 : ((sIx items.size 0 lo : Nat) : Int) = 0 := eq_of_beq q.1.1
    have q2 : sIx items.size items.size hi - sIx items.size 0 lo = items.size := eq_of_beq q.2
    exact hw ⟨by omega, by omega⟩
  show wpAny _ _ (if (((sIx items.size 0 lo : Nat) : Int) == 0 && (1 : Int) == 1 && (sIx items.size items.size hi - sIx items.size 0 lo) == items.size) = true then _ else _) _ _ s
  rw [if_neg hno, pick_gen]
  first
    | exact wpAny_bind (m := Builtin.Tuple.tupleExact _) (wpAny_newObj_type (wpAny_pure ⟨_, rfl, wpAny_pure h⟩) htake)
    | exact wpAny_bind (m := Builtin.Tuple.tupleExact _) (wpAny_newObj_type (wpAny_bind (wpAny_pure (wpAny_pure ⟨_, rfl, wpAny_pure h⟩))) htake)
    | exact wpAny_bind (wpAny_bind (m := Builtin.Tuple.tupleExact _) (wpAny_newObj_type (wpAny_pure (wpAny_pure ⟨_, rfl, wpAny_pure h⟩)) htake))
    | exact wpAny_bind (wpAny_bind (m := Builtin.Tuple.tupleExact _) (wpAny_newObj_type (wpAny_pure ⟨_, rfl, wpAny_pure h⟩) htake))
end
end HT
namespace L2
open PySem PySem.Spec PyProof.Rows
abbrev TO := St → Hp → (Option Int → Hp → Prop) → Prop
def PO (X : Cx) (e : Option Expr) (t : TO) : Prop :=
  ∀ (pins : List (Addr × Obj)) (s : Shared) (σ : St) (H : Hp) (Q : Option Int → Hp → Prop), Inv X pins σ H s → t σ H Q →
    wpAny (model X.prog X.w) X.A (evalPart e X.env) (fun u s' => ∃ o H', Inv X pins σ H' s' ∧ IsPart u o ∧ Q o H') X.xe s
def tNoPart : TO := fun _ H Q => Q none H
def tPart (t : TE) : TO := fun σ H Q => t σ H fun x H1 => ∃ i, x = .int i ∧ Q (some i) H1
section
variable {X : Cx} {e : Expr} {te : TE} {lo hi : Option Expr} {tl th : TO} {pos p2 : Pos}
theorem po_none : PO X none tNoPart := by
  intro pins s σ H Q I h
  rw [evalPart_none]
  exact wpAny_pure ⟨none, H, I, .none, h⟩
theorem po_some (h : PE X e te) : PO X (some e) (tPart te) := by
  intro pins s σ H Q I hw
  rw [evalPart_some]
  refine thn (h pins s σ H _ I hw) fun u s1 ⟨x, H1, I1, r1, q1⟩ => ?_
  obtain ⟨i, rfl, q⟩ := q1
  obtain ⟨t, rfl⟩ := r1
  exact ⟨some i, H1, I1, .int i t, q⟩
def SlR (X : Cx) (r : V → Option Int → Option Int → Hp → VK → Prop) : Prop :=
  ∀ (pins : List (Addr × Obj)) (s : Shared) (σ : St) (H : Hp) (x : V) (v vl vu : Value) (lo hi : Option Int) (sl : Addr) (Q : VK), Inv X pins σ H s → RelV x v → s.heap.IsSliceOf sl vl vu .none → IsPart vl lo → IsPart vu hi → r x lo hi H Q →
    ∃ T id, typeLookup (.type T) "__getitem__" = pure (some (.builtin id)) ∧ s.TypeIs v T ∧ wpAny (model X.prog X.w) X.A (getItem v (.ref sl)) (EP X pins σ Q) X.xe s
def tSl (r : V → Option Int → Option Int → Hp → VK → Prop) (te : TE) (tl th : TO) : TE := fun σ H Q => te σ H fun x H1 => tl σ H1 fun l H2 => th σ H2 fun u H3 => r x l u H3 Q
theorem pe_slice {r : V → Option Int → Option Int → Hp → VK → Prop} (hr : SlR X r) (he : PE X e te) (hl : PO X lo tl) (hu : PO X hi th) : PE X (.Subscript e (.Slice lo hi none p2) pos) (tSl r te tl th) := by
  intro pins s σ H Q I h
  refine Subscript_ (thn (he pins s σ H _ I h) fun v s1 ⟨x, H1, I1, r1, q1⟩ => ?_)
  refine wpAny_Slice (thn (hl pins s1 σ H1 _ I1 q1) fun vl s2 ⟨l, H2, I2, pl, q2⟩ => thn (hu pins s2 σ H2 _ I2 q2) fun vu s3 ⟨u, H3, I3, pu, q3⟩ => ?_)
  rw [evalPart_none]
  refine wpAny_pure ?_
  have I4 : Inv X pins σ H3 { s3 with heap := s3.heap.push { cls := .type "slice", data := .fields #[vl, vu, .none] } } := I3.kept (t' := s3.toks) fun b ob q => Heap.get?_push_of_some _ q
  obtain ⟨T, id, hT, ht, hg⟩ := hr pins { s3 with heap := s3.heap.push { cls := .type "slice", data := .fields #[vl, vu, .none] } } σ H3 x v vl vu l u s3.heap.objs.size Q I4 r1 (Heap.IsSliceOf.new ..) pl pu q3
  show wpAny (model X.prog X.w) X.A (subscriptTail e (.Slice lo hi none p2) v (.ref s3.heap.objs.size)) (EP X pins σ Q) X.xe { s3 with heap := s3.heap.push { cls := .type "slice", data := .fields #[vl, vu, .none] } }
  exact tail_any (ops := [.ref s3.heap.objs.size, v]) ht hT hg (by with_unfolding_all rfl)
def cutV (xs : List V) (lo hi : Option Int) : List V := (xs.drop (HT.sIx xs.length 0 lo)).take (HT.sIx xs.length xs.length hi - HT.sIx xs.length 0 lo)
theorem cutV_length (xs : List V) (lo hi : Option Int) : (cutV xs lo hi).length ≤ xs.length := by
  unfold cutV
  rw [List.length_take, List.length_drop]
  omega
def rSlT (K : PySem.W.Frag) : V → Option Int → Option Int → Hp → VK → Prop := fun x lo hi H Q => ∃ a xs, x = .ref a ∧ SqT K H a xs ∧
  ¬ (HT.sIx xs.length 0 lo = 0 ∧ HT.sIx xs.length xs.length hi = xs.length) ∧ ∀ p, H p = none → Q (.ref p) (upd H p (.tup (cutV xs lo hi)))
theorem sl_tup : SlR X (rSlT X.K) := by
  intro pins s σ H x v vl vu lo hi sl Q I rx hs pl pu h
  obtain ⟨a, xs, rfl, hx, hw, q⟩ := h
  cases rx
  obtain ⟨its, r, ht, hz⟩ := I.tuple hx
  have hlen : its.toArray.size = xs.length := by rw [List.size_toArray]; exact r.length.symm
  refine ⟨"tuple", _, PyProof.Rows.slot_tuple_getitem.lookup, ht.typeIs, ?_⟩
  refine HT.getItem_tuple_cut ht hs pl pu (by rw [hlen]; exact hw) ?_ (by rw [hlen]; exact hz)
  rw [hlen]
  refine ⟨.ref s.heap.objs.size, _, I.laid (t' := s.toks) (o := .tup (cutV xs lo hi)) (fun b ob q => Heap.get?_push_of_some _ q) (Nat.le_refl _) ?_, rfl, q _ (I.hok.fresh (Nat.le_refl _))⟩
  exact ⟨Nat.le_trans (cutV_length xs lo hi) hz, _, (r.drop (HT.sIx xs.length 0 lo)).take (HT.sIx xs.length xs.length hi - HT.sIx xs.length 0 lo), IsTup.new _ _⟩
def rCatT (K : PySem.W.Frag) : R2 := fun x y H Q => ∃ a b xs ys, x = .ref a ∧ y = .ref b ∧ SqT K H a xs ∧ SqT K H b ys ∧ xs ≠ [] ∧ xs.length + ys.length ≤ sizeLine ∧
  (ys = [] → Q (.ref a) H) ∧ (ys ≠ [] → ∀ p, H p = none → Q (.ref p) (upd H p (.tup (xs ++ ys))))
theorem Vals.nil_iff {xs : List V} {us : List Value} (r : Vals xs us) : us = [] ↔ xs = [] := by
  cases r with
  | nil => simp
  | cons _ _ => simp
theorem op_catT : OpR X (binaryOp .Add) (rCatT X.K) := by
  intro pins s σ H x y v u Q I rx ry h
  obtain ⟨a, b, xs, ys, rfl, rfl, ha, hb, hx, hz, q1, q2⟩ := h
  cases rx
  cases ry
  obtain ⟨its, r1, p1, _⟩ := I.tuple ha
  obtain ⟨its2, r2, p2, _⟩ := I.tuple hb
  refine HT.cat_tup p1 p2 (fun z => hx (r1.nil_iff.mp z)) (fun z => ⟨.ref a, H, I, rfl, q1 (r2.nil_iff.mp z)⟩) (fun z => ?_) (by rw [← r1.length, ← r2.length]; exact hz)
  refine ⟨.ref s.heap.objs.size, _, I.laid (t' := s.toks) (o := .tup (xs ++ ys)) (fun b ob q => Heap.get?_push_of_some _ q) (Nat.le_refl _) ?_, rfl, q2 (fun w => z (r2.nil_iff.mpr w)) _ (I.hok.fresh (Nat.le_refl _))⟩
  exact ⟨by rw [List.length_append]; exact hz, _, r1.append r2, IsTup.new _ _⟩
end
end L2
namespace L2
open PySem PySem.Spec PyProof.Rows
def ixN (n : Nat) (i : Int) : Option Nat := if 0 ≤ i then (if i < n then some i.toNat else none) else if -(n : Int) ≤ i then some (i + n).toNat else none
def atI {α : Type} (xs : List α) (i : Int) : Option α := (ixN xs.length i).bind fun j => xs[j]?
theorem ixN_seq {n : Nat} {i : Int} {j : Nat} (h : ixN n i = some j) : seqIndex? i n = some j ∧ j < n ∧ -(n : Int) ≤ i ∧ i < n := by
  unfold ixN at h
  by_cases h0 : 0 ≤ i
  · rw [if_pos h0] at h
    by_cases h1 : i < n
    · rw [if_pos h1] at h
      have e : i.toNat = j := Option.some.inj h
      exact ⟨by rw [seqIndex_of h0 h1, e], by omega, by omega, h1⟩
    · rw [if_neg h1] at h; cases h
  · rw [if_neg h0] at h
    by_cases h1 : -(n : Int) ≤ i
    · rw [if_pos h1] at h
      have e : (i + n).toNat = j := Option.some.inj h
      exact ⟨by rw [seqIndex_neg (by omega) h1, e], by omega, h1, by omega⟩
    · rw [if_neg h1] at h; cases h
theorem atI_get {α : Type} {xs : List α} {i : Int} {v : α} (h : atI xs i = some v) : ∃ j, seqIndex? i xs.length = some j ∧ xs[j]? = some v ∧ j < xs.length ∧ -(xs.length : Int) ≤ i ∧ i < xs.length := by
  unfold atI at h
  cases e : ixN xs.length i with
  | none => rw [e] at h; cases h
  | some j =>
    rw [e] at h
    obtain ⟨h1, h2, h3, h4⟩ := ixN_seq e
    exact ⟨j, h1, h, h2, h3, h4⟩
theorem atI_nat {α : Type} {xs : List α} {j : Nat} {v : α} (h : xs[j]? = some v) : atI xs (j : Int) = some v := by
  have hj : j < xs.length := (List.getElem?_eq_some_iff.mp h).1
  have e : ixN xs.length (j : Int) = some j := by
    unfold ixN
    rw [if_pos (by omega), if_pos (by omega)]; simp
  unfold atI; rw [e]; exact h
def PlainIx (b : Expr) : Prop := ∀ o i, subscripted b false o i = operate [o, i] (getItem o i)
def IxR (X : Cx) (r : R2) : Prop :=
  ∀ (value slice : Expr) (pins : List (Addr × Obj)) (s : Shared) (σ : St) (H : Hp) (x y : V) (v u : Value) (Q : VK), Inv X pins σ H s → RelV x v → RelV y u → r x y H Q →
    subscripted slice false v u = operate [v, u] (getItem v u) → wpAny (model X.prog X.w) X.A (subscriptTail value slice v u) (EP X pins σ Q) X.xe s
def MtR (X : Cx) (id : String) (r : V → List V → Hp → VK → Prop) : Prop :=
  ∀ (pins : List (Addr × Obj)) (s : Shared) (σ : St) (H : Hp) (x : V) (xs : List V) (v : Value) (us : List Value) (Q : VK), Inv X pins σ H s → RelV x v → Vals xs us → r x xs H Q →
    wpAny (model X.prog X.w) X.A (call (.builtin id) (v :: us)) (EP X pins σ Q) X.xe s
section
variable {X : Cx} {a b : Expr} {ta tb : TE} {pos : Pos}
theorem pe_ix {r : R2} (hr : IxR X r) (ha : PE X a ta) (hb : PE X b tb) (hs : PlainIx b) : PE X (.Subscript a b pos) (tOp r ta tb) := by
  intro pins s σ H Q I h
  exact Subscript_ (binT ha hb I h fun v u s2 x y H2 I2 rx ry q => hr a b pins s2 σ H2 x y v u Q I2 rx ry q (hs _ _))
def rIxL (K : PySem.W.Frag) : R2 := fun x y H Q => ∃ p xs i v, x = .ref p ∧ y = .int i ∧ SqL K H p xs ∧ atI xs i = some v ∧ Q v H
def rIxT (K : PySem.W.Frag) : R2 := fun x y H Q => ∃ p xs i v, x = .ref p ∧ y = .int i ∧ SqT K H p xs ∧ atI xs i = some v ∧ Q v H
def rIxS : R2 := fun x y H Q => ∃ z i c, x = .str z ∧ y = .int i ∧ z.length ≤ sizeLine ∧ atI z.cps.toList i = some c ∧ Q (.str ⟨#[c]⟩) H
theorem ix_list : IxR X (rIxL X.K) := by
  intro value slice pins s σ H x y v u Q I rx ry h hs
  obtain ⟨p, xs, i, z, rfl, rfl, hq, he, q⟩ := h
  cases rx
  obtain ⟨t, rfl⟩ := ry
  obtain ⟨its, r, pl, hz⟩ := I.list hq
  obtain ⟨j, h1, h2, h3, h4, h5⟩ := atI_get he
  obtain ⟨w, ew, rw'⟩ := r.get h2
  have hl := r.length
  have hn := line63
  have fin : EP X pins σ Q w s := ⟨z, H, I, rw', q⟩
  by_cases h0 : 0 ≤ i
  · have hj : i.toNat = j := by
      rw [seqIndex_of h0 h5] at h1
      exact Option.some.inj h1
    exact item_listR pl.isList h0 (by omega) (by rw [hj]; simpa using ew) fin hs
  · have hj : (i + (its.toArray.size : Int)).toNat = j := by
      rw [seqIndex_neg (by omega) h4] at h1
      rw [List.size_toArray, ← hl]
      exact Option.some.inj h1
    exact subscriptTail_builtinR (x := w) pl.isList.typeIs slot_list_getitem.lookup
      (wpAny_getItem_list_neg (Q := fun r s' => r = w ∧ EP X pins σ Q r s') pl.isList (by omega) (by rw [List.size_toArray] <;> omega) (by omega) (by rw [hj]; simpa using ew) ⟨rfl, fin⟩) hs
theorem ix_tup : IxR X (rIxT X.K) := by
  intro value slice pins s σ H x y v u Q I rx ry h hs
  obtain ⟨p, xs, i, z, rfl, rfl, hq, he, q⟩ := h
  cases rx
  obtain ⟨t, rfl⟩ := ry
  obtain ⟨its, r, pl, hz⟩ := I.tuple hq
  obtain ⟨j, h1, h2, h3, h4, h5⟩ := atI_get he
  obtain ⟨w, ew, rw'⟩ := r.get h2
  have hl := r.length
  have hn := line63
  have fin : EP X pins σ Q w s := ⟨z, H, I, rw', q⟩
  exact subscriptTail_builtinR (x := w) pl.typeIs slot_tuple_getitem.lookup
    (getItem_tuple (j := j) (Q := fun r s' => r = w ∧ EP X pins σ Q r s') pl (by omega) (by omega) (by rw [List.size_toArray, ← hl]; exact h1) (by simpa using ew) ⟨rfl, fin⟩) hs
theorem ix_str : IxR X rIxS := by
  intro value slice pins s σ H x y v u Q I rx ry h hs
  obtain ⟨z, i, c, rfl, rfl, hz, he, q⟩ := h
  obtain ⟨t, rfl⟩ := rx
  obtain ⟨t', rfl⟩ := ry
  obtain ⟨j, h1, h2, h3, h4, h5⟩ := atI_get he
  have hl : z.cps.toList.length = z.length := by simp [Str.length]
  rw [hl] at h1 h4 h5
  have hn := line63
  exact tail_any (typeIs_str s z t) slot_str_getitem.lookup (getItem_str (c := c) (by
    have e1 : decide (i < -(2 ^ 63 : Int)) = false := decide_eq_false (by omega)
    have e2 : decide (i ≥ 2 ^ 63) = false := decide_eq_false (by omega)
    rw [e1, e2, Bool.or_false]) (by rw [h1]; simpa using h2) ⟨.str ⟨#[c]⟩, H, I.tok _, ⟨_, rfl⟩, q⟩) hs
theorem Inv.lst {pins : List (Addr × Obj)} {σ : St} {H : Hp} {s : Shared} {p : Addr} {xs : List V} (I : Inv X pins σ H s) (h : H p = some (.lst xs)) :
    ∃ (its : List Value) (n : Nat), Vals xs its ∧ s.heap.get? p = some { cls := .type "list", data := .seq its.toArray n } ∧ xs.length ≤ sizeLine := by
  obtain ⟨z, its, n, r, e⟩ := I.hok p _ h
  exact ⟨its, n, r, e, z⟩
theorem slice_bounds (lo hi : Option Int) (n : Nat) : (sliceBounds lo hi none n).1 = ((HT.sIx n 0 lo : Nat) : Int) ∧ (sliceBounds lo hi none n).2.1 = ((HT.sIx n n hi : Nat) : Int) ∧ (sliceBounds lo hi none n).2.2 = 1 := by
  refine ⟨?_, ?_, rfl⟩
  · cases lo with
    | none => simp [sliceBounds, HT.sIx]
    | some i =>
      simp only [sliceBounds, HT.sIx, Option.getD_none, show (1 : Int) > 0 by decide, if_true]
      by_cases h : i < 0
      · simp only [h, if_true] <;> omega
      · simp only [h, if_false] <;> omega
  · cases hi with
    | none => simp [sliceBounds, HT.sIx]
    | some i =>
      simp only [sliceBounds, HT.sIx, Option.getD_none, show (1 : Int) > 0 by decide, if_true]
      by_cases h : i < 0
      · simp only [h, if_true] <;> omega
      · simp only [h, if_false] <;> omega
theorem slicePick_cut (its : List Value) (lo hi : Option Int) : slicePick its.toArray lo hi none = ((its.drop (HT.sIx its.length 0 lo)).take (HT.sIx its.length its.length hi - HT.sIx its.length 0 lo)).toArray := by
  obtain ⟨h1, h2, h3⟩ := slice_bounds lo hi its.toArray.size
  unfold slicePick
  rw [h1, h2, h3]
  simp only [sliceRange_one, pick_run, List.size_toArray] <;> rfl
def rSlL (K : PySem.W.Frag) : V → Option Int → Option Int → Hp → VK → Prop := fun x lo hi H Q => ∃ a xs, x = .ref a ∧ SqL K H a xs ∧ ∀ p, H p = none → Q (.ref p) (upd H p (.lst (cutV xs lo hi)))
theorem sl_list : SlR X (rSlL X.K) := by
  intro pins s σ H x v vl vu lo hi sl Q I rx hs pl pu h
  obtain ⟨a, xs, rfl, hx, q⟩ := h
  cases rx
  obtain ⟨its, r, ht, hz⟩ := I.list hx
  have hlen := r.length
  refine ⟨"list", _, slot_list_getitem.lookup, ht.isList.typeIs, ?_⟩
  refine wpAny_getItem_list_slice ht.isList hs pl pu .none (by simp) ?_ (by rw [List.size_toArray] <;> omega)
  rw [slicePick_cut, ← hlen]
  refine ⟨.ref s.heap.objs.size, _, I.laid (t' := s.toks) (o := .lst (cutV xs lo hi)) (fun b ob q => Heap.get?_push_of_some _ q) (Nat.le_refl _) ?_, rfl, q _ (I.hok.fresh (Nat.le_refl _))⟩
  exact ⟨Nat.le_trans (cutV_length xs lo hi) hz, _, 0, (r.drop (HT.sIx xs.length 0 lo)).take (HT.sIx xs.length xs.length hi - HT.sIx xs.length 0 lo), Heap.get?_push_size _ rfl⟩
def flatV : V → Bool
  | .non => true
  | .bl _ => true
  | .int _ => true
  | .str _ => true
  | _ => false
def eqV : V → V → Bool
  | .non, .non => true
  | .bl a, .bl b => a == b
  | .bl a, .int b => (if a then 1 else 0) == b
  | .int a, .bl b => a == (if b then 1 else 0)
  | .int a, .int b => a == b
  | .str a, .str b => a == b
  | _, _ => false
theorem eqAt_V {A : Around} {s : Shared} {y x : V} {u v : Value} (ry : RelV y u) (rx : RelV x v) (fy : flatV y = true) (fx : flatV x = true) : SeqAt.EqAt A s u v (eqV y x) := by
  cases y with
  | non =>
    cases ry
    cases x with
    | non => cases rx; exact SeqAt.EqAt.same _
    | bl b => cases rx; exact SeqAt.EqAt.none_bool b
    | int b => obtain ⟨t, rfl⟩ := rx; exact SeqAt.EqAt.none_int b t
    | str b => obtain ⟨t, rfl⟩ := rx; exact SeqAt.EqAt.none_str b t
    | _ => exact absurd (show false = true from fx) Bool.false_ne_true
  | bl a =>
    cases ry
    cases x with
    | non => cases rx; exact SeqAt.EqAt.bool_none a
    | bl b => cases rx; exact SeqAt.EqAt.bool_bool a b
    | int b => obtain ⟨t, rfl⟩ := rx; exact SeqAt.EqAt.bool_int a b t
    | str b => obtain ⟨t, rfl⟩ := rx; exact SeqAt.EqAt.bool_str a b t
    | _ => exact absurd (show false = true from fx) Bool.false_ne_true
  | int a =>
    obtain ⟨t', rfl⟩ := ry
    cases x with
    | non => cases rx; exact SeqAt.EqAt.int_none a t'
    | bl b => cases rx; exact SeqAt.EqAt.int_bool a t' b
    | int b => obtain ⟨t, rfl⟩ := rx; exact SeqAt.EqAt.int_int a t' b t
    | str b => obtain ⟨t, rfl⟩ := rx; exact SeqAt.EqAt.int_str a t' b t
    | _ => exact absurd (show false = true from fx) Bool.false_ne_true
  | str a =>
    obtain ⟨t', rfl⟩ := ry
    cases x with
    | non => cases rx; exact SeqAt.EqAt.str_none a t'
    | bl b => cases rx; exact SeqAt.EqAt.str_bool a t' b
    | int b => obtain ⟨t, rfl⟩ := rx; exact SeqAt.EqAt.str_int a t' b t
    | str b => obtain ⟨t, rfl⟩ := rx; exact SeqAt.EqAt.str_str a t' b t
    | _ => exact absurd (show false = true from fx) Bool.false_ne_true
  | _ => exact absurd (show false = true from fy) Bool.false_ne_true
def eqU (x : V) (u : Value) : Bool := match u with
  | .none => eqV .non x
  | .bool b => eqV (.bl b) x
  | .int i _ => eqV (.int i) x
  | .str z _ => eqV (.str z) x
  | _ => false
theorem eqU_of {x y : V} {u : Value} (r : RelV y u) (f : flatV y = true) : eqU x u = eqV y x := by
  cases y with
  | non => cases r; rfl
  | bl b => cases r; rfl
  | int i => obtain ⟨t, rfl⟩ := r; rfl
  | str z => obtain ⟨t, rfl⟩ := r; rfl
  | _ => exact absurd (show false = true from f) Bool.false_ne_true
theorem any_eqU {x : V} : ∀ {xs : List V} {us : List Value}, Vals xs us → xs.all flatV = true → us.any (eqU x) = xs.any fun y => eqV y x
  | _, _, .nil, _ => rfl
  | y :: xs, u :: us, .cons r t, f => by
    rw [List.all_cons, Bool.and_eq_true] at f
    rw [List.any_cons, List.any_cons, eqU_of r f.1, any_eqU t f.2]
theorem mem_eqAt {A : Around} {s : Shared} {x : V} {v : Value} (rx : RelV x v) (fx : flatV x = true) : ∀ {xs : List V} {us : List Value}, Vals xs us → xs.all flatV = true → ∀ u ∈ us, SeqAt.EqAt A s u v (eqU x u)
  | _, _, .nil, _ => fun u hu => by cases hu
  | y :: xs, u :: us, .cons r t, f => fun u' hu => by
    rw [List.all_cons, Bool.and_eq_true] at f
    rcases List.mem_cons.mp hu with rfl | hu
    · rw [eqU_of r f.1]; exact eqAt_V r rx f.1 fx
    · exact mem_eqAt rx fx t f.2 u' hu
def inV (x : V) (xs : List V) : Bool := xs.any fun y => eqV y x
def rIn (K : PySem.W.Frag) (neg : Bool) : R2 := fun x y H Q => ∃ p xs, y = .ref p ∧ (SqL K H p xs ∨ SqT K H p xs) ∧ flatV x = true ∧ xs.all flatV = true ∧ Q (.bl (if neg then !inV x xs else inV x xs)) H
theorem op_notIn_seq : OpR X (compareOp .NotIn) (rIn X.K true) := by
  intro pins s σ H x y v u Q I rx ry h
  obtain ⟨p, xs, rfl, hq, fx, fs, q⟩ := h
  cases ry
  rcases hq with hq | hq
  · obtain ⟨its, r, pl, hz⟩ := I.list hq
    refine SeqAt.notIn_listAt (eqU x) pl.isList (fun w hw => mem_eqAt rx fx r fs w (by simpa using hw)) ⟨.bl _, H, I, rfl, ?_⟩
    rw [show its.toArray.any (eqU x) = its.any (eqU x) by simp, any_eqU r fs]
    exact q
  · obtain ⟨its, r, pl, hz⟩ := I.tuple hq
    refine SeqAt.notIn_tupleAt (eqU x) pl (fun w hw => mem_eqAt rx fx r fs w (by simpa using hw)) ⟨.bl _, H, I, rfl, ?_⟩
    rw [show its.toArray.any (eqU x) = its.any (eqU x) by simp, any_eqU r fs]
    exact q
theorem op_notIn_str : OpR X (compareOp .NotIn) (fun x y H Q => ∃ i j, x = .str i ∧ y = .str j ∧ Q (.bl (!(!(Builtin.Str.occurrences j i 0 j.length 1).isEmpty))) H) := by
  intro pins s σ H x y v u Q I rx ry h
  obtain ⟨i, j, rfl, rfl, q⟩ := h
  obtain ⟨t, rfl⟩ := rx
  obtain ⟨t', rfl⟩ := ry
  exact notIn_str ⟨.bl _, H, I, rfl, q⟩
theorem call_len_seq : CallR X (.builtin "len") (fun xs H Q => ∃ p ys, xs = [.ref p] ∧ (SqL X.K H p ys ∨ SqT X.K H p ys) ∧ Q (.int ys.length) H) := by
  intro pins s σ H xs us Q I r h
  obtain ⟨p, ys, rfl, hq, q⟩ := h
  obtain ⟨u, rfl, rx⟩ := vals1 r
  cases rx
  have hn := line63
  rcases hq with hq | hq
  · obtain ⟨its, r', pl, hz⟩ := I.list hq
    have hlen := r'.length
    exact Calls.call_len_list pl.isList (by simp only [List.size_toArray] <;> omega) ⟨.int ys.length, H, I.tok _, ⟨s.toks + 1, by rw [List.size_toArray, hlen]⟩, q⟩
  · obtain ⟨its, r', pl, hz⟩ := I.tuple hq
    have hlen := r'.length
    exact len_tuple pl (by simp only [List.size_toArray] <;> omega) ⟨.int ys.length, H, I.tok _, ⟨s.toks + 1, by rw [List.size_toArray, hlen]⟩, q⟩
theorem call_len_str : CallR X (.builtin "len") (fun xs H Q => ∃ z, xs = [.str z] ∧ z.length ≤ sizeLine ∧ Q (.int z.length) H) := by
  intro pins s σ H xs us Q I r h
  obtain ⟨z, rfl, hz, q⟩ := h
  obtain ⟨u, rfl, t, rfl⟩ := vals1 r
  have hn := line63
  exact len_str (by omega) ⟨.int z.length, H, I.tok _, ⟨_, rfl⟩, q⟩
theorem call_list_of : CallR X (.type "list") (fun xs H Q => ∃ p ys, xs = [.ref p] ∧ (SqL X.K H p ys ∨ SqT X.K H p ys) ∧ ∀ l, H l = none → Q (.ref l) (upd H l (.lst ys))) := by
  intro pins s σ H xs us Q I r h
  obtain ⟨p, ys, rfl, hq, q⟩ := h
  obtain ⟨u, rfl, rx⟩ := vals1 r
  cases rx
  have fin : ∀ (its : List Value), Vals ys its → ys.length ≤ sizeLine → ∀ (h' : Heap) (c' : Nat), (∀ b o', s.heap.get? b = some o' → h'.get? b = some o') →
      h'.get? s.heap.objs.size = some { cls := .type "list", dict := none, data := .seq its.toArray c', slots := #[] } → EP X pins σ Q (.ref s.heap.objs.size) { s with heap := h' } := fun its r' hz h' c' kp e =>
    ⟨.ref s.heap.objs.size, _, I.laid (t' := s.toks) kp (Nat.le_refl _) (show ObjOk X.prog X.w _ h' _ (.lst ys) from ⟨hz, its, c', r', e⟩), rfl, q _ (I.hok.fresh (Nat.le_refl _))⟩
  rcases hq with hq | hq
  · obtain ⟨its, r', pl, hz⟩ := I.list hq
    have hlen := r'.length
    obtain ⟨o, ho, hc, n, hd⟩ := pl.isList
    exact call_list_seq p (.inl rfl) ho hc hd (fun h' c' kp e => fin its r' hz h' c' kp e) (by simp only [List.size_toArray] <;> omega)
  · obtain ⟨its, r', pl, hz⟩ := I.tuple hq
    have hlen := r'.length
    obtain ⟨o, ho, hc, n, hd⟩ := pl
    exact call_list_seq p (.inr rfl) ho hc hd (fun h' c' kp e => fin its r' hz h' c' kp e) (by simp only [List.size_toArray] <;> omega)
theorem call_tuple_of : CallR X (.type "tuple") (fun xs H Q => ∃ p ys, xs = [.ref p] ∧ ((SqL X.K H p ys ∧ ∀ l, H l = none → Q (.ref l) (upd H l (.tup ys))) ∨ (SqT X.K H p ys ∧ Q (.ref p) H))) := by
  intro pins s σ H xs us Q I r h
  obtain ⟨p, ys, rfl, h⟩ := h
  obtain ⟨u, rfl, rx⟩ := vals1 r
  cases rx
  rcases h with ⟨hq, q⟩ | ⟨hq, q⟩
  · obtain ⟨its, r', pl, hz⟩ := I.list hq
    have hlen := r'.length
    refine call_tuple_list pl.isList (fun h' kp => ?_) (by simp only [List.size_toArray] <;> omega)
    have I1 : Inv X pins σ H { s with heap := h' } := I.kept (t' := s.toks) kp
    have I2 : Inv X pins σ (upd H h'.objs.size (.tup ys)) { s with heap := h'.push { cls := .type "tuple", data := .seq its.toArray } } :=
      I1.laid (t' := s.toks) (fun b o e => Heap.get?_push_of_some _ e) (Nat.le_refl _) (show ObjOk X.prog X.w _ _ _ (.tup ys) from ⟨hz, its, r', IsTup.new _ _⟩)
    exact ⟨.ref h'.objs.size, _, I2, rfl, q _ (I1.hok.fresh (Nat.le_refl _))⟩
  · obtain ⟨its, r', pl, hz⟩ := I.tuple hq
    exact call_tuple_same pl ⟨.ref p, H, I, rfl, q⟩
def tyV (K : PySem.W.Frag) (T : String) (x : V) (H : Hp) : Prop := match x with
  | .str _ => T = "str"
  | .int _ => T = "int"
  | .ref p => (T = "list" ∧ ∃ xs, SqL K H p xs) ∨ (T = "tuple" ∧ ∃ o, K.lookup p = some o ∧ o.cls = .type "tuple" ∧ o.dict = none) ∨
      (T = "dict" ∧ ((∃ kvs, H p = some (.dK kvs)) ∨ ∃ kvs, H p = some (.dT kvs))) ∨ (T = "set" ∧ ∃ S n, H p = some (.set S n))
  | _ => False
theorem tyV_is {pins : List (Addr × Obj)} {σ : St} {H : Hp} {s : Shared} {T : String} {x : V} {v : Value} (I : Inv X pins σ H s) (r : RelV x v) (ty : tyV X.K T x H) :
    s.TypeIs v T ∧ ∀ a, v = .ref a → ∃ ob, s.heap.get? a = some ob ∧ ob.dict = none := by
  cases x with
  | str z =>
    obtain ⟨t, rfl⟩ := r
    cases (show T = "str" from ty)
    exact ⟨typeIs_str s z t, fun _ e => nomatch e⟩
  | int i =>
    obtain ⟨t, rfl⟩ := r
    cases (show T = "int" from ty)
    exact ⟨typeIs_int s i t, fun _ e => nomatch e⟩
  | ref p =>
    cases r
    rcases ty with ⟨rfl, xs, hq⟩ | ⟨rfl, o, hk, hc, hd⟩ | ⟨rfl, hk⟩ | ⟨rfl, S, n, hk⟩
    · obtain ⟨its, _, pl, _⟩ := I.list hq
      refine ⟨pl.isList.typeIs, fun a e => ?_⟩
      cases e
      obtain ⟨o, n, e, c, hd, _⟩ := pl
      exact ⟨o, e, hd⟩
    · refine ⟨⟨o, I.kIn p o hk, hc⟩, fun a e => ?_⟩
      cases e
      exact ⟨o, I.kIn _ o hk, hd⟩
    · have z : ∃ o, s.heap.get? p = some o ∧ o.ExactDict := by
        rcases hk with ⟨kvs, hk⟩ | ⟨kvs, hk⟩
        · obtain ⟨_, _, _, _, o, _, _, e, ex, _⟩ := I.hok p _ hk
          exact ⟨o, e, ex⟩
        · obtain ⟨_, _, _, _, o, _, _, e, ex, _⟩ := I.hok p _ hk
          exact ⟨o, e, ex⟩
      obtain ⟨o, e, ex⟩ := z
      refine ⟨⟨o, e, ex.1⟩, fun a e2 => ?_⟩
      cases e2
      exact ⟨o, e, ex.2.1⟩
    · obtain ⟨o, _, _, _, e, ex, _⟩ := I.hok p _ hk
      refine ⟨⟨o, e, ex.1⟩, fun a e2 => ?_⟩
      cases e2
      exact ⟨o, e, ex.2.1⟩
  | _ => exact False.elim ty
def tBM (K : PySem.W.Frag) (T : String) (r : V → List V → Hp → VK → Prop) (to : TE) (t : TA) : TE := fun σ H Q => to σ H fun x H1 => tyV K T x H1 ∧ t σ H1 fun xs H2 => r x xs H2 Q
variable {o e : Expr} {es : List Expr} {to : TE} {t : TA} {name : Str} {apos cpos : Pos} {T id : String} {r : V → List V → Hp → VK → Prop}
theorem pe_bm (pa : PlainAttrs T) (slot : Slot T name id) (hty : typeOf (.builtin id) = pure (.type "method_descriptor")) (hm : MtR X id r) (ho : PE X o to) (ha : PA X (e :: es) t)
    (hbase : attributeBase o name X.env (eval o X.env) = eval o X.env := by rfl)
    (hfew : ((backTo cpos (starEach (e :: es) X.env)).all (fun x => !x.1) && (backToKw cpos (keywordEach [] X.env)).all (fun x => x.1.isSome)
      && decide ((e :: es).length + ([] : List Keyword).length + (if ([] : List Keyword).isEmpty then 0 else 1) < 30)) = true := by rfl)
    (hline : (apos.endLine == cpos.line) = true := by rfl) (hs : starEach (e :: es) X.env = (false, eval e X.env) :: starEach es X.env := by rfl) (hplain : (backTo cpos (starEach es X.env)).any (·.1) = false := by rfl) :
    PE X (.Call (.Attribute o name apos) (e :: es) [] cpos) (tBM X.K T r to t) := by
  intro pins s σ H Q I h
  refine wpAny_Call_method_late hbase hfew hline rfl (thn (ho pins s σ H _ I h) fun v s1 ⟨x, H1, I1, r1, ty, q1⟩ => ?_)
  obtain ⟨h1, h2⟩ := tyV_is I1 r1 ty
  refine ⟨T, id, pa, slot, hty, h1, h2, ?_⟩
  have hA := ha cpos pins s1 σ H1 _ I1 q1
  rw [hs] at hA ⊢
  refine Calls.callWith_builtin (by show (false || (backTo cpos (starEach es X.env)).any (·.1)) = false; rw [hplain] <;> rfl) (Calls.evalArgs_plain ?_)
  exact thn hA fun us s2 ⟨vs, H2, I2, r2, q2⟩ => hm pins s2 σ H2 x vs v us Q I2 r1 r2 q2
end
end L2
namespace L2
open PySem PySem.Spec PyProof.Rows
def MtM (X : Cx) (id : String) (r : V → List V → Hp → VK → Prop) : Prop :=
  ∀ (pins : List (Addr × Obj)) (s : Shared) (σ : St) (H : Hp) (x : V) (xs : List V) (v : Value) (us : List Value) (Q : VK), Inv X pins σ H s → RelV x v → Vals xs us → r x xs H Q →
    wpAny (model X.prog X.w) X.A (call (.builtin id) (v :: us)) (EP X pins σ Q) X.xe s
theorem Vals.one : ∀ {x : V} {us : List Value}, Vals [x] us → ∃ u, us = [u] ∧ RelV x u
  | _, _, .cons r .nil => ⟨_, rfl, r⟩
theorem Vals.rep {xs : List V} {us : List Value} (h : Vals xs us) : ∀ k : Nat, Vals (List.replicate k xs).flatten (List.replicate k us).flatten
  | 0 => .nil
  | k + 1 => by
    rw [List.replicate_succ, List.replicate_succ, List.flatten_cons, List.flatten_cons]
    exact Vals.append h (Vals.rep h k)
theorem foldl_rep (its : List Value) : ∀ (k : Nat) (acc : List Value),
    List.foldl (fun x1 x2 => x1 ++ x2) acc.toArray (List.replicate k its.toArray) = (acc ++ (List.replicate k its).flatten).toArray
  | 0, acc => by simp
  | k + 1, acc => by
    have e : acc.toArray ++ its.toArray = (acc ++ its).toArray := by simp
    have e2 : (acc ++ its) ++ (List.replicate k its).flatten = acc ++ (List.replicate (k + 1) its).flatten := by
      rw [List.replicate_succ, List.flatten_cons, List.append_assoc]
    rw [← e2, ← foldl_rep its k (acc ++ its), ← e, List.replicate_succ, List.foldl_cons]
section
variable {X : Cx} {pins : List (Addr × Obj)} {σ : St} {H : Hp} {s : Shared} {l b : Addr} {xs ys zs : List V}
theorem Inv.lset {its its' : List Value} {n : Nat} {f : Array Value → Array Value} {t' : Nat} (I : Inv X pins σ H s) (hH : H l = some (.lst xs))
    (e : s.heap.get? l = some { cls := .type "list", data := .seq its.toArray n }) (hf : f its.toArray = its'.toArray) (hv : Vals ys its') (hz : ys.length ≤ sizeLine) :
    Inv X pins σ (upd H l (.lst ys)) { s with heap := s.heap.update l (Obj.mapSeq f), toks := t' } := by
  have q := PySem.IsL.update e f
  rw [hf] at q
  refine I.write (x := l) (e := l) (by rw [hH]; exact trivial) (.inl rfl) (fun b' u hb hu => (Heap.get?_update_other s.heap (Obj.mapSeq f) (Ne.symm hb)).trans hu) ⟨_, q⟩ ?_
  exact ⟨hz, its', _, hv, q⟩
theorem Inv.lnew {its : List Value} {t' : Nat} (I : Inv X pins σ H s) (hv : Vals ys its) (hz : ys.length ≤ sizeLine) :
    Inv X pins σ (upd H s.heap.objs.size (.lst ys)) { s with heap := s.heap.push { cls := .type "list", data := .seq its.toArray }, toks := t' } :=
  I.laid (fun _ _ q => Heap.get?_push_of_some _ q) (Nat.le_refl _) ⟨hz, its, 0, hv, Heap.get?_push_size _ rfl⟩
theorem Inv.fresh (I : Inv X pins σ H s) : H s.heap.objs.size = none := I.hok.fresh (Nat.le_refl _)
theorem Inv.lstM (I : Inv X pins σ H s) (hH : H l = some (.lst xs)) : xs.length ≤ sizeLine ∧ ∃ (its : List Value) (n : Nat), Vals xs its ∧ xs.length = its.length ∧ s.heap.get? l = some { cls := .type "list", data := .seq its.toArray n } := by
  obtain ⟨z, its, n, r, e⟩ := I.hok l _ hH
  exact ⟨z, its, n, r, r.length, e⟩
theorem notLongL {n : Nat} (h : n ≤ sizeLine) : Builtin.List.listTooLong n = false := by
  unfold Builtin.List.listTooLong
  exact decide_eq_false (by omega)
end
section
variable {X : Cx}
def rAppend : V → List V → Hp → VK → Prop := fun x vs H Q => ∃ l xs y, x = .ref l ∧ vs = [y] ∧ H l = some (.lst xs) ∧ xs.length < sizeLine ∧ Q .non (upd H l (.lst (xs ++ [y])))
theorem mt_append : MtM X "list.append" rAppend := by
  intro pins s σ H x vs v us Q I rx rv h
  obtain ⟨l, xs, y, rfl, rfl, hH, hz, q⟩ := h
  cases rx
  obtain ⟨u, rfl, ru⟩ := rv.one
  obtain ⟨z, its, n, r, hl, e⟩ := I.lstM hH
  refine call_meets F.slot_list_append ⟨_, e, rfl⟩ F.entry_list_append (F.args_list_append_2 _ _) (PySem.list_append l its.toArray n u (by rw [List.size_toArray]; omega)) ⟨e, ?_⟩
  refine ⟨.non, _, I.lset (its' := its ++ [u]) hH e (by simp) (r.append (.cons ru .nil)) ?_, rfl, q⟩
  rw [List.length_append, List.length_singleton]
  omega
def rExtend : V → List V → Hp → VK → Prop := fun x vs H Q => ∃ l b xs zs, x = .ref l ∧ vs = [.ref b] ∧ H l = some (.lst xs) ∧ H b = some (.lst zs) ∧ xs.length + zs.length ≤ sizeLine ∧ Q .non (upd H l (.lst (xs ++ zs)))
theorem mt_extend : MtM X "list.extend" rExtend := by
  intro pins s σ H x vs v us Q I rx rv h
  obtain ⟨l, b, xs, zs, rfl, rfl, hH, hB, hz, q⟩ := h
  cases rx
  obtain ⟨u, rfl, ru⟩ := rv.one
  cases ru
  obtain ⟨z, its, n, r, hl, e⟩ := I.lstM hH
  obtain ⟨z2, its2, n2, r2, hl2, e2⟩ := I.lstM hB
  have hsz : its.toArray.size + its2.toArray.size ≤ sizeLine := by rw [List.size_toArray, List.size_toArray]; omega
  have hlong : ¬ (!its.toArray.isEmpty && Builtin.List.listTooLong (its.toArray.size + its2.toArray.size)) = true := by
    rw [notLongL hsz, Bool.and_false]
    exact Bool.false_ne_true
  refine call_meets F.slot_list_extend ⟨_, e, rfl⟩ F.entry_list_extend (F.args_list_extend_2 _ _)
    (AutoSeq1.list_extend_list_list_0 l its.toArray n b its2.toArray n2 hlong (by rw [List.size_toArray]; omega) (by omega)) ⟨e, e2, ?_⟩
  refine ⟨.non, _, I.lset (its' := its ++ its2) hH e (by simp) (r.append r2) ?_, rfl, q⟩
  rw [List.length_append]
  omega
def rCat : R2 := fun x y H Q => ∃ l b xs zs, x = .ref l ∧ y = .ref b ∧ H l = some (.lst xs) ∧ H b = some (.lst zs) ∧ xs.length + zs.length ≤ sizeLine ∧ ∀ p, H p = none → Q (.ref p) (upd H p (.lst (xs ++ zs)))
theorem op_cat : OpR X (binaryOp .Add) rCat := by
  intro pins s σ H x y v u Q I rx ry h
  obtain ⟨l, b, xs, zs, rfl, rfl, hH, hB, hz, q⟩ := h
  cases rx
  cases ry
  obtain ⟨z, its, n, r, hl, e⟩ := I.lstM hH
  obtain ⟨z2, its2, n2, r2, hl2, e2⟩ := I.lstM hB
  refine PySem.P.add_list e e2 ?_ (by rw [List.size_toArray, List.size_toArray]; omega)
  have ea : its.toArray ++ its2.toArray = (its ++ its2).toArray := by simp
  rw [ea]
  exact ⟨.ref _, _, I.lnew (t' := s.toks) (r.append r2) (by rw [List.length_append]; omega), rfl, q _ I.fresh⟩
def rRep : R2 := fun x y H Q => ∃ l k xs, x = .ref l ∧ y = .int k ∧ H l = some (.lst xs) ∧ -(2 ^ 63) ≤ k ∧ k < 2 ^ 63 ∧ xs.length * k.toNat ≤ sizeLine ∧
  ∀ p, H p = none → Q (.ref p) (upd H p (.lst (List.replicate k.toNat xs).flatten))
theorem len_rep {α : Type} (xs : List α) (k : Nat) : (List.replicate k xs).flatten.length = k * xs.length := by
  induction k with
  | zero => simp
  | succ k ih => rw [List.replicate_succ, List.flatten_cons, List.length_append, ih, Nat.succ_mul, Nat.add_comm]
theorem op_rep : OpR X (binaryOp .Mult) rRep := by
  intro pins s σ H x y v u Q I rx ry h
  obtain ⟨l, k, xs, rfl, rfl, hH, h1, h2, hz, q⟩ := h
  cases rx
  obtain ⟨t, rfl⟩ := ry
  obtain ⟨z, its, n, r, hl, e⟩ := I.lstM hH
  have hlen : its.toArray.size * k.toNat ≤ sizeLine := by rw [List.size_toArray, ← hl]; exact hz
  have hcap : ¬ its.toArray.size * k.toNat > (2 ^ 63 - 1) / 8 := by
    have : (sizeLine : Nat) ≤ (2 ^ 63 - 1) / 8 := by decide
    omega
  have hfit : ¬ (!Builtin.List.listFitsIndex k) = true := by
    rw [fitsIndex_both h1 h2]
    exact Bool.false_ne_true
  have hlong : ¬ Builtin.List.listTooLong (its.toArray.size * k.toNat) = true := by
    rw [notLongL hlen]
    exact Bool.false_ne_true
  have hnew : List.foldl (fun x1 x2 => x1 ++ x2) #[] (List.replicate (if its.toArray.isEmpty = true then 0 else k.toNat) its.toArray) = (List.replicate k.toNat its).flatten.toArray := by
    have f0 : ∀ m : Nat, List.foldl (fun x1 x2 => x1 ++ x2) #[] (List.replicate m its.toArray) = (List.replicate m its).flatten.toArray := fun m => by
      have := foldl_rep its m []
      rw [List.nil_append] at this
      exact this
    rw [f0]
    cases its with
    | nil => simp
    | cons a r' => rw [if_neg (by simp)]
  refine wpAny_binaryOp_repeat_ref (T := "list") (U := "int") (by decide) ⟨_, e, rfl⟩ (fun s' => typeIs_int s' k t) noFill_list_mul F.fills_int_mul F.slot_int_rmul repeat_list F.slot_int_index.lookup
    (call_meets F.slot_int_rmul (typeIs_int s k t) F.entry_int_rmul (F.args_int_rmul_2 _ _) (int___rmul___int_list k t l its.toArray n)
      ⟨e, rfl, ⟨_, e, rfl⟩, call_meets F.slot_list_mul ⟨_, e, rfl⟩ F.entry_list_mul (F.args_list_mul_2 _ _) (AutoListH.list___mul___list_int_3 l its.toArray n k t hfit hcap hlong) ⟨e, ?_⟩⟩)
  rw [hnew]
  exact ⟨.ref _, _, I.lnew (t' := s.toks) (r.rep k.toNat) (by rw [len_rep, Nat.mul_comm]; exact hz), rfl, q _ I.fresh⟩
end
section
variable {prog : Program} {w : World} {A : Around} {E : Value → Shared → Prop} {s : Shared}
end
section
variable {X : Cx}
end
end L2
namespace Att
open PySem PySem.W PySem.Calls PyProof.Rows
theorem ints_of_wellAll {P : Params} {h : Heap} : ∀ (ns : List Int) (vs : List Value), WellAll P h vs (ns.map WData.int) → IntsAre vs ns := by
  intro ns
  induction ns with
  | nil =>
    intro vs w
    rw [List.map_nil] at w
    cases w
    exact .nil
  | cons n ns ih =>
    intro vs w
    rw [List.map_cons] at w
    cases w with
    | cons a b =>
      cases a
      exact .cons _ _ (ih _ b)
theorem script_of {l : OpenLaw} {n : Nat} (hn : l.most = some n) {P : Params} {h : Heap} {args : List WData} {vals : List Value}
    (hpre : l.row.toRowW.claim.pre args = true) (hwl : WellAll P h vals args) :
    ∃ a vs ns, vals = [Value.ref a] ∧ args = [WData.list (ns.map WData.int)] ∧ h.get? a = some { cls := .type "list", data := .seq vs.toArray } ∧ IntsAre vs ns ∧ ns.length ≤ n := by
  have hsh : WShape.hasAll [] args [.list .int] = true := (pre_splitW hpre).1
  have hc : l.pre.holds [] { args := args } = true := (pre_splitW hpre).2
  obtain ⟨d, r, rfl, h1, h2⟩ := hasAllW_cons hsh
  obtain rfl := hasAllW_nil h2
  obtain ⟨xs, rfl, h3⟩ := hasW_list h1
  obtain ⟨ns, rfl⟩ := items_int h3
  have hlen : ns.length ≤ n := by
    unfold OpenLaw.pre at hc
    have h4 : (WTm.not (.lt (.lit (.int (n : Int))) (.len (.arg 0)))).holds [] { args := [.list (ns.map .int)] } = true := by
      have h4 := (holds_andW hc).1
      rw [hn] at h4
      exact h4
    have h5 := condW_of h4 (w_not (w_lt w_lit (w_len_list (w_arg rfl))))
    rw [List.length_map] at h5
    refine Nat.le_of_not_lt fun q => ?_
    have q' : (n : Int) < ((ns.length : Nat) : Int) := by omega
    first
      | (rw [decide_eq_true q'] at h5; exact absurd h5 (by decide))
      | (simp at h5; omega)
  cases hwl with
  | cons w1 w2 =>
    cases w2
    cases w1 with
    | list ho hall => exact ⟨_, _, ns, rfl, rfl, ho, ints_of_wellAll ns _ hall, hlen⟩
theorem post_true (l : OpenLaw) (args : List WData) : l.row.toRowW.claim.post args (.bool true) args = true :=
  postW_of (r := l.row.toRowW) (X := (true == true))
    (show WShape.has [] (.bool true) .bool = true by first | rfl | decide | simp [WShape.has, WShape.arms, WShape.armsAll])
    (show (WTm.eq .res (.lit (.bool true))).value [] { args := args, res := some (.bool true), after := args } = some (.bool (true == true)) from w_eq_bool (w_res rfl) w_lit) rfl
theorem attach_call {l : OpenLaw} {n : Nat} {q : Program} {loose : List Str} {XP : (Str → Option Value) → Heap → Prop} {YP : World → Heap → Prop} {d : DefRec}
    (hn : l.most = some n) (hdf : d.params.defaults = [])
    (call : ∀ (w : World) (s₀ s₁ : Shared) (mg mb : Str → Option Value) (fa : Addr) (o : Obj) (pm cd doc : Value) (a : Addr) (vs : List Value) (ns : List Int),
      Ground q loose [] XP w s₀ mg mb s₁.heap → YP w s₁.heap →
      s₁.heap.get? fa = some o → o.data = .func (docDef d.name d.params d.body d.scope pm cd doc) → s₁.heap.CodeRec cd d.name → mg d.name = some (.ref fa) →
      s₁.heap.get? a = some { cls := .type "list", data := .seq vs.toArray } → IntsAre vs ns → ns.length ≤ n → s₁.gens = #[] →
      codeAny (model l.prog w) callerA (.call (.ref fa) ⟨[.ref a], []⟩) (fun r s' => r = .ok (.ret (.bool true)) ∧ OldK s₁.heap s'.heap ∧ s'.os = s₁.os ∧ AllBare s'.gens) s₁) :
    WalkO q loose XP YP l.row.toRowW d [] (fun f vs => PySem.call f vs) := by
  intro w s₀ s₁ mg mb G Y fa o pm cd doc dV kV ho hd hcd hD hmg hg args vals as hpre hlay hrd hwl hlo
  obtain rfl : dV = .none := Dflts.none hD hdf
  obtain rfl : kV = .none := Dflts.noKw hD
  obtain ⟨a, vs, ns, rfl, rfl, hobj, hints, hlen⟩ := script_of hn hpre hwl
  refine enter_call (codeAny_mono (call w s₀ s₁ mg mb fa o pm cd doc a vs ns G Y ho (fd_plain hd) hcd hmg hobj hints hlen hg) fun r s' hq => ?_)
  obtain ⟨rfl, h2, h3, h4⟩ := hq
  exact ⟨.inl ⟨.bool true, .bool true, [], rfl, fun _ => rfl, .bool true, post_true l _, fun _ => ⟨List.Pairwise.nil, fun _ hm => (nomatch hm)⟩⟩, h2, h3, h4⟩
section
variable {prog : Program} {w : World} {A : Around} {E : Value → Shared → Prop} {s : Shared} {K : Frag}
end
end Att
namespace L2
open PySem PySem.Spec PyProof.Rows
theorem vals_ints : ∀ {vs : List Value} {ns : List Int}, IntsAre vs ns → Vals (ns.map V.int) vs
  | _, _, .nil => .nil
  | _, _, .cons n t h => .cons ⟨t, rfl⟩ (vals_ints h)
def Only (H : Hp) : Prop := ∀ b, H b = none ∨ ∃ o xs, H b = some (.frz o (.lst xs))
theorem law_call {P : Program} {w : World} {K : PySem.W.Frag} {mg mb : Str → Option Value} {CX : CXT} {k : Nat} {fa a : Addr} {fd : FuncData} {x : Str} {sp : Sp} {s₁ : Shared} {vs : List Value} {ns : List Int}
    (KX : K.In s₁.heap) (hns : s₁.heap.Ns mainGlobals mg) (hb : s₁.heap.Ns builtinsNs mb) (hbb : ∀ x : Str, x ≠ "__name__" → mb x = bootBuiltins x) (hlim : s₁.heap.NoLimit) (hg : s₁.gens = #[])
    (ha : s₁.heap.get? a = some { cls := .type "list", data := .seq vs.toArray }) (hi : IntsAre vs ns) (hl : ns.length ≤ sizeLine) (hr : Room k callerA)
    (F : ∀ base : Heap, K.In base → base.Ns mainGlobals mg → FnOk P w K mg base CX k fa fd [x] sp) (hbind : ∀ (s : Shared) (u : Value), BindsTo s fd ⟨[u], []⟩ [(x, u)])
    (hsp : ∀ H : Hp, Only H → SqL K H a (ns.map V.int) → sp [.ref a] H (fun v _ => v = .bl true) fun _ _ _ => False)
    (hCX : ∀ H e s', CX [] H s₁ (fun _ _ _ => False) e s' → False) :
    codeAny (model P w) callerA (.call (.ref fa) ⟨[.ref a], []⟩) (fun r s' => r = .ok (.ret (.bool true)) ∧ OldK s₁.heap s'.heap ∧ s'.os = s₁.os ∧ AllBare s'.gens) s₁ := by
  have rv := vals_ints hi
  have lenV := hi.length
  -- from an abstract heap in which nothing but the script may be tracked
  have core : ∀ H : Hp, Only H → SqL K H a (ns.map V.int) → HOk P w H s₁.heap → (∀ b, H b ≠ none → b = a) → (H a ≠ none → K.lookup a = none) →
      codeAny (model P w) callerA (.call (.ref fa) ⟨[.ref a], []⟩) (fun r s' => r = .ok (.ret (.bool true)) ∧ OldK s₁.heap s'.heap ∧ s'.os = s₁.os ∧ AllBare s'.gens) s₁ := by
    intro H hO hS hok hA hK
    have base_of : ∀ {b : Addr} {o : Obj}, s₁.heap.get? b = some o → H b = none → (hidT s₁.heap H).get? b = some o := fun e n => hidT_get e n
    have noA : ∀ {b : Addr} {o : Obj} {es : Array DictEntry} {ep : Nat}, s₁.heap.get? b = some o → o.data = .dict es ep → H b = none := fun {b o es ep} e d => by
      cases q : H b with
      | none => rfl
      | some u =>
        have e' : b = a := hA b (by rw [q]; simp)
        subst e'
        rw [ha] at e; cases e
        have d' : Data.seq vs.toArray _ = Data.dict es ep := d
        cases d'
    have nsK : ∀ {b : Addr} {m : Str → Option Value}, s₁.heap.Ns b m → (hidT s₁.heap H).Ns b m := fun {b m} ⟨o, es, ep, e, d, r⟩ => ⟨o, es, ep, base_of e (noA e d), d, r⟩
    have hKb : K.In (hidT s₁.heap H) := fun b o e => base_of (KX b o e) (by
      cases q : H b with
      | none => rfl
      | some u =>
        have e' : b = a := hA b (by rw [q]; simp)
        subst e'
        rw [hK (by rw [q]; simp)] at e; cases e)
    have hM : Mod K mg (hidT s₁.heap H) := ⟨hKb, nsK hns, ⟨mb, nsK hb, hbb⟩, let ⟨mc, h1, h2⟩ := hlim; ⟨mc, nsK h1, h2⟩⟩
    have e0 : Env0 P w K mg (hidT s₁.heap H) callerA [] s₁ H := ⟨rfl, hM, fun b o e => of_hidT e, Nat.le_of_eq (hidT_size _ _), trivial, fun b hb => absurd (show b ∈ ([] : List Addr) from hb) (by simp), hok, .of_eq hg⟩
    refine codeAny_mono ((F _ hKb (nsK hns)).run callerA [] s₁ H ⟨[.ref a], []⟩ [.ref a] [.ref a] _ _ hr e0 (hbind s₁ (.ref a)) (.cons rfl .nil) (hsp H hO hS)) fun r s' h => ?_
    cases r with
    | error e => exact (hCX H e s' h).elim
    | ok fl =>
      cases fl with
      | next => exact False.elim h
      | brk => exact False.elim h
      | cont => exact False.elim h
      | ret u =>
        obtain ⟨v, H', os, bare, un, hok', r', q⟩ := h
        have q' : v = .bl true := q
        subst q'
        obtain rfl : u = Value.bool true := r'
        refine ⟨rfl, OldK.of_keep fun b o e => ?_, os, bare⟩
        cases q : H b with
        | none => exact un.keep b o e q (by intro z; exact absurd (show b ∈ ([] : List Addr) from z) (by simp)) (by simp)
        | some u =>
          rcases hO b with z | ⟨ob, xs, z⟩
          · rw [q] at z; cases z
          · have z2 := un.frzs b ob _ z
            obtain ⟨e1, _⟩ := hok b _ z
            obtain ⟨e2, _⟩ := hok' b _ z2
            rw [e] at e1; cases e1
            exact e2
  cases hk : K.lookup a with
  | some o =>
    -- the script is one of the module's own objects
    have e := KX a o hk
    rw [ha] at e
    cases e
    refine core (fun _ => none) (fun _ => .inl rfl) (.inr ⟨_, vs.toArray, _, hk, rfl, rfl, rfl, by rw [List.size_toArray, lenV]; exact hl, by simpa using rv⟩) (fun b u z => by have z' : (none : Option HO) = some u := z; cases z') (fun b z => absurd rfl z) fun z => absurd rfl z
  | none =>
    refine core (fun b => if b = a then some (.frz { cls := .type "list", data := .seq vs.toArray } (.lst (ns.map V.int))) else none) (fun b => ?_) (.inl (.inr ⟨{ cls := .type "list", data := .seq vs.toArray }, if_pos rfl⟩)) (fun b u z => ?_) (fun b z => ?_) fun _ => hk
    · by_cases hb : b = a
      · exact .inr ⟨_, _, if_pos hb⟩
      · exact .inl (if_neg hb)
    · by_cases hb : b = a
      · have z' := (if_pos hb).symm.trans z
        cases z'
        subst hb
        exact ⟨ha, by rw [List.length_map]; exact hl, vs, _, rv, ha⟩
      · have z' := (if_neg hb).symm.trans z
        cases z'
    · by_cases hb : b = a
      · exact hb
      · exact absurd (if_neg hb) z
end L2
namespace L2
open PySem PySem.Spec PyProof.Rows
theorem walk_of {l : PySem.W.OpenLaw} {n k : Nat} {q : Program} {loose : List Str} {XP : (Str → Option Value) → Heap → Prop} {YP : World → Heap → Prop} {d : DefRec} {K : Params → PySem.W.Frag} {CX : World → CXT} {sp : World → Sp} {x : Str}
    (hn : l.most = some n) (hn2 : n ≤ sizeLine) (hdf : d.params.defaults = []) (hr : Room k callerA)
    (hY : ∀ (w : World) (h : Heap), YP w h → (K w.params).In h)
    (F : ∀ (w : World) (mg : Str → Option Value) (fa : Addr) (h : Heap), (K w.params).In h → h.Ns mainGlobals mg → mg d.name = some (.ref fa) →
      ∃ fd : FuncData, (∀ (s : Shared) (u : Value), BindsTo s fd ⟨[u], []⟩ [(x, u)]) ∧
        ∀ base : Heap, (K w.params).In base → base.Ns mainGlobals mg → FnOk l.prog w (K w.params) mg base (CX w) k fa fd [x] (sp w))
    (hsp : ∀ (w : World) (H : Hp) (a : Addr) (ns : List Int), ns.length ≤ n → Only H → SqL (K w.params) H a (ns.map V.int) → sp w [.ref a] H (fun v _ => v = .bl true) fun _ _ _ => False)
    (hCX : ∀ (w : World) (H : Hp) (s : Shared) (e : Value) (s' : Shared), CX w [] H s (fun _ _ _ => False) e s' → False) :
    PySem.W.WalkO q loose XP YP l.row.toRowW d [] (fun f vs => PySem.call f vs) := by
  refine Att.attach_call hn hdf fun w s₀ s₁ mg mb fa o pm cd doc a vs ns G Y ho hd hcd hmg hobj hints hlen hg => ?_
  have KX := hY w _ Y
  obtain ⟨fd, hb, hF⟩ := F w mg fa _ KX G.T.g hmg
  exact law_call KX G.T.g G.T.b G.T.builtins G.T.nolimit hg hobj hints (Nat.le_trans hlen hn2) hr hF hb (fun H hO hS => hsp w H a ns hlen hO hS) fun H e s' => hCX w H s₁ e s'
end L2
namespace L2
open PySem PySem.Spec PyProof.Rows
def defArgs (s : Stmt) : Arguments := match s with
  | .FunctionDef _ a _ _ _ _ _ _ _ _ => a
  | _ => { posonlyargs := [], args := [], vararg := none, kwonlyargs := [], kw_defaults := [], kwarg := none, defaults := [] }
def defBody (s : Stmt) : List Stmt := match s with
  | .FunctionDef _ _ b _ _ _ _ _ _ _ => b
  | _ => []
def defScope (s : Stmt) : Scope := match s with
  | .FunctionDef _ _ _ _ _ _ sc _ _ _ => sc
  | _ => { kind := .function, names := [], isGenerator := false, isCoroutine := false }
abbrev CX0 : CXT := fun _ _ _ _ _ _ => False
abbrev E0 : XK := fun _ _ _ => False
theorem pass0 {X : Cx} : Passes CX0 X E0 := fun _ _ _ _ _ _ _ h => h.elim
structure Fun (K : PySem.W.Frag) (x qual : Str) (st : Stmt) (f : Addr) (fd : FuncData) : Prop where
  ex : ∃ (oc : Value) (od : Option Addr) (kV doc pm : Value) (an : Option Addr) (cdv ct : Value) (osl : Array (Option Value)),
    fd = PySem.W.fnOf x qual (defArgs st) (defBody st) (defScope st) .none kV doc pm an cdv ct ∧ K.lookup f = some ⟨oc, od, .func fd, osl⟩ ∧ PySem.W.codeIn K cdv qual = true
  kp : PySem.W.keepIn K (.ref f) = true
section
variable {P : Program} {w : World} {K : PySem.W.Frag} {mg : Str → Option Value} {base : Heap}
theorem Fun.ok {x qual : Str} {st : Stmt} {f : Addr} {fd : FuncData} {N ps : List Str} {k : Nat} {sp : Sp} (F : Fun K x qual st f fd) (S : FnScope N ps (defScope st)) (len : ∀ vs H Q E, sp vs H Q E → vs.length = ps.length)
    (hbody : ∀ (cdv : Value) (A : Around) (outer : List Env) (s : Shared) (H : Hp) (vs : List V) (Q : VK) (E : XK), Room k (A.deeper (envOfC qual (defScope st) s.heap.objs.size f cdv)) → sp vs H Q E →
      ∃ t, PSs (cxOf CX0 P w K mg base N qual (defScope st) f cdv A outer s H E).nox (defBody st) t ∧ t { nx := fun _ H' => Q .non H', rt := Q } (start N vs) H) : FnOk P w K mg base CX0 (k + 1) f fd ps sp := by
  obtain ⟨oc, od, kV, doc, pm, an, cdv, ct, osl, rfl, lk, hcd⟩ := F.ex
  refine fn_of lk hcd S len fun A outer s H vs Q E hr hsp => ?_
  obtain ⟨t, h, q⟩ := hbody cdv A outer s H vs Q E hr hsp
  exact ⟨t, h.nox, q⟩
theorem Fun.binds {x qual : Str} {st : Stmt} {f : Addr} {fd : FuncData} {ps : List Str} (F : Fun K x qual st f fd)
    (h : ∀ (kV doc pm : Value) (an : Option Addr) (cdv ct : Value) (us : List Value), us.length = ps.length → bindArgs (PySem.W.fnOf x qual (defArgs st) (defBody st) (defScope st) .none kV doc pm an cdv ct) ⟨us, []⟩ = pure (ps.zip us)) : Binds K fd ps [] := by
  obtain ⟨oc, od, kV, doc, pm, an, cdv, ct, osl, rfl, lk, hcd⟩ := F.ex
  exact .all (h kV doc pm an cdv ct)
theorem fun_mk {x qual : Str} {st : Stmt} {f : Addr} {oc : Value} {od an : Option Addr} {osl : Array (Option Value)} {kV doc pm cdv ct : Value} (l : K.lookup f = some ⟨oc, od, .func (PySem.W.fnOf x qual (defArgs st) (defBody st) (defScope st) .none kV doc pm an cdv ct), osl⟩)
    (c : PySem.W.codeIn K cdv qual = true) (k : PySem.W.keepIn K (.ref f) = true) : Fun K x qual st f (PySem.W.fnOf x qual (defArgs st) (defBody st) (defScope st) .none kV doc pm an cdv ct) := ⟨⟨oc, od, kV, doc, pm, an, cdv, ct, osl, rfl, l, c⟩, k⟩
end
section
variable {X : Cx}
theorem pv (i : Nat) {x : Str} {pos : Pos} (hN : X.N[i]? = some x := by rfl) (hv : Vis X.env.scope x := by first | exact Or.inl rfl | exact Or.inr (Or.inl rfl) | exact Or.inr (Or.inr rfl)) (hd : (x == ("__debug__" : Str)) = false := by decide)
    (hcd : (x == ("__classdict__" : Str)) = false := by decide) : PE X (.Name x pos) (tVar i) := pe_var hN hv hd hcd
end
theorem iteF {A B : Prop} (h : B) : if false = true then A else B := by
  rw [if_neg Bool.false_ne_true]
  exact h
theorem iteT {A B : Prop} (h : A) : if true = true then A else B := by
  rw [if_pos rfl]
  exact h
theorem ite2 {c A B : Prop} [Decidable c] (h1 : c → A) (h2 : ¬ c → B) : if c then A else B := by
  by_cases h : c
  · rw [if_pos h]
    exact h1 h
  · rw [if_neg h]
    exact h2 h
end L2
set_option Elab.async false
set_option linter.all false
set_option maxRecDepth 100000
set_option maxHeartbeats 4000000
namespace L2
open PySem PySem.Spec PyProof.Rows
structure Blk where
  s : Shared
  H : Hp
  fp : List Addr
  C : Addr
def clOf (names : List (Str × NameKind)) (cells : List (Str × Addr)) : List (Str × Addr) :=
  names.foldl (fun acc p => if p.2 == .free then (p.1, (cells.lookup p.1).getD 0) :: acc else acc) []
def blk (X : Cx) (sc : Scope) (own : List Str) (js : List Nat) (z : Blk) : Cx where
  prog := X.prog
  w := X.w
  K := X.K
  mg := X.mg
  base := X.base
  A := X.A
  N := own ++ js.map fun j => X.N.getD j ""
  s₀ := z.s
  H₀ := z.H
  env := compEnvC sc (clOf sc.names X.env.cells) z.C X.env
  outer := X.stack
  stack := X.stack
  ex := z.fp
  fn := fun _ => false
  calm := X.calm
  pn := []
  xe := fun _ _ => False
def okBlk (sc out : Scope) : Bool := sc.names.all fun p => p.2 != .cell && (p.2 != .local || sc.names.lookup p.1 == some .local) && (p.2 != .free || out.names.lookup p.1 == some .cell || out.names.lookup p.1 == some .free)
def okCap (sc : Scope) (N : List Str) (js : List Nat) : Bool := js.all fun j => decide (j < N.length) && (sc.names.lookup (N.getD j "") == some .free)
def capt (n : Nat) (js : List Nat) (σ : St) : St := List.replicate n none ++ js.map fun j => (σ[j]?).join
theorem clOf_gen (cells : List (Str × Addr)) : ∀ (names : List (Str × NameKind)) (acc : List (Str × Addr)) (x : Str) (c : Addr),
    (names.foldl (fun acc p => if p.2 == .free then (p.1, (cells.lookup p.1).getD 0) :: acc else acc) acc).lookup x = some c →
    ((x, NameKind.free) ∈ names ∧ c = (cells.lookup x).getD 0) ∨ acc.lookup x = some c
  | [], acc, x, c, h => .inr h
  | (n, k) :: r, acc, x, c, h => by
    rw [List.foldl_cons] at h
    rcases clOf_gen cells r _ x c h with ⟨h1, h2⟩ | h1
    · exact .inl ⟨List.mem_cons_of_mem _ h1, h2⟩
    · cases hk : (k == NameKind.free) with
      | false => 
        simp only [hk] at h1
        exact .inr h1
      | true =>
        simp only [hk, if_true] at h1
        rw [List.lookup_cons] at h1
        cases hx : (x == n) with
        | false => rw [hx] at h1; exact .inr h1
        | true =>
          rw [hx] at h1
          have e1 : x = n := by simpa using hx
          have e2 : k = .free := by simpa using hk
          subst e1 e2
          exact .inl ⟨List.mem_cons_self, (Option.some.inj h1).symm⟩
theorem clOf_has (cells : List (Str × Addr)) : ∀ (names : List (Str × NameKind)) (acc : List (Str × Addr)) (x : Str),
    ((x, NameKind.free) ∈ names ∨ (acc.lookup x).isSome = true) → ((names.foldl (fun acc p => if p.2 == .free then (p.1, (cells.lookup p.1).getD 0) :: acc else acc) acc).lookup x).isSome = true
  | [], acc, x, h => by
    rcases h with h | h
    · simp at h
    · exact h
  | (n, k) :: r, acc, x, h => by
    rw [List.foldl_cons]
    apply clOf_has cells r
    rcases h with h | h
    · rcases List.mem_cons.mp h with e | h
      · right
        cases e
        simp [List.lookup_cons]
      · exact .inl h
    · right
      cases hk : (k == NameKind.free) with
      | false => simpa [hk] using h
      | true =>
        simp only [hk, if_true, List.lookup_cons]
        cases hx : (x == n) with
        | true => rfl
        | false => exact h
theorem closure_eq {env : Env} {sc : Scope} (h : ∀ p ∈ sc.names, p.2 = .free → ∃ c, env.cells.lookup p.1 = some c) : closureFor sc env = pure (clOf sc.names env.cells) := by
  have go : ∀ (names : List (Str × NameKind)) (acc : List (Str × Addr)), (∀ p ∈ names, p.2 = NameKind.free → ∃ c, env.cells.lookup p.1 = some c) →
      (forIn names acc fun (p : Str × NameKind) (r : List (Str × Addr)) => (match p with | (name, kind) => if (kind == NameKind.free) = true then do let c ← cellOf env name; pure (ForInStep.yield ((name, c) :: r)) else pure (ForInStep.yield r) : Sem _)) =
      pure (names.foldl (fun acc p => if p.2 == .free then (p.1, (env.cells.lookup p.1).getD 0) :: acc else acc) acc) := by
    intro names
    induction names with
    | nil => intro acc _; rfl
    | cons p r ih =>
      intro acc hp
      obtain ⟨n, k⟩ := p
      rw [List.forIn_cons, List.foldl_cons]
      cases hk : (k == NameKind.free) with
      | false =>
        simp only [hk, Bool.false_eq_true, if_false]
        exact ih acc fun q hq => hp q (List.mem_cons_of_mem _ hq)
      | true =>
        obtain ⟨c, hc⟩ := hp (n, k) List.mem_cons_self (by simpa using hk)
        have e : cellOf env n = pure c := by
          unfold cellOf
          rw [show env.cells.lookup n = some c from hc]
        simp only [hk, if_true, e]
        have hc' : env.cells.lookup n = some c := hc
        rw [hc']
        exact ih _ fun q hq => hp q (List.mem_cons_of_mem _ hq)
  unfold closureFor clOf
  have := go sc.names [] h
  simp only [this]
  rfl
def PCs (X : Cx) (ifs : List Expr) (t : TT) : Prop :=
  ∀ (pins : List (Addr × Obj)) (s : Shared) (σ : St) (H : Hp) (Q : Bool → Hp → Prop), Inv X pins σ H s → t σ H Q →
    wpAny (model X.prog X.w) X.A (forIn ifs true fun c r => if r = true then do let ok ← isTrue c X.env (eval c X.env); pure (ForInStep.yield ok) else pure (ForInStep.yield r)) (TP X pins σ Q) X.xe s
def tYes : TT := fun _ H Q => Q true H
theorem pcs_nil {X : Cx} : PCs X [] tYes := fun _ _ _ H _ I h => wpAny_tests_nil ⟨H, I, h⟩
theorem compLoop_own {prog : Program} {w : World} {A : Around} {R : Result → Shared → Prop} {t0 : Shared} {elt tgt iter : Expr} {ifs : List Expr} {sc : Scope} {ps : Pos} {itv acc : Value} {ce : Env} (Wd : Nat → Shared → Prop)
    (step : ∀ k t, Wd k t → wpAny (model prog w) A (pyNext itv) (fun got t1 =>
      match got with
      | none => R (.ok .next) t1
      | some u => wpAny (model prog w) A (letOwnedTupleGo tgt itv u) (fun _ t2 => wpAny (model prog w) A (assign tgt ce u) (fun _ t3 =>
          wpAny (model prog w) A (forIn ifs true fun c r => if r = true then do let ok ← isTrue c ce (eval c ce); pure (ForInStep.yield ok) else pure (ForInStep.yield r)) (fun yes t4 =>
            if yes = true then wpAny (model prog w) A (eval elt ce) (fun val t5 => wpAny (model prog w) A (call (.builtin "list.append") [acc, val]) (fun _ t6 => ∃ m, m < k ∧ Wd m t6) (fun _ _ => False) t5) (fun _ _ => False) t4
            else ∃ m, m < k ∧ Wd m t4) (fun _ _ => False) t3) (fun _ _ => False) t2) (fun _ _ => False) t1) (fun _ _ => False) t)
    (k0 : Nat) (start : Wd k0 t0) : codeAny (model prog w) A (.compLoop (.ListComp elt [⟨tgt, iter, ifs, 0⟩] sc ps) 0 itv acc ce) R t0 := by
  refine codeAny_loop rfl Wd (fun k t hW => ?turn) k0 start
  case turn =>
    have nox : ∀ {α : Type} {m : Sem α} {Q : α → Shared → Prop} {E : Value → Shared → Prop} {z : Shared}, wpAny (model prog w) A m Q (fun _ _ => False) z → wpAny (model prog w) A m Q E z := fun h => wpAny_mono h (fun _ _ q => q) fun _ _ f => f.elim
    show wpAny _ A ((compTurn (.ListComp elt [⟨tgt, iter, ifs, 0⟩] sc ps) 0 itv acc ce).onRaise (fun x => do noteFrame x ce; theTreesLotGoes x)) _ _ t
    apply wpAny_noted
    rw [compTurn_list]
    refine wpAny_bind (wpAny_standAt (wpAny_bind (nox (wpAny_mono (step k t hW) (fun got t1 h1 => ?_) fun _ _ f => f))))
    cases got with
    | none => exact wpAny_pure h1
    | some u =>
      refine wpAny_bind (nox (wpAny_mono h1 (fun _ t2 h2 => ?_) fun _ _ f => f))
      refine wpAny_bind (nox (wpAny_mono h2 (fun _ t3 h3 => ?_) fun _ _ f => f))
      refine wpAny_bind (nox (wpAny_mono h3 (fun yes t4 h4 => ?_) fun _ _ f => f))
      cases yes with
      | false =>
        rw [if_neg Bool.false_ne_true] at h4
        exact wpAny_pure ⟨rfl, h4⟩
      | true =>
        rw [if_pos rfl] at h4
        refine wpAny_bind (wpAny_bind (nox (wpAny_mono h4 (fun val t5 h5 => ?_) fun _ _ f => f)))
        exact wpAny_bind (nox (wpAny_mono h5 (fun _ t6 h6 => wpAny_pure (wpAny_pure ⟨rfl, h6⟩)) fun _ _ f => f))
section
variable {X : Cx} {pins : List (Addr × Obj)} {σ : St} {H : Hp} {s : Shared}
def listObj (its : List Value) (n : Nat) : Obj := { cls := .type "list", data := .seq its.toArray n }
theorem okBlk_free {sc out : Scope} (h : okBlk sc out = true) {p : Str × NameKind} (hp : p ∈ sc.names) (hf : p.2 = .free) : out.names.lookup p.1 = some .cell ∨ out.names.lookup p.1 = some .free := by
  have := List.all_eq_true.mp h p hp
  simp only [hf, Bool.and_eq_true, Bool.or_eq_true, beq_iff_eq, bne_iff_ne, ne_eq, not_true, false_or] at this
  exact this.2
theorem okBlk_cell {sc out : Scope} (h : okBlk sc out = true) {p : Str × NameKind} (hp : p ∈ sc.names) : p.2 ≠ .cell := by
  have := List.all_eq_true.mp h p hp
  simp only [Bool.and_eq_true, bne_iff_ne, ne_eq] at this
  exact this.1.1
theorem okBlk_local {sc out : Scope} (h : okBlk sc out = true) {p : Str × NameKind} (hp : p ∈ sc.names) (hf : p.2 = .local) : sc.names.lookup p.1 = some .local := by
  have := List.all_eq_true.mp h p hp
  simp only [hf, Bool.and_eq_true, Bool.or_eq_true, beq_iff_eq, bne_iff_ne, ne_eq, not_true, false_or] at this
  exact this.1.2
theorem relabel_lookup {sc : Scope} {env : Env} {x : Str} : ∀ {names : List (Str × NameKind)} {k : NameKind}, (names.map fun (p : Str × NameKind) => match p with | (n, k) => if (k == NameKind.free && env.scope.kind == .function && env.kindOf n == some .cell) then (n, NameKind.cell) else (n, k)).lookup x = some k →
    ∃ k', names.lookup x = some k' ∧ (k' = k ∨ (k' = .free ∧ k = .cell))
  | [], _, h => by simp at h
  | (n, q) :: r, k, h => by
    rw [List.map_cons] at h
    rw [List.lookup_cons]
    cases hx : (x == n) with
    | true =>
      refine ⟨q, rfl, ?_⟩
      by_cases hc : (q == NameKind.free && env.scope.kind == .function && env.kindOf n == some .cell) = true
      · simp only [hc, if_true, List.lookup_cons, hx] at h
        right
        simp only [Bool.and_eq_true, beq_iff_eq] at hc
        exact ⟨hc.1.1, (Option.some.inj h).symm⟩
      · left
        have h2 : List.lookup x ((n, q) :: (r.map fun (p : Str × NameKind) => match p with | (n, k) => if (k == NameKind.free && env.scope.kind == .function && env.kindOf n == some .cell) then (n, NameKind.cell) else (n, k))) = some k := by
          have h3 := h
          dsimp only at h3
          rw [if_neg hc] at h3
          exact h3
        rw [List.lookup_cons, hx] at h2
        exact Option.some.inj h2
    | false =>
      have : List.lookup x (r.map fun (p : Str × NameKind) => match p with | (n, k) => if (k == NameKind.free && env.scope.kind == .function && env.kindOf n == some .cell) then (n, NameKind.cell) else (n, k)) = some k := by
        by_cases hc : (q == NameKind.free && env.scope.kind == .function && env.kindOf n == some .cell) = true
        · simpa only [hc, if_true, List.lookup_cons, hx] using h
        · dsimp only at h
          rw [if_neg hc, List.lookup_cons, hx] at h
          exact h
      exact relabel_lookup (sc := sc) this
theorem mem_of_lookup' {names : List (Str × NameKind)} {x : Str} {k : NameKind} (h : names.lookup x = some k) : (x, k) ∈ names := PySem.mem_of_lookup h
theorem cl_sub (ok : X.Ok) {sc : Scope} (hb : okBlk sc X.env.scope = true) {x : Str} {c : Addr} (h : (clOf sc.names X.env.cells).lookup x = some c) : X.env.cells.lookup x = some c := by
  rcases clOf_gen X.env.cells sc.names [] x c h with ⟨h1, h2⟩ | h1
  · obtain ⟨d, hd⟩ := ok.has x (okBlk_free hb h1 rfl)
    rw [hd] at h2 ⊢
    rw [h2]
    rfl
  · simp at h1
theorem cl_has {sc : Scope} {x : Str} {cells : List (Str × Addr)} (h : (x, NameKind.free) ∈ sc.names) : ∃ c, (clOf sc.names cells).lookup x = some c :=
  Option.isSome_iff_exists.mp (clOf_has cells sc.names [] x (.inl h))
theorem Inv.stk_lt (I : Inv X pins σ H s) {b : Addr} (hb : b ∈ frs X.stack) : b < s.heap.objs.size := by
  rcases List.mem_cons.mp (I.stkSub b hb) with e | h
  · rw [e]; exact I.lt
  · obtain ⟨_, o, ho, _⟩ := I.ok.funs.mem h
    exact Nat.lt_of_lt_of_le (Heap.lt_size ho) I.sz
theorem Inv.cell_lt (I : Inv X pins σ H s) {x : Str} {c : Addr} (h : X.env.cells.lookup x = some c) : c < s.heap.objs.size := by
  obtain ⟨v, q⟩ := I.cell x c h
  exact q.lt
theorem Inv.pin_lt (I : Inv X pins σ H s) {p : Addr × Obj} (h : p ∈ X.pn ++ pins) : p.1 < s.heap.objs.size := Heap.lt_size (I.pin p h).1
theorem blk_ok (I : Inv X pins σ H s) {sc : Scope} {own : List Str} {js : List Nat} {fp : List Addr} {C : Nat} (hk : sc.kind = .function) (hb : okBlk sc X.env.scope = true)
    (hfp : ∀ b ∈ fp, FpOk X pins H b) (hC : s.heap.objs.size ≤ C) (hlt : ∀ b ∈ fp, b < s.heap.objs.size) : (blk X sc own js ⟨s, H, fp, C⟩).Ok where
  mod := I.ok.mod
  kind := hk
  glob := I.ok.glob
  blt := I.ok.blt
  above := hC
  inj := fun x y c h1 h2 => I.ok.inj x y c (cl_sub I.ok hb h1) (cl_sub I.ok hb h2)
  has := fun x hx => by
    have hx' : (relabel sc X.env).names.lookup x = some .cell ∨ (relabel sc X.env).names.lookup x = some .free := hx
    have go : ∀ k, (relabel sc X.env).names.lookup x = some k → (k = .cell ∨ k = .free) → ∃ c, (clOf sc.names X.env.cells).lookup x = some c := fun k h hkk => by
      obtain ⟨k', h1, h2⟩ := relabel_lookup (sc := sc) (env := X.env) h
      have m := mem_of_lookup' h1
      rcases h2 with h2 | ⟨h2, _⟩
      · subst h2
        rcases hkk with e | e
        · exact absurd e (okBlk_cell hb m)
        · rw [e] at m; exact cl_has m
      · rw [h2] at m; exact cl_has m
    rcases hx' with h | h
    · exact go _ h (.inl rfl)
    · exact go _ h (.inr rfl)
  cab := fun x c h _ => by cases h
  hd := I.ok.hd
  frames := I.ok.frames
  stk := .inl rfl
  exf := fun b hb' => ⟨Nat.ne_of_lt (Nat.lt_of_lt_of_le (hlt b hb') hC), fun x c e => (hfp b hb').2.2.2.2.1 x c (cl_sub I.ok hb e)⟩
  bs := I.bs
  bsz := Nat.le_trans I.ok.bsz I.sz
  noex := fun b o e hb' => by
    rcases (hfp b hb').2.2.2.1 with z | z
    · exact I.ok.noex b o e z
    · exact absurd (Nat.lt_of_lt_of_le (Heap.lt_size e) (Nat.le_trans I.ok.bsz z)) (Nat.lt_irrefl _)
  exfs := fun b hb' hm => by
    rcases List.mem_cons.mp (I.stkSub b hm) with e | h
    · exact (hfp b hb').2.1 e
    · exact (hfp b hb').2.2.1 h
  funs := I.stack
  frf := I.stkFree
theorem capt_get {n : Nat} {js : List Nat} {i : Nat} {v : V} (h : (capt n js σ)[i]? = some (some v)) : ∃ k j, i = n + k ∧ js[k]? = some j ∧ σ[j]? = some (some v) := by
  unfold capt at h
  by_cases hi : i < n
  · rw [List.getElem?_append_left (by simpa using hi), List.getElem?_replicate] at h
    split at h <;> cases h
  · rw [List.getElem?_append_right (by simpa using Nat.le_of_not_lt hi), List.length_replicate, List.getElem?_map] at h
    cases e : js[i - n]? with
    | none => rw [e] at h; cases h
    | some j =>
      rw [e] at h
      refine ⟨i - n, j, by omega, e, ?_⟩
      have h' : (σ[j]?).join = some v := by simpa using h
      cases q : σ[j]? with
      | none => rw [q] at h'; cases h'
      | some o =>
        rw [q] at h'
        have : o = some v := h'
        rw [this]
theorem blk_inv (I : Inv X pins σ H s) {sc : Scope} {own : List Str} {js : List Nat} {fp : List Addr} {C D : Nat} {h1 : Heap} {tk : Nat} {o : Obj} {m : Str → Option Value} (hk : sc.kind = .function) (hb : okBlk sc X.env.scope = true) (hj : okCap sc X.N js = true)
    (hfp : ∀ b ∈ fp, FpOk X pins H b) (hlt : ∀ b ∈ fp, b < s.heap.objs.size) (hD : D = s.heap.objs.size) (hC : C = s.heap.objs.size + 1) (old : ∀ b o, s.heap.get? b = some o → h1.get? b = some o)
    (hDo : h1.get? D = some o) (hod : ∀ v, o.data ≠ .cell v) (hm : h1.Ns C m) :
    Inv (blk X sc own js ⟨s, H, fp, C⟩) [(D, o)] (capt own.length js σ) H { s with heap := h1, toks := tk } where
  ok := blk_ok I hk hb hfp (show @LE.le Nat _ s.heap.objs.size C by omega) hlt
  os := rfl
  bare := I.bare
  base := Un.kept old
  loc := by
    refine ⟨m, hm, fun i x v e1 e2 e3 => ?_⟩
    obtain ⟨k, j, rfl, ej, es⟩ := capt_get e2
    have e1' : (own ++ js.map fun j => X.N.getD j "")[own.length + k]? = some x := e1
    rw [List.getElem?_append_right (by omega), Nat.add_sub_cancel_left, List.getElem?_map, ej] at e1'
    have ex : X.N.getD j "" = x := by simpa using e1'
    have hjj := List.all_eq_true.mp hj j (List.mem_of_getElem? ej)
    simp only [Bool.and_eq_true, decide_eq_true_eq, beq_iff_eq] at hjj
    have exN : X.N[j]? = some x := by
      rw [← ex, List.getD_eq_getElem?_getD, List.getElem?_eq_getElem hjj.1]
      rfl
    have hfree : sc.names.lookup x = some .free := by rw [← ex]; exact hjj.2
    have hmem := mem_of_lookup' hfree
    have hout := okBlk_free hb hmem rfl
    obtain ⟨m0, hn0, hl0⟩ := I.loc
    obtain ⟨u, r, l⟩ := hl0 j x v exN es (by rcases hout with z | z; exact .inr (.inl z); exact .inr (.inr z))
    refine ⟨u, r, ?_⟩
    obtain ⟨c, hc⟩ := cl_has (cells := X.env.cells) hmem
    have hc' := cl_sub I.ok hb hc
    have hcell : s.heap.IsCell c (some u) := by
      rcases l with ⟨z, _⟩ | ⟨_, c', e', q⟩
      · have z' : X.env.scope.names.lookup x = some .local := z
        rcases hout with w | w <;> (rw [z'] at w; cases w)
      · rw [hc'] at e'; cases e'; exact q
    have hcell1 : h1.IsCell c (some u) := by
      obtain ⟨oc, ho, hd⟩ := hcell
      exact ⟨oc, old c oc ho, hd⟩
    right
    refine ⟨?_, c, hc, hcell1⟩
    have e3' : (relabel sc X.env).names.lookup x = some .local ∨ (relabel sc X.env).names.lookup x = some .cell ∨ (relabel sc X.env).names.lookup x = some .free := e3
    rcases e3' with z | z
    · obtain ⟨k', z1, z2⟩ := relabel_lookup (sc := sc) (env := X.env) z
      rw [hfree] at z1
      rcases z2 with z2 | ⟨_, z2⟩
      · rw [z2] at z1; cases z1
      · cases z2
    · exact z
  cell := fun x c e => by
    obtain ⟨v, oc, ho, hd⟩ := I.cell x c (cl_sub I.ok hb e)
    exact ⟨v, oc, old c oc ho, hd⟩
  free := I.hok.fresh (show @LE.le Nat _ s.heap.objs.size C by omega)
  freeC := fun x c e => I.freeC x c (cl_sub I.ok hb e)
  pin := fun p hp => by
    have e : p = (D, o) := by simpa [blk] using hp
    subst e
    refine ⟨hDo, I.hok.fresh (show @LE.le Nat _ s.heap.objs.size D by omega), ?_, fun z => ?_, hod⟩
    · exact Nat.ne_of_lt (show @LT.lt Nat _ D C by omega)
    · have h9 : @LT.lt Nat _ D s.heap.objs.size := I.stk_lt (b := D) z
      omega
  hok := I.hok.kept old
  len := by
    show (capt own.length js σ).length = (own ++ js.map fun j => X.N.getD j "").length
    simp [capt]
def CompBody (J : It) (n : Nat) (js : List Nat) (g : TG) (tc : TT) (te : TE) (σ : St) (H : Hp) (Q : VK) : Prop :=
  ∃ W : Nat → Nat → List V → Hp → Prop, (∃ m, W 0 m [] H) ∧ ∀ i m ys H', W i m ys H' →
    (J.stop i H' ∧ ∀ p, H' p = none → Q (.ref p) (upd H' p (.lst ys))) ∨
    (J.go i H' ∧ ys.length < sizeLine ∧ ∃ N : List V → Hp → Prop, (∀ ys' H2, N ys' H2 → ∃ m', m' < m ∧ W (i + 1) m' ys' H2) ∧ ∀ x H2, J.yld i H' x H2 → g x (capt n js σ) H2 fun σ2 H3 => tc σ2 H3 fun b H4 =>
      if b = true then te σ2 H4 fun v H5 => N (ys ++ [v]) H5 else N ys H4)
def tComp (n : Nat) (js : List Nat) (wi : TI) (g : TG) (tc : TT) (te : TE) : TE := fun σ H Q => wi σ H fun J H1 => CompBody J n js g tc te σ H1 Q
theorem comp_core {elt tg iter : Expr} {ifs : List Expr} {sc : Scope} {pos : Pos} {own : List Str} {js : List Nat} {g : TG} {tc : TT} {te : TE} {J : It} {it : Addr} {fp : List Addr} {tn : Nat → Heap → Prop} {RR : Value → Addr → Result → Shared → Prop} {E : Value → Shared → Prop}
    {Q : VK} {W : Nat → Nat → List V → Hp → Prop} (hk : sc.kind = .function) (hb : okBlk sc X.env.scope = true) (hj : okCap sc X.N js = true) (hc : X.calm = true)
    (hg : ∀ z, PG (blk X sc own js z) tg g) (ht : ∀ z, PCs (blk X sc own js z) ifs tc) (he : ∀ z, PE (blk X sc own js z) elt te)
    (I : Inv X pins σ H s) (T : Turn X.prog X.w X.K tg J fp it tn) (st : tn 0 s.heap) (hfp : ∀ b ∈ fp, FpOk X pins H b) (w0 : ∃ m, W 0 m [] H)
    (turn : ∀ i m ys H', W i m ys H' → (J.stop i H' ∧ ∀ p, H' p = none → Q (.ref p) (upd H' p (.lst ys))) ∨
      (J.go i H' ∧ ys.length < sizeLine ∧ ∃ N : List V → Hp → Prop, (∀ ys' H2, N ys' H2 → ∃ m', m' < m ∧ W (i + 1) m' ys' H2) ∧ ∀ x H2, J.yld i H' x H2 → g x (capt own.length js σ) H2 fun σ2 H3 => tc σ2 H3 fun b H4 =>
        if b = true then te σ2 H4 fun v H5 => N (ys ++ [v]) H5 else N ys H4))
    (fin : ∀ D C s' ys H', H' D = none → Inv X pins σ (upd H' D (.lst ys)) s' → FpOk X pins (upd H' D (.lst ys)) C → (∃ m, s'.heap.Ns C m) → s.heap.objs.size ≤ C → Q (.ref D) (upd H' D (.lst ys)) → RR (.ref D) C (.ok .next) s') :
    wpAny (model X.prog X.w) X.A (newList []) (fun acc s₃ => wpAny (model X.prog X.w) X.A (newFunctionEnv sc X.env.globals (clOf sc.names X.env.cells) [] X.env.qual none .none (some X.env)) (fun cenv s₄ =>
      codeAny (model X.prog X.w) X.A (.compStart (.ListComp elt [⟨tg, iter, ifs, 0⟩] sc pos) 0 (.ref it) acc { cenv with scope := relabel sc X.env }) (RR acc cenv.locals) s₄) E s₃) E s := by
  have hlt : ∀ b ∈ fp, b < s.heap.objs.size := fun b hb' => by
    obtain ⟨o, e, _⟩ := T.obj 0 s.heap st b hb'
    exact Heap.lt_size e
  refine wpAny_newObj_type (wpAny_newFunctionEnv (fun y hy => okBlk_cell hb hy) (by intro y hy; simp at hy) (fun h₁ hns₁ hsb₁ => ?_) hk)
  dsimp only at hns₁ hsb₁ ⊢
  generalize hH2 : s.heap.push { cls := .type "list", dict := none, data := .seq ([] : List Value).toArray } = H2 at hns₁ hsb₁ ⊢
  have hCs : H2.objs.size = s.heap.objs.size + 1 := by rw [← hH2, Heap.size_push]
  generalize hCe : H2.objs.size = C at *
  have below : ∀ b : Nat, b < s.heap.objs.size → b ≠ C := fun b hb' => by omega
  have old : ∀ b o, s.heap.get? b = some o → h₁.get? b = some o := fun b o e => hsb₁.extBut b o (below b (Heap.lt_size e)) (Heap.get?_push_of_some _ (hH2 ▸ Heap.get?_push_of_some _ e))
  have hDo : h₁.get? s.heap.objs.size = some (listObj [] 0) := hsb₁.extBut _ _ (show @Ne Nat s.heap.objs.size C by omega) (Heap.get?_push_of_some _ (hH2 ▸ Heap.get?_push_size _ rfl))
  generalize hDe : s.heap.objs.size = D at *
  -- the loop's word
  let Y : Cx := blk X sc own js ⟨s, H, fp, C⟩
  have J0 : Inv Y [(D, listObj [] 0)] (capt own.length js σ) H { s with heap := h₁, toks := s.toks + ([] : List (Str × Value)).length } :=
    blk_inv I hk hb hj hfp (by rw [hDe]; exact hlt) hDe.symm (by rw [hDe]; exact hCs) old hDo (fun v z => by cases z) hns₁
  have ndC : @Ne Nat D C := by omega
  have statF : ∀ {P' : List (Addr × Obj)} {H' : Hp}, (∀ b ∈ fp, H' b = none) → (∀ p ∈ P', p.1 ∉ fp) → ∀ b ∈ fp, FpOk Y P' H' b := fun {P' H'} hn hp b hb' => by
    obtain ⟨f0, f1, f2, f3, f4, f5⟩ := hfp b hb'
    refine ⟨hn b hb', fun z => below b (hlt b hb') z, fun z => ?_, .inl hb', fun x c e => f4 x c (cl_sub I.ok hb e), fun p hp' z => ?_⟩
    · rcases List.mem_cons.mp (I.stkSub b z) with e | h
      · exact f1 e
      · exact f2 h
    · have : p ∈ P' := by simpa [Y, blk] using hp'
      exact hp p this (by rw [z]; exact hb')
  have Dfp : D ∉ fp := fun z => by have h9 : @LT.lt Nat _ D D := hlt D z; omega
  have st1 : tn 0 h₁ := T.keep 0 s.heap h₁ st fun b _ o e => old b o e
  have loop : ∀ s₃ : Shared, s₃ = { s with heap := h₁, toks := s.toks + ([] : List (Str × Value)).length } →
      codeAny (model X.prog X.w) X.A (.compLoop (.ListComp elt [⟨tg, iter, ifs, 0⟩] sc pos) 0 (.ref it) (.ref D) Y.env) (RR (.ref D) C) s₃ := by
    rintro s₃ rfl
    obtain ⟨m0, w0⟩ := w0
    refine compLoop_own (fun n s' => ∃ i ys its q H', Inv Y [(D, listObj its q)] (capt own.length js σ) H' s' ∧ Vals ys its ∧ ys.length ≤ sizeLine ∧ tn i s'.heap ∧ (∀ b ∈ fp, H' b = none) ∧ W i n ys H') ?_ m0
      ⟨0, [], [], 0, H, J0, .nil, Nat.zero_le _, st1, fun b hb' => (hfp b hb').1, w0⟩
    rintro n s3 ⟨i, ys, its, q, H3, I3, rv, hz, st3, fr3, w3⟩
    have pD : ∀ p ∈ [(D, listObj its q)], p.1 ∉ fp := fun p hp => by
      have e : p = (D, listObj its q) := by simpa using hp
      rw [e]; exact Dfp
    rcases turn i n ys H3 w3 with ⟨stop, qn⟩ | ⟨go, hlen, N, hN, step⟩
    · -- the end
      refine thn (T.done Y rfl rfl rfl hc i _ s3 _ H3 _ I3 (statF fr3 pD) st3 stop) fun r s4 ⟨hr, I4⟩ => ?_
      subst hr
      show RR (.ref D) C (.ok .next) s4
      have hDp := I4.pin (D, listObj its q) (List.mem_append_right _ (List.mem_singleton.mpr rfl))
      have hD4 : s4.heap.get? D = some (listObj its q) := hDp.1
      have nD : H3 D = none := hDp.2.1
      have U : Un (frs X.stack) fp H H3 s.heap s4.heap := I4.base
      have neD : ∀ b o, s.heap.get? b = some o → b ≠ D := fun b o e => Nat.ne_of_lt (by have h9 : @LT.lt Nat _ b s.heap.objs.size := Heap.lt_size e; omega)
      have neDH : ∀ b o, H b = some o → b ≠ D := fun b o e => Nat.ne_of_lt (by have h9 : @LT.lt Nat _ b s.heap.objs.size := I.hok.lt e; omega)
      have U2 : Un (frs X.stack) fp H (upd H3 D (.lst ys)) s.heap s4.heap :=
        ⟨U.keep, U.slot, fun b o e n hx => by rw [upd_ne (neD b o e)]; exact U.free b o e n hx, U.there, fun b xs e => by rw [upd_ne (neDH b _ e)]; exact U.tups b xs e,
          fun b o u e => by rw [upd_ne (neDH b _ e)]; exact U.frzs b o u e, fun b ps e => by rw [upd_ne (neDH b _ e)]; exact U.tbls b ps e⟩
      have hok2 : HOk X.prog X.w (upd H3 D (.lst ys)) s4.heap := fun b o e => by
        by_cases hb' : b = D
        · subst hb'
          rw [upd_same] at e
          cases e
          exact ⟨hz, its, q, rv, hD4⟩
        · rw [upd_ne hb'] at e
          exact (I4.hok b o e).stay (fun c u _ z => z) (fun c z => by rw [upd_ne (ne_of_none z nD)]; exact z) fun c xs z => by rw [upd_ne (ne_of_none z nD)]; exact z
      have IX : Inv X pins σ (upd H3 D (.lst ys)) s4 := I.call' (ch := fp) I4.os U2 hok2 I4.bare fun b hb' => by
        obtain ⟨f0, f1, f2, f3, f4, f5⟩ := hfp b hb'
        exact ⟨f3, f1, f4, f5⟩
      obtain ⟨m4, hn4, _⟩ := I4.loc
      have nC : H3 C = none := I4.free
      refine fin D C s4 ys H3 nD IX ?_ ⟨m4, hn4⟩ (show @LE.le Nat _ D C by omega) (qn D nD)
      refine ⟨by rw [upd_ne (Ne.symm ndC)]; exact nC, ?_, ?_, ?_, ?_, ?_⟩
      · have h9 : @LT.lt Nat _ X.env.locals s.heap.objs.size := I.lt
        exact Nat.ne_of_gt (show @LT.lt Nat _ X.env.locals C by omega)
      · exact I.nofs (show @LE.le Nat _ s.heap.objs.size C by omega)
      · right
        have h9 : @LE.le Nat _ X.s₀.heap.objs.size s.heap.objs.size := I.sz
        exact (show @LE.le Nat _ X.s₀.heap.objs.size C by omega)
      · intro x c e
        have h9 : @LT.lt Nat _ c s.heap.objs.size := I.cell_lt e
        exact Nat.ne_of_lt (show @LT.lt Nat _ c C by omega)
      · intro p hp
        have h9 : @LT.lt Nat _ p.1 s.heap.objs.size := I.pin_lt hp
        exact Nat.ne_of_lt (show @LT.lt Nat _ p.1 C by omega)
    · -- a turn
      refine thn (T.item Y rfl rfl rfl hc i _ s3 _ H3 _ I3 (statF fr3 pD) st3 go) fun r s4 ⟨u, hr, h4⟩ => ?_
      subst hr
      refine thn h4 fun _ s5 ⟨x, H5, I5, r5, y5, st5, fr5⟩ => ?_
      have I5' := I5.pinned (statF fr5 pD) (T.obj _ _ st5)
      refine thn (hg _ _ s5 _ H5 x u _ I5' r5 (step x H5 y5)) fun _ s6 ⟨σ6, H6, I6, q6⟩ => ?_
      refine thn (ht _ _ s6 σ6 H6 _ I6 q6) fun ok s7 ⟨H7, I7, q7⟩ => ?_
      have back : ∀ {s' : Shared} {σ' : St} {H' : Hp} {ys' : List V} {its' : List Value} {q' : Nat}, Inv Y ([(D, listObj its' q')] ++ pinsAt fp s5.heap) σ' H' s' → Vals ys' its' → ys'.length ≤ sizeLine → N ys' H' →
          ∃ m, m < n ∧ ∃ i ys its q H', Inv Y [(D, listObj its q)] (capt own.length js σ) H' s' ∧ Vals ys its ∧ ys.length ≤ sizeLine ∧ tn i s'.heap ∧ (∀ b ∈ fp, H' b = none) ∧ W i m ys H' := by
        intro s' σ' H' ys' its' q' I' rv' hz' nn
        obtain ⟨m', hm, w'⟩ := hN ys' H' nn
        have hpin : ∀ b ∈ fp, ∀ o, s5.heap.get? b = some o → s'.heap.get? b = some o ∧ H' b = none := fun b hb' o e => by
          have := I'.pin (b, o) (List.mem_append_right _ (List.mem_append_right _ (mem_pinsAt hb' e)))
          exact ⟨this.1, this.2.1⟩
        refine ⟨m', hm, i + 1, ys', its', q', H', ?_, rv', hz', T.keep _ _ _ st5 fun b hb' o e => (hpin b hb' o e).1, fun b hb' => ?_, w'⟩
        · have I'' := I'.unpinned
          obtain ⟨mm, hmm, _⟩ := id I''.loc
          refine ⟨I''.ok, I''.os, I''.bare, I''.base, ⟨mm, hmm, fun k x v e1 e2 e3 => ?_⟩, I''.cell, I''.free, I''.freeC, I''.pin, I''.hok, ?_⟩
          · -- the captured names: their cells are as they were at the block's beginning
            obtain ⟨m1, hn1, hl1⟩ := J0.loc
            obtain ⟨u1, r1, l1⟩ := hl1 k x v e1 e2 e3
            refine ⟨u1, r1, ?_⟩
            rcases l1 with ⟨z, zz⟩ | ⟨z, c, e, zz⟩
            · -- a captured name is no local one
              exfalso
              obtain ⟨k', j, rfl, ej, es⟩ := capt_get e2
              have e1' : (own ++ js.map fun j => X.N.getD j "")[own.length + k']? = some x := e1
              rw [List.getElem?_append_right (by omega), Nat.add_sub_cancel_left, List.getElem?_map, ej] at e1'
              have ex : X.N.getD j "" = x := by simpa using e1'
              have hjj := List.all_eq_true.mp hj j (List.mem_of_getElem? ej)
              simp only [Bool.and_eq_true, decide_eq_true_eq, beq_iff_eq] at hjj
              have hfree : sc.names.lookup x = some .free := by rw [← ex]; exact hjj.2
              obtain ⟨k2, z1, z2⟩ := relabel_lookup (sc := sc) (env := X.env) (show (relabel sc X.env).names.lookup x = some .local from z)
              rw [hfree] at z1
              rcases z2 with z2 | ⟨_, z2⟩
              · rw [z2] at z1; cases z1
              · cases z2
            · refine .inr ⟨z, c, e, ?_⟩
              have hcs : X.env.cells.lookup x = some c := cl_sub I.ok hb e
              obtain ⟨ov, oc, hoc, hdc⟩ := I.cell x c hcs
              have hoc1 := old c oc hoc
              obtain ⟨oz, hoz, hdz⟩ := zz
              have hoz' : h₁.get? c = some oz := hoz
              rw [hoc1] at hoz'
              cases hoz'
              have cnf : c ∉ fp := fun z' => (hfp c z').2.2.2.2.1 x c hcs rfl
              obtain ⟨sl, hh⟩ := I''.base.any hoc (I.freeC x c hcs) cnf
              exact ⟨_, hh, hdz⟩
          · show (capt own.length js σ).length = _
            exact J0.len
        · obtain ⟨o, e, d⟩ := T.obj _ _ st5 b hb'
          exact (hpin b hb' o e).2
      cases ok with
      | false =>
        rw [if_neg Bool.false_ne_true] at q7 ⊢
        exact back I7 rv hz q7
      | true =>
        rw [if_pos rfl] at q7 ⊢
        refine thn (he _ _ s7 σ6 H7 _ I7 q7) fun xv s8 ⟨v, H8, I8, r8, q8⟩ => ?_
        have hDp := I8.pin (D, listObj its q) (List.mem_append_right _ (List.mem_append_left _ (List.mem_singleton.mpr rfl)))
        have hD8 : s8.heap.get? D = some { cls := .type "list", data := .seq its.toArray q } := hDp.1
        have hl := rv.length
        refine call_meets F.slot_list_append ⟨_, hD8, rfl⟩ F.entry_list_append (F.args_list_append_2 _ _) (PySem.list_append D its.toArray q xv (by rw [List.size_toArray]; omega)) ⟨hD8, ?_⟩
        have qq := PySem.IsL.update hD8 (fun a => a.push xv)
        have eqs : its.toArray.push xv = (its ++ [xv]).toArray := by simp
        rw [eqs] at qq
        obtain ⟨q2, hq2⟩ : ∃ q2, (s8.heap.update D (Obj.mapSeq fun a => a.push xv)).get? D = some (listObj (its ++ [xv]) q2) := ⟨_, qq⟩
        -- without the pin of D, the record turns, then it is pinned again
        have I8a : Inv Y (pinsAt fp s5.heap) σ6 H8 s8 := I8.pins_of fun p hp => I8.pin p (List.mem_append_right _ (List.mem_append_right _ hp))
        have nD8 : H8 D = none := hDp.2.1
        have I9 : Inv Y (pinsAt fp s5.heap) σ6 H8 { s8 with heap := s8.heap.update D (Obj.mapSeq fun a => a.push xv), toks := s8.toks } := by
          refine I8a.turned (it := D) (fun b o hb' e => (Heap.get?_update_other s8.heap (Obj.mapSeq fun a => a.push xv) (Ne.symm hb')).trans e) nD8 ndC (.inr (show @LE.le Nat _ s.heap.objs.size D by omega)) (fun x c e => ?_) fun p hp => ?_
          · have h9 : @LT.lt Nat _ c s.heap.objs.size := I.cell_lt (cl_sub I.ok hb e)
            exact Nat.ne_of_lt (show @LT.lt Nat _ c D by omega)
          · have hp' : p ∈ pinsAt fp s5.heap := by simpa [Y, blk] using hp
            obtain ⟨h1, _⟩ := of_pinsAt hp'
            exact fun z => Dfp (z ▸ h1)
        refine back (ys' := ys ++ [v]) (its' := its ++ [xv]) (q' := q2) (I9.pins_of fun p hp => ?_) (rv.append (.cons r8 .nil)) (by rw [List.length_append, List.length_singleton]; omega) q8
        rcases List.mem_append.mp hp with hp | hp
        · have e : p = (D, listObj (its ++ [xv]) q2) := by simpa using hp
          subst e
          refine ⟨hq2, nD8, ndC, fun z => ?_, fun v z => by cases z⟩
          have h9 : @LT.lt Nat _ D s.heap.objs.size := I.stk_lt (b := D) z
          omega
        · exact I9.pin p (List.mem_append_right _ hp)
  exact codeAny_compStart_list (loop _ rfl) (T.self X.A 0 { s with heap := h₁, toks := s.toks + ([] : List (Str × Value)).length } _ _ st1 (loop _ rfl))
theorem pe_comp {elt tg iter : Expr} {ifs : List Expr} {sc : Scope} {pos : Pos} (own : List Str) (js : List Nat) {wi : TI} {g : TG} {tc : TT} {te : TE} (hi : PI X tg iter wi) (hg : ∀ z, PG (blk X sc own js z) tg g) (ht : ∀ z, PCs (blk X sc own js z) ifs tc)
    (he : ∀ z, PE (blk X sc own js z) elt te) (hc : X.calm = true := by rfl) (hk : sc.kind = .function := by rfl) (hb : okBlk sc X.env.scope = true := by rfl) (hj : okCap sc X.N js = true := by rfl)
    (hs : ∀ x, foldedSetIterable iter X.env x = pure x := by intro _; rfl) : PE X (.ListComp elt [⟨tg, iter, ifs, 0⟩] sc pos) (tComp own.length js wi g tc te) := by
  intro pins s σ H Q I h
  rw [eval_ListComp]
  refine wpAny_comprehension_free (use := none) rfl hs (closure_eq fun p hp hf => I.ok.has p.1 (okBlk_free hb hp hf)) hk (fun p hp hl => okBlk_local hb hp hl) (thn (hi pins s σ H _ I h) fun v s1 h1 => thn h1 fun itv s2 h2 => ?_)
  obtain ⟨it, fp, tn, J, H2, e, I2, T, st2, f2, W, w0, turn⟩ := h2
  subst e
  refine comp_core (RR := fun acc C => compPost (model X.prog X.w) X.A X.xe none (EP X pins σ Q) acc C) hk hb hj hc hg ht he I2 T st2 f2 w0 turn ?_
  intro D C s' ys H' nD I' hC ⟨m, hm⟩ _ q
  refine ⟨m, hm, fun h' hs' => ?_⟩
  obtain ⟨f0, f1, f2, f3, f4, f5⟩ := hC
  exact ⟨.ref D, _, I'.turned (t' := s'.toks) (it := C) (fun b o hb' e => (hs'.2 b hb').trans e) f0 f1 f3 f4 f5, rfl, q⟩
theorem ps_setComp {i : Nat} {y : Str} {py : Pos} {elt tg iter : Expr} {ifs : List Expr} {sc : Scope} {pos spos : Pos} (own : List Str) (js : List Nat) {wi : TI} {g : TG} {tc : TT} {te : TE} (hN : X.N.Nodup) (hi' : X.N[i]? = some y) (hx : Loc X.env.scope y)
    (hi : PI X tg iter wi) (hg : ∀ z, PG (blk X sc own js z) tg g) (ht : ∀ z, PCs (blk X sc own js z) ifs tc)
    (he : ∀ z, PE (blk X sc own js z) elt te) (hsw : swapsWith (.ListComp elt [⟨tg, iter, ifs, 0⟩] sc pos) (some (.Name y py)) spos.line X.env = pure true := by rfl) (hc : X.calm = true := by rfl) (hk : sc.kind = .function := by rfl) (hb : okBlk sc X.env.scope = true := by rfl) (hj : okCap sc X.N js = true := by rfl)
    (hs : ∀ x, foldedSetIterable iter X.env x = pure x := by intro _; rfl) (hf : X.fn y = true ∨ X.env.scope.names.lookup y = some .local := by first | exact .inl rfl | exact .inr rfl | assumption) :
    PS X (.Assign [.Name y py] (.ListComp elt [⟨tg, iter, ifs, 0⟩] sc pos) spos) (tAsg (tComp own.length js wi g tc te) (gName i)) := by
  intro pins s σ H D' I h
  rw [exec_Assign_Name_used _ _ _ _ hsw]
  refine wpAny_bind (wpAny_standAt (wpAny_bind ?_))
  show wpAny _ X.A (do let _ ← comprehension (.ListComp elt [⟨tg, iter, ifs, 0⟩] sc pos) sc X.env _ (newList []) false (eval iter X.env) (some (assign (.Name y py) X.env))) _ _ s
  refine wpAny_bind (wpAny_mono (wpAny_comprehension_free (use := some (assign (.Name y py) X.env)) (Q := fun _ s' => SP X pins D' .next s') rfl hs (closure_eq fun p hp hf => I.ok.has p.1 (okBlk_free hb hp hf)) hk (fun p hp hl => okBlk_local hb hp hl)
    (thn (hi pins s σ H _ I h) fun v s1 h1 => thn h1 fun itv s2 h2 => ?_)) (fun _ s' hq => wpAny_pure (wpAny_pure hq)) fun _ _ e => e)
  obtain ⟨it, fp, tn, J, H2, e, I2, T, st2, f2, W, w0, turn⟩ := h2
  subst e
  refine comp_core (Q := fun x H1 => gName i x σ H1 D'.nx) (RR := fun acc C => compPost (model X.prog X.w) X.A X.xe (some (assign (.Name y py) X.env)) (fun _ s' => SP X pins D' .next s') acc C) hk hb hj hc hg ht he I2 T st2 f2 w0 turn ?_
  intro D C s' ys H' nD I' hC ⟨m, hm⟩ hCs q
  show wpAny _ X.A (assign (.Name y py) X.env (.ref D)) _ _ _
  refine wpAny_assign_Name (store_ok2 I' hN hi' hx (v := .ref D) rfl (fun s'' I'' ⟨a, hsb, ha⟩ => ?_) hf)
  obtain ⟨f0, f1, f2, f3, f4, f5⟩ := hC
  have hac : a ≠ C := by
    rcases ha with rfl | ha
    · exact Ne.symm f1
    · exact f4 y a ha
  refine ⟨m, hm.sameBut hsb (Ne.symm hac), fun h' hs' => ?_⟩
  exact ⟨_, _, I''.turned (t' := s''.toks) (it := C) (fun b o hb' e => (hs'.2 b hb').trans e) f0 f1 f3 f4 f5, q⟩
end
theorem comp_list {K : PySem.W.Frag} {a : Addr} {xs : List V} {n : Nat} {js : List Nat} {g : TG} {tc : TT} {te : TE} {Q : VK} {σ : St} {H : Hp} (Pv : Nat → List V → Hp → Prop) (hz : xs.length ≤ sizeLine) (h0 : Pv 0 [] H) (hl : ∀ i ys H, i ≤ xs.length → Pv i ys H → SqL K H a xs ∧ ys.length ≤ i)
    (hs : ∀ i x ys H, xs[i]? = some x → Pv i ys H → g x (capt n js σ) H fun σ2 H3 => tc σ2 H3 fun b H4 => if b = true then te σ2 H4 fun v H5 => Pv (i + 1) (ys ++ [v]) H5 else Pv (i + 1) ys H4)
    (hd : ∀ ys H p, Pv xs.length ys H → H p = none → Q (.ref p) (upd H p (.lst ys))) : CompBody (Itl K a) n js g tc te σ H Q := by
  refine ⟨fun i m ys H => m = xs.length - i ∧ i ≤ xs.length ∧ Pv i ys H, ⟨xs.length, by simp, Nat.zero_le _, h0⟩, ?_⟩
  rintro i m ys H ⟨rfl, hi, p⟩
  have q := hl i ys H hi p
  by_cases hlt : i < xs.length
  · refine .inr ⟨⟨xs, xs[i], q.1, by simp [hlt]⟩, by have := q.2; omega, Pv (i + 1), fun ys' H' p' => ⟨xs.length - (i + 1), by omega, rfl, hlt, p'⟩, fun x H' y => ?_⟩
    obtain ⟨e, y⟩ := y
    subst e
    exact hs i x ys _ (y xs q.1) p
  · have e : i = xs.length := by omega
    subst e
    exact .inl ⟨⟨xs, q.1, Nat.le_refl _⟩, fun p' hp => hd ys H p' p hp⟩
theorem comp_tup {K : PySem.W.Frag} {a : Addr} {xs : List V} {n : Nat} {js : List Nat} {g : TG} {tc : TT} {te : TE} {Q : VK} {σ : St} {H : Hp} (Pv : Nat → List V → Hp → Prop) (hz : xs.length ≤ sizeLine) (h0 : Pv 0 [] H) (hl : ∀ i ys H, i ≤ xs.length → Pv i ys H → SqT K H a xs ∧ ys.length ≤ i)
    (hs : ∀ i x ys H, xs[i]? = some x → Pv i ys H → g x (capt n js σ) H fun σ2 H3 => tc σ2 H3 fun b H4 => if b = true then te σ2 H4 fun v H5 => Pv (i + 1) (ys ++ [v]) H5 else Pv (i + 1) ys H4)
    (hd : ∀ ys H p, Pv xs.length ys H → H p = none → Q (.ref p) (upd H p (.lst ys))) : CompBody (Itt K a) n js g tc te σ H Q := by
  refine ⟨fun i m ys H => m = xs.length - i ∧ i ≤ xs.length ∧ Pv i ys H, ⟨xs.length, by simp, Nat.zero_le _, h0⟩, ?_⟩
  rintro i m ys H ⟨rfl, hi, p⟩
  have q := hl i ys H hi p
  by_cases hlt : i < xs.length
  · refine .inr ⟨⟨xs, xs[i], q.1, by simp [hlt]⟩, by have := q.2; omega, Pv (i + 1), fun ys' H' p' => ⟨xs.length - (i + 1), by omega, rfl, hlt, p'⟩, fun x H' y => ?_⟩
    obtain ⟨e, y⟩ := y
    subst e
    exact hs i x ys _ (y xs q.1) p
  · have e : i = xs.length := by omega
    subst e
    exact .inl ⟨⟨xs, q.1, Nat.le_refl _⟩, fun p' hp => hd ys H p' p hp⟩
end L2
set_option Elab.async false
set_option linter.all false
set_option maxRecDepth 100000
set_option maxHeartbeats 4000000
namespace L2
open PySem PySem.Spec PyProof.Rows
structure Cal (P : Program) (w : World) (K : PySem.W.Frag) (mg : Str → Option Value) (base : Heap) (x : Str) (k : Nat) (ps : List Str) (sp : Sp) : Prop where
  ex : ∃ (f : Addr) (fd : FuncData), mg x = some (.ref f) ∧ PySem.W.keepIn K (.ref f) = true ∧ Binds K fd ps [] ∧ FnOk P w K mg base CX0 k f fd ps sp
structure Dfn (K : PySem.W.Frag) (mg : Str → Option Value) (x : Str) (st : Stmt) (ps : List Str) : Prop where
  ex : ∃ (f : Addr) (fd : FuncData), mg x = some (.ref f) ∧ Fun K x x st f fd ∧ Binds K fd ps []
section
variable {P : Program} {w : World} {K : PySem.W.Frag} {mg : Str → Option Value} {base : Heap}
theorem Dfn.ok {x : Str} {st : Stmt} {N ps : List Str} {k : Nat} {sp : Sp} (D : Dfn K mg x st ps) (S : FnScope N ps (defScope st)) (len : ∀ vs H Q E, sp vs H Q E → vs.length = ps.length)
    (hbody : ∀ (X : Cx) (hX : ∃ f cdv A outer s H E, X = (cxOf CX0 P w K mg base N x (defScope st) f cdv A outer s H E).nox ∧ Room k X.A) (H : Hp) (vs : List V) (Q : VK) (E : XK), sp vs H Q E →
      ∃ t, PSs X (defBody st) t ∧ t { nx := fun _ H' => Q .non H', rt := Q } (start N vs) H) : Cal P w K mg base x (k + 1) ps sp := by
  obtain ⟨f, fd, hm, F, hb⟩ := D.ex
  exact ⟨f, fd, hm, F.kp, hb, F.ok S len fun cdv A outer s H vs Q E hr h => hbody _ ⟨f, cdv, A, outer, s, H, E, rfl, hr⟩ H vs Q E h⟩
end
section
variable {X : Cx}
theorem pe_cal {x : Str} {k j : Nat} {ps : List Str} {sp : Sp} {e : Expr} {es : List Expr} {t : TA} {p pos : Pos} (C : Cal X.prog X.w X.K X.mg X.base x j ps sp) (hr : Room k X.A) (ha : PA X (e :: es) t) (hjk : j ≤ k := by decide) (hg : Gl X x := by rfl) (hdb : (x == ("__debug__" : Str)) = false := by decide)
    (he : starEach (e :: es) X.env = (false, eval e X.env) :: starEach es X.env := by rfl) (hpl : (backTo pos (starEach es X.env)).any (·.1) = false := by rfl) :
    PE X (.Call (.Name x p) (e :: es) [] pos) (tCall sp [] E0 t) := by
  obtain ⟨f, fd, hm, hk, hb, F⟩ := C.ex
  exact pe_call F (hr.mono hjk) hg hm hk hb .nil pass0 ha hdb he hpl
theorem op_fdivL : OpR X (binaryOp .FloorDiv) (rI (fun _ j => 0 < j ∧ j < 2 ^ 64) fun i j => .int (i / j)) := opI fun i j _ _ _ _ _ hc q => by
  have h1 : (0 : Int) < j := hc.1
  have h2 : j < 2 ^ 64 := hc.2
  refine floordiv_int (by omega) (by rw [Int.fdiv_eq_ediv_of_nonneg i (by omega)]; exact q) (.inl (PyProof.noPylong_of_log2 ?_))
  have h0 : j.natAbs ≠ 0 := by omega
  have h64 : j.natAbs < 2 ^ 64 := by omega
  have := (Nat.log2_lt h0).mpr h64
  omega
def kindV (H : Hp) : V → String → Prop
  | .non, n => n = "NoneType"
  | .bl _, n => n = "bool"
  | .int _, n => n = "int"
  | .str _, n => n = "str"
  | .ref a, n => (n = "list" ∧ ∃ xs, H a = some (.lst xs)) ∨ (n = "tuple" ∧ ∃ xs, H a = some (.tup xs))
  | _, _ => False
theorem kindV.ty {K : PySem.W.Frag} {H : Hp} {x : V} {n : String} (h : kindV H x n) : TyOf K H x (.type n) := by
  cases x with
  | non => cases (show n = "NoneType" from h); exact .non
  | bl b => cases (show n = "bool" from h); exact .bl b
  | int i => cases (show n = "int" from h); exact .int i
  | str z => cases (show n = "str" from h); exact .str z
  | ref a =>
    rcases h with ⟨rfl, xs, e⟩ | ⟨rfl, xs, e⟩
    · exact .lst e
    · exact .tup e
  | _ => exact False.elim h
def isiB : String → String → Option Bool
  | "NoneType", "tuple" => some false | "NoneType", "int" => some false | "NoneType", "bool" => some false | "NoneType", "list" => some false | "NoneType", "str" => some false
  | "bool", "tuple" => some false | "bool", "int" => some true | "bool", "bool" => some true | "bool", "list" => some false | "bool", "str" => some false
  | "int", "tuple" => some false | "int", "int" => some true | "int", "bool" => some false | "int", "list" => some false | "int", "str" => some false
  | "str", "tuple" => some false | "str", "int" => some false | "str", "bool" => some false | "str", "list" => some false | "str", "str" => some true
  | "list", "tuple" => some false | "list", "int" => some false | "list", "bool" => some false | "list", "list" => some true | "list", "str" => some false
  | "tuple", "tuple" => some true | "tuple", "int" => some false | "tuple", "bool" => some false | "tuple", "list" => some false | "tuple", "str" => some false
  | _, _ => none
theorem isiB_kit {K : PySem.W.Frag} {n T : String} {b : Bool} (h : isiB n T = some b) : PySem.W.kitOne K (.type n) (.type T) = some b := by
  unfold isiB at h
  split at h <;> first
    | (cases h; kernel_rfl)
    | cases h
def rIsi : List V → Hp → VK → Prop := fun xs H Q => ∃ x n T b, xs = [x, .ty T] ∧ kindV H x n ∧ isiB n T = some b ∧ Q (.bl b) H
theorem call_isi : CallR X (.builtin "isinstance") rIsi := by
  intro pins s σ H xs us Q I r h
  obtain ⟨x, n, T, b, rfl, hk, hb, q⟩ := h
  obtain ⟨u, w', rfl, r1, r2⟩ := vals2 r
  cases (show w' = Value.type T from r2)
  exact isinst_ok I r1 hk.ty (isiB_kit hb) fun tk => ⟨.bl b, H, I.tok tk, rfl, q⟩
theorem op_isB : OpR X (compareOp .Is) (fun x y H Q => ∃ a b, x = .bl a ∧ y = .bl b ∧ Q (.bl (a == b)) H) := by
  intro pins s σ H x y v u Q I rx ry h
  obtain ⟨a, b, rfl, rfl, q⟩ := h
  cases rx; cases ry
  exact wpAny_is_plain rfl (fin_bl I q (by cases a <;> cases b <;> rfl))
theorem op_isNotB : OpR X (compareOp .IsNot) (fun x y H Q => ∃ a b, x = .bl a ∧ y = .bl b ∧ Q (.bl (!(a == b))) H) := by
  intro pins s σ H x y v u Q I rx ry h
  obtain ⟨a, b, rfl, rfl, q⟩ := h
  cases rx; cases ry
  exact wpAny_isNot_plain rfl (fin_bl I q (by cases a <;> cases b <;> rfl))
def rLen (K : PySem.W.Frag) : List V → Hp → VK → Prop := fun xs H Q => ∃ p ys, xs = [.ref p] ∧ (SqL K H p ys ∨ SqT K H p ys) ∧ Q (.int ys.length) H
theorem call_lenN : CallR X (.builtin "len") (rLen X.K) := call_len_seq
def rTupOf (K : PySem.W.Frag) : List V → Hp → VK → Prop := fun xs H Q => ∃ p ys, xs = [.ref p] ∧ ((SqL K H p ys ∧ ∀ l, H l = none → Q (.ref l) (upd H l (.tup ys))) ∨ (SqT K H p ys ∧ Q (.ref p) H))
theorem call_tupN : CallR X (.type "tuple") (rTupOf X.K) := call_tuple_of
def rListOf (K : PySem.W.Frag) : List V → Hp → VK → Prop := fun xs H Q => ∃ p ys, xs = [.ref p] ∧ (SqL K H p ys ∨ SqT K H p ys) ∧ ∀ l, H l = none → Q (.ref l) (upd H l (.lst ys))
theorem call_listN : CallR X (.type "list") (rListOf X.K) := call_list_of
def rMax2 : List V → Hp → VK → Prop := fun xs H Q => ∃ i j, xs = [.int i, .int j] ∧ Q (.int (if j > i then j else i)) H
theorem call_max2N (hc : X.calm = true) : CallR X (.builtin "max") rMax2 := call_max2 hc
def rMin2 : List V → Hp → VK → Prop := fun xs H Q => ∃ i j, xs = [.int i, .int j] ∧ Q (.int (if j < i then j else i)) H
theorem call_min2N (hc : X.calm = true) : CallR X (.builtin "min") rMin2 := call_min2 hc
end
end L2
set_option Elab.async false
set_option linter.all false
set_option maxRecDepth 100000
set_option maxHeartbeats 4000000
namespace L2
open PySem PySem.Spec PyProof.Rows
def Ext (H H' : Hp) : Prop := ∀ b o, H b = some o → H' b = some o
theorem Ext.rfl' (H : Hp) : Ext H H := fun _ _ h => h
theorem Ext.trans {H H1 H2 : Hp} (a : Ext H H1) (b : Ext H1 H2) : Ext H H2 := fun x o h => b x o (a x o h)
theorem Ext.none {H H' : Hp} (e : Ext H H') {l : Addr} (h : H' l = Option.none) : H l = Option.none := by
  cases q : H l with
  | none => rfl
  | some o => rw [e l o q] at h; cases h
section
variable {X : Cx} (K : PySem.W.Frag)
theorem ix_listK (h : X.K = K := by rfl) : IxR X (rIxL K) := by subst h; exact ix_list
theorem ix_tupK (h : X.K = K := by rfl) : IxR X (rIxT K) := by subst h; exact ix_tup
theorem sl_listK (h : X.K = K := by rfl) : SlR X (rSlL K) := by subst h; exact sl_list
theorem op_notInK (h : X.K = K := by rfl) : OpR X (compareOp .NotIn) (rIn K true) := by subst h; exact op_notIn_seq
theorem call_lenK (h : X.K = K := by rfl) : CallR X (.builtin "len") (rLen K) := by subst h; exact call_lenN
theorem call_tupK (h : X.K = K := by rfl) : CallR X (.type "tuple") (rTupOf K) := by subst h; exact call_tupN
theorem call_listK (h : X.K = K := by rfl) : CallR X (.type "list") (rListOf K) := by subst h; exact call_listN
theorem pi_listK {tg l : Expr} {tl : TE} (hl : PE X l tl) (h : X.K = K := by rfl) : PI X tg l (iList K tl) := by subst h; exact pi_list hl
theorem pi_tupK {tg l : Expr} {tl : TE} (hl : PE X l tl) (h : X.K = K := by rfl) : PI X tg l (iTup K tl) := by subst h; exact pi_tup hl
theorem pg_tupK {es : List Expr} {k : Nat} {t : TGs} {n : Nat} {pos : Pos} (hc : X.calm = true) (hg : PGs X es t) (h : X.K = K := by rfl)
    (hn : (assignEach es X.env).length = n := by rfl) (hst : (assignEach es X.env).findIdx? (·.1) = none := by rfl) : PG X (.Tuple es k pos) (gTup K n t) := by subst h; exact pg_tup hc hg hn hst
theorem pe_bmK {o e : Expr} {es : List Expr} {to : TE} {t : TA} {name : Str} {apos cpos : Pos} {T id : String} {r : V → List V → Hp → VK → Prop} (pa : PlainAttrs T) (slot : Slot T name id) (hty : typeOf (.builtin id) = pure (.type "method_descriptor")) (hm : MtR X id r) (ho : PE X o to) (ha : PA X (e :: es) t) (h : X.K = K := by rfl)
    (hbase : attributeBase o name X.env (eval o X.env) = eval o X.env := by rfl)
    (hfew : ((backTo cpos (starEach (e :: es) X.env)).all (fun x => !x.1) && (backToKw cpos (keywordEach [] X.env)).all (fun x => x.1.isSome)
      && decide ((e :: es).length + ([] : List Keyword).length + (if ([] : List Keyword).isEmpty then 0 else 1) < 30)) = true := by rfl)
    (hline : (apos.endLine == cpos.line) = true := by rfl) (hs : starEach (e :: es) X.env = (false, eval e X.env) :: starEach es X.env := by rfl) (hplain : (backTo cpos (starEach es X.env)).any (·.1) = false := by rfl) :
    PE X (.Call (.Attribute o name apos) (e :: es) [] cpos) (tBM K T r to t) := by subst h; exact pe_bm pa slot hty hm ho ha hbase hfew hline hs hplain
end
def tInts (ns : List Int) : TA := fun _ H Q => Q (ns.map V.int) H
inductive IntsE : List Expr → List Int → Prop
  | n : IntsE [] []
  | c {i j pos es ns} : IntsE es ns → IntsE (.Constant (.int i) j pos :: es) (i :: ns)
theorem pa_ints {X : Cx} {es : List Expr} {ns : List Int} (h : IntsE es ns) : PA X es (tInts ns) := by
  induction h with
  | n => exact pa_nil
  | @c i j pos es ns _ ih =>
    intro p pins s σ H Q I hq
    exact pa_cons (e := .Constant (.int i) j pos) pe_int ih rfl p pins s σ H Q I hq
theorem rd_ints {σ : St} {H : Hp} {ns : List Int} {R : List V → Hp → Prop} (h : R (ns.map V.int) H) : tInts ns σ H R := h
def tIfJ (c : TT) (t u : TS) : TS := fun D σ H => ∃ R : St → Hp → Prop, (c σ H fun b H1 => if b = true then t { D with nx := R } σ H1 else u { D with nx := R } σ H1) ∧ ∀ σ' H', R σ' H' → D.nx σ' H'
theorem ps_ifJ {X : Cx} {c : Expr} {a b : List Stmt} {tc : TT} {t u : TS} {pos : Pos} (hc : PT X c tc) (ha : PSs X a t) (hb : PSs X b u) : PS X (.If c a b pos) (tIfJ tc t u) := by
  intro pins s σ H D I h
  obtain ⟨R, h, hR⟩ := h
  refine thn (ps_if hc ha hb pins s σ H { D with nx := R } I h) fun f s1 q => ?_
  cases f with
  | next =>
    obtain ⟨σ', H', I', q⟩ := q
    exact ⟨σ', H', I', hR σ' H' q⟩
  | ret v => exact q
  | brk => exact q
  | cont => exact q
def rItL (K : PySem.W.Frag) : V → Hp → (It → Hp → Prop) → Prop := fun x H R => ∃ a, x = .ref a ∧ (∃ xs, SqL K H a xs) ∧ R (Itl K a) H
def rItT (K : PySem.W.Frag) : V → Hp → (It → Hp → Prop) → Prop := fun x H R => ∃ a, x = .ref a ∧ (∃ xs, SqT K H a xs) ∧ R (Itt K a) H
def rIt1 : List V → Hp → (It → Hp → Prop) → Prop := fun vs H R => ∃ j : Int, vs = [.int j] ∧ -(2 ^ 62) ≤ j ∧ j < 2 ^ 62 ∧ R (Itr 0 j.toNat) H
def ForBody (J : It) (g : TG) (tb : TS) (D : Ends) (σ : St) (H : Hp) : Prop := ∃ W : Nat → Nat → St → Hp → Prop, (∃ m, W 0 m σ H) ∧ ∀ i m σ H, W i m σ H →
  (J.stop i H ∧ D.nx σ H) ∨ (J.go i H ∧ ∃ N : St → Hp → Prop, (∀ σ' H', N σ' H' → ∃ m', m' < m ∧ W (i + 1) m' σ' H') ∧ ∀ x H', J.yld i H x H' → g x σ H' fun σ2 H2 => tb { D with nx := N, ct := N, bk := D.nx } σ2 H2)
theorem forL {K : PySem.W.Frag} {a : Addr} {xs : List V} {g : TG} {tb : TS} {D : Ends} {σ : St} {H : Hp} (Pv : Nat → St → Hp → Prop) (h0 : Pv 0 σ H) (hl : ∀ i σ H, i ≤ xs.length → Pv i σ H → SqL K H a xs)
    (hs : ∀ i x σ H, xs[i]? = some x → Pv i σ H → g x σ H fun σ2 H2 => tb ⟨Pv (i + 1), D.rt, D.nx, Pv (i + 1)⟩ σ2 H2) (hd : ∀ σ H, Pv xs.length σ H → D.nx σ H) : ForBody (Itl K a) g tb D σ H := for_list Pv h0 hl hs hd
theorem forT {K : PySem.W.Frag} {a : Addr} {xs : List V} {g : TG} {tb : TS} {D : Ends} {σ : St} {H : Hp} (Pv : Nat → St → Hp → Prop) (h0 : Pv 0 σ H) (hl : ∀ i σ H, i ≤ xs.length → Pv i σ H → SqT K H a xs)
    (hs : ∀ i x σ H, xs[i]? = some x → Pv i σ H → g x σ H fun σ2 H2 => tb ⟨Pv (i + 1), D.rt, D.nx, Pv (i + 1)⟩ σ2 H2) (hd : ∀ σ H, Pv xs.length σ H → D.nx σ H) : ForBody (Itt K a) g tb D σ H := for_tup Pv h0 hl hs hd
theorem forR {lo : Int} {n : Nat} {g : TG} {tb : TS} {D : Ends} {σ : St} {H : Hp} (Pv : Nat → St → Hp → Prop) (h0 : Pv 0 σ H)
    (hs : ∀ i σ H, i < n → Pv i σ H → g (.int (lo + i)) σ H fun σ2 H2 => tb ⟨Pv (i + 1), D.rt, D.nx, Pv (i + 1)⟩ σ2 H2) (hd : ∀ σ H, Pv n σ H → D.nx σ H) : ForBody (Itr lo n) g tb D σ H := for_range Pv h0 hs hd
def New (H : Hp) (o : HO) (R : VK) : Prop := ∀ p, H p = none → R (.ref p) (upd H p o)
section
variable {K : PySem.W.Frag} {D : Ends} {σ : St} {H : Hp} {Q : VK} {ta tb tc te : TE} {t u : TS} {c c' : TT}
theorem rd_seq (h : t ⟨u D, D.rt, D.bk, D.ct⟩ σ H) : tSeq t u D σ H := h
theorem rd_next (h : D.nx σ H) : tNext D σ H := h
theorem rd_ret (h : te σ H D.rt) : tRet te D σ H := h
theorem rd_asg {g : TG} (h : te σ H fun x H1 => g x σ H1 D.nx) : tAsg te g D σ H := h
theorem rd_drop (h : te σ H fun _ H1 => D.nx σ H1) : tDrop te D σ H := h
theorem rd_ifS (h : c σ H fun b H1 => if b = true then t D σ H1 else u D σ H1) : tIfS c t u D σ H := h
theorem rd_ifJ (R : St → Hp → Prop) (h : c σ H fun b H1 => if b = true then t ⟨R, D.rt, D.bk, D.ct⟩ σ H1 else u ⟨R, D.rt, D.bk, D.ct⟩ σ H1) (k : ∀ σ' H', R σ' H' → D.nx σ' H') : tIfJ c t u D σ H := ⟨R, h, k⟩
theorem rd_ifN (h : c σ H fun b H1 => if b = true then t D σ H1 else u D σ H1) : tIfJ c t u D σ H := ⟨D.nx, h, fun _ _ h => h⟩
theorem rd_name {i : Nat} {v : V} {R : St → Hp → Prop} (h : R (σ.set i (some v)) H) : gName i v σ H R := h
theorem rd_var {i : Nat} {v : V} (e : σ[i]? = some (some v)) (h : Q v H) : tVar i σ H Q := ⟨v, e, h⟩
theorem rd_c {v : V} (h : Q v H) : tC v σ H Q := h
theorem rd_op {r : R2} (h : ta σ H fun x H1 => tb σ H1 fun y H2 => r x y H2 Q) : tOp r ta tb σ H Q := h
theorem rd_un {r : V → Hp → VK → Prop} (h : ta σ H fun x H1 => r x H1 Q) : tUn r ta σ H Q := h
theorem rd_CB {r : List V → Hp → VK → Prop} {a : TA} (h : a σ H fun vs H1 => r vs H1 Q) : tCB r a σ H Q := h
theorem rd_cons {a : TA} {R : List V → Hp → Prop} (h : ta σ H fun x H1 => a σ H1 fun xs H2 => R (x :: xs) H2) : tCons ta a σ H R := h
theorem rd_nil {R : List V → Hp → Prop} (h : R [] H) : tNil σ H R := h
theorem rd_test {R : Bool → Hp → Prop} (h : te σ H fun x H' => ∃ k, x = .bl k ∧ R k H') : tTest te σ H R := h
theorem rd_B {R : Bool → Hp → Prop} (h : te σ H fun x H' => ∃ k, x = .bl k ∧ R k H') : tB te σ H R := h
theorem rd_exb {b : Bool} {R : Bool → Prop} (h : R b) : ∃ k, V.bl b = V.bl k ∧ R k := ⟨b, rfl, h⟩
theorem rd_not {R : Bool → Hp → Prop} (h : c σ H fun b H1 => R (!b) H1) : tNot c σ H R := h
theorem rd_or {R : Bool → Hp → Prop} (h : c σ H fun b H1 => if b = true then R true H1 else c' σ H1 R) : tOr c c' σ H R := h
theorem rd_andV (h : ta σ H fun x H1 => ∃ k, x = .bl k ∧ if k = true then tb σ H1 Q else Q (.bl false) H1) : tAndV ta tb σ H Q := h
theorem rd_notV (h : ta σ H fun x H1 => ∃ k, x = .bl k ∧ Q (.bl (!k)) H1) : tNotV ta σ H Q := h
theorem rd_yes {R : Bool → Hp → Prop} (h : R true H) : tYes σ H R := h
theorem rd_I0 {g : Int → Int → V} {i j : Int} (h : Q (g i j) H) : rI0 g (.int i) (.int j) H Q := ⟨i, j, rfl, rfl, h⟩
theorem rd_I {C : Int → Int → Prop} {g : Int → Int → V} {i j : Int} (hc : C i j) (h : Q (g i j) H) : rI C g (.int i) (.int j) H Q := ⟨i, j, rfl, rfl, hc, h⟩
theorem rd_U {g : Int → V} {i : Int} (h : Q (g i) H) : rU g (.int i) H Q := ⟨i, rfl, h⟩
theorem rd_EqI {i j : Int} (h : Q (.bl (decide (i = j))) H) : rEq (.int i) (.int j) H Q := ⟨rfl, by
  have e : decide (V.int i = V.int j) = decide (i = j) := by rw [Bool.eq_iff_iff]; simp
  rw [e]; exact h⟩
theorem rd_NeI {i j : Int} (h : Q (.bl (!decide (i = j))) H) : rNe (.int i) (.int j) H Q := ⟨rfl, by
  have e : decide (V.int i = V.int j) = decide (i = j) := by rw [Bool.eq_iff_iff]; simp
  rw [e]; exact h⟩
theorem rd_NeB {i j : Bool} (h : Q (.bl (!(i == j))) H) : rNe (.bl i) (.bl j) H Q := ⟨rfl, by rw [dec_bl]; exact h⟩
theorem rd_ixL {p : Addr} {xs : List V} {i : Int} {v : V} (e : SqL K H p xs) (a : atI xs i = some v) (h : Q v H) : rIxL K (.ref p) (.int i) H Q := ⟨p, xs, i, v, rfl, rfl, e, a, h⟩
theorem rd_ixT {p : Addr} {xs : List V} {i : Int} {v : V} (e : SqT K H p xs) (a : atI xs i = some v) (h : Q v H) : rIxT K (.ref p) (.int i) H Q := ⟨p, xs, i, v, rfl, rfl, e, a, h⟩
theorem rd_lenL {p : Addr} {xs : List V} (e : SqL K H p xs) (h : Q (.int xs.length) H) : rLen K [.ref p] H Q := ⟨p, xs, rfl, .inl e, h⟩
theorem rd_lenT {p : Addr} {xs : List V} (e : SqT K H p xs) (h : Q (.int xs.length) H) : rLen K [.ref p] H Q := ⟨p, xs, rfl, .inr e, h⟩
theorem rd_tupL {p : Addr} {xs : List V} (e : SqL K H p xs) (h : New H (.tup xs) Q) : rTupOf K [.ref p] H Q := ⟨p, xs, rfl, .inl ⟨e, h⟩⟩
theorem rd_isi {x : V} {n T : String} {b : Bool} (hk : kindV H x n) (hb : isiB n T = some b) (h : Q (.bl b) H) : rIsi [x, .ty T] H Q := ⟨x, n, T, b, rfl, hk, hb, h⟩
theorem rd_max2 {i j : Int} (h : Q (.int (if j > i then j else i)) H) : rMax2 [.int i, .int j] H Q := ⟨i, j, rfl, h⟩
theorem rd_min2 {i j : Int} (h : Q (.int (if j < i then j else i)) H) : rMin2 [.int i, .int j] H Q := ⟨i, j, rfl, h⟩
theorem rd_call {sp : Sp} {a : TA} {E : XK} (h : a σ H fun vs H1 => sp (vs ++ []) H1 Q E) : tCall sp [] E a σ H Q := h
theorem rd_BM {T : String} {r : V → List V → Hp → VK → Prop} {a : TA} (h : te σ H fun x H1 => tyV K T x H1 ∧ a σ H1 fun xs H2 => r x xs H2 Q) : tBM K T r te a σ H Q := h
theorem rd_tup {a : TA} (h : a σ H fun xs H1 => xs.length ≤ sizeLine ∧ New H1 (.tup xs) Q) : tTup a σ H Q := h
theorem rd_lst {a : TA} (h : a σ H fun xs H1 => xs.length ≤ sizeLine ∧ New H1 (.lst xs) Q) : tLst a σ H Q := h
theorem rd_sl {r : V → Option Int → Option Int → Hp → VK → Prop} {tl th : TO} (h : te σ H fun x H1 => tl σ H1 fun l H2 => th σ H2 fun v H3 => r x l v H3 Q) : tSl r te tl th σ H Q := h
theorem rd_noPart {R : Option Int → Hp → Prop} (h : R none H) : tNoPart σ H R := h
theorem rd_part {R : Option Int → Hp → Prop} (h : te σ H fun x H1 => ∃ i, x = .int i ∧ R (some i) H1) : tPart te σ H R := h
theorem rd_exi {i : Int} {R : Int → Prop} (h : R i) : ∃ k, V.int i = V.int k ∧ R k := ⟨i, rfl, h⟩
theorem rd_chain {r r' : R2} (h : ta σ H fun x H1 => tb σ H1 fun y H2 => r x y H2 fun z H3 => ∃ k, z = .bl k ∧ (if k = true then tc σ H3 fun w' H4 => r' y w' H4 Q else Q (.bl false) H3)) : tChain r r' ta tb tc σ H Q := h
theorem rd_comp {n : Nat} {js : List Nat} {wi : TI} {g : TG} (h : wi σ H fun J H1 => CompBody J n js g c te σ H1 Q) : tComp n js wi g c te σ H Q := h
theorem rd_iL {R : It → Hp → Prop} (h : te σ H fun x H1 => rItL K x H1 R) : iList K te σ H R := h
theorem rd_iT {R : It → Hp → Prop} (h : te σ H fun x H1 => rItT K x H1 R) : iTup K te σ H R := h
theorem rd_iLx {p : Addr} {xs : List V} {R : It → Hp → Prop} (e : SqL K H p xs) (h : R (Itl K p) H) : rItL K (.ref p) H R := ⟨p, rfl, ⟨xs, e⟩, h⟩
theorem rd_iTx {p : Addr} {xs : List V} {R : It → Hp → Prop} (e : SqT K H p xs) (h : R (Itt K p) H) : rItT K (.ref p) H R := ⟨p, rfl, ⟨xs, e⟩, h⟩
theorem rd_i1 {a : TA} {R : It → Hp → Prop} (h : a σ H fun vs H1 => rIt1 vs H1 R) : iRng1 a σ H R := h
theorem rd_i1x {j : Int} {R : It → Hp → Prop} (h1 : -(2 ^ 62) ≤ j ∧ j < 2 ^ 62) (h : R (Itr 0 j.toNat) H) : rIt1 [.int j] H R := ⟨j, rfl, h1.1, h1.2, h⟩
theorem rd_for {wi : TI} {g : TG} (h : wi σ H fun J H1 => ForBody J g t D σ H1) : tFor wi g t D σ H := h
theorem rd_append {l : Addr} {xs : List V} {y : V} (e : H l = some (.lst xs)) (hz : xs.length < sizeLine) (h : Q .non (upd H l (.lst (xs ++ [y])))) : rAppend (.ref l) [y] H Q := ⟨l, xs, y, rfl, rfl, e, hz, h⟩
theorem rd_tyL {p : Addr} {xs : List V} (e : SqL K H p xs) : tyV K "list" (.ref p) H := .inl ⟨rfl, xs, e⟩
theorem rd_gtup {n : Nat} {g : TGs} {a : Addr} {xs : List V} {R : St → Hp → Prop} (e : SqT K H a xs) (hl : xs.length = n) (h : g xs σ H R) : gTup K n g (.ref a) σ H R := ⟨a, xs, rfl, e, hl, h⟩
theorem rd_gcons {g : TG} {gs : TGs} {v : V} {r : List V} {R : St → Hp → Prop} (h : g v σ H fun σ' H' => gs r σ' H' R) : gCons g gs (v :: r) σ H R := ⟨v, r, rfl, h⟩
theorem rd_gnil {R : St → Hp → Prop} (h : R σ H) : gNil [] σ H R := ⟨rfl, h⟩
theorem rd_cat {l b : Addr} {xs zs : List V} (e1 : H l = some (.lst xs)) (e2 : H b = some (.lst zs)) (hz : xs.length + zs.length ≤ sizeLine) (h : New H (.lst (xs ++ zs)) Q) : rCat (.ref l) (.ref b) H Q := ⟨l, b, xs, zs, rfl, rfl, e1, e2, hz, h⟩
theorem rd_rep {l : Addr} {k : Int} {xs : List V} (e : H l = some (.lst xs)) (hk : 0 ≤ k ∧ k < 10 ^ 6) (hz : xs.length * k.toNat ≤ sizeLine) (h : New H (.lst (List.replicate k.toNat xs).flatten) Q) : rRep (.ref l) (.int k) H Q :=
  ⟨l, k, xs, rfl, rfl, e, by omega, by omega, hz, h⟩
theorem rd_slL {a : Addr} {xs : List V} {lo hi : Option Int} (e : SqL K H a xs) (h : New H (.lst (cutV xs lo hi)) Q) : rSlL K (.ref a) lo hi H Q := ⟨a, xs, rfl, e, h⟩
theorem rd_new {o : HO} {R : VK} (h : ∀ p H', Ext H H' → H' p = some o → H p = none → R (.ref p) H') : New H o R := fun p hp =>
  h p _ (fun b u e => by rw [upd_ne (ne_of_none e hp)]; exact e) upd_same hp
theorem ext_upd {p : Addr} {o : HO} (hp : H p = none) : Ext H (upd H p o) := fun b u e => by rw [upd_ne (ne_of_none e hp)]; exact e
theorem SqL.ext {H' : Hp} {p : Addr} {xs : List V} (e : Ext H H') (h : SqL K H p xs) : SqL K H' p xs := by
  rcases h with (h | ⟨o, h⟩) | h
  · exact .inl (.inl (e _ _ h))
  · exact .inl (.inr ⟨o, e _ _ h⟩)
  · exact .inr h
end
theorem atI_of {α : Type} {xs : List α} {i : Int} {v : α} (h0 : 0 ≤ i) (h : xs[i.toNat]? = some v) : atI xs i = some v := by
  have := atI_nat h
  rwa [Int.toNat_of_nonneg h0] at this
end L2
set_option Elab.async false
set_option linter.all false
set_option maxRecDepth 100000
set_option maxHeartbeats 4000000
namespace L2
open PySem PySem.Spec PyProof.Rows
def flatD : V → PyData → Prop
  | .non, .none => True
  | .bl b, .bool c => b = c
  | .int i, .int j => i = j
  | .str x, .str y => x = y ∧ (PyData.str y).canLay0 = true
  | _, _ => False
def RepD (H : Hp) : Nat → V → PyData → Prop
  | 0, x, d => flatD x d
  | n + 1, x, d => flatD x d ∨ ∃ a xs ds, x = .ref a ∧ ((H a = some (.tup xs) ∧ d = .tuple ds) ∨ (H a = some (.lst xs) ∧ d = .list ds)) ∧ Paired (RepD H n) xs ds
section
variable {X : Cx} {pins : List (Addr × Obj)} {σ : St} {H : Hp} {s : Shared}
theorem flatD.reads {x : V} {d : PyData} {u : Value} (h : flatD x d) (r : RelV x u) : ∃ as, Reads s.heap u d as := by
  cases x with
  | non => cases d <;> first | exact False.elim h | (cases r; exact ⟨_, .none⟩)
  | bl b => cases d <;> first | exact False.elim h | (cases (show b = _ from h); cases r; exact ⟨_, .bool _⟩)
  | int i => cases d <;> first | exact False.elim h | (cases (show i = _ from h); obtain ⟨t, rfl⟩ := r; exact ⟨_, .int _ t⟩)
  | str z => cases d <;> first | exact False.elim h | (cases (show z = _ ∧ _ from h).1; obtain ⟨t, rfl⟩ := r; exact ⟨_, .str _ t⟩)
  | _ => cases d <;> exact False.elim h
theorem flatD.lay {x : V} {d : PyData} (h : flatD x d) : d.canLay0 = true ∧ d.depth = 0 := by
  cases x <;> cases d <;> first | exact False.elim h | exact ⟨rfl, rfl⟩ | exact ⟨h.2, rfl⟩
theorem reads_all {R : V → PyData → Prop} (ih : ∀ {x : V} {d : PyData} {u : Value}, R x d → RelV x u → ∃ as, Reads s.heap u d as) : ∀ {xs : List V} {ds : List PyData} {us : List Value}, Paired R xs ds → Vals xs us → ∃ as, ReadsAll s.heap us ds as
  | _, _, _, .nil, .nil => ⟨_, .nil⟩
  | _, _, _, .cons h t, .cons r rt => by
    obtain ⟨as, ha⟩ := ih h r
    obtain ⟨bs, hb⟩ := reads_all ih t rt
    exact ⟨_, .cons ha hb⟩
theorem RepD.reads (I : Inv X pins σ H s) : ∀ (n : Nat) {x : V} {d : PyData} {u : Value}, RepD H n x d → RelV x u → ∃ as, Reads s.heap u d as
  | 0, _, _, _, h, r => flatD.reads h r
  | n + 1, x, d, u, h, r => by
    rcases h with h | ⟨a, xs, ds, rfl, hh, hp⟩
    · exact flatD.reads h r
    · cases r
      rcases hh with ⟨e, rfl⟩ | ⟨e, rfl⟩
      · obtain ⟨its, rv, ⟨o, ho, hc, k, hd⟩, _⟩ := I.tuple (SqT.of e)
        obtain ⟨as, ha⟩ := reads_all (fun {x d u} => RepD.reads I n) hp rv
        exact ⟨_, .tuple ho hc hd (by simpa using ha)⟩
      · obtain ⟨its, k, rv, ho, _⟩ := I.lst e
        obtain ⟨as, ha⟩ := reads_all (fun {x d u} => RepD.reads I n) hp rv
        exact ⟨_, .list ho rfl rfl (by simpa using ha)⟩
theorem lay_all {R : V → PyData → Prop} {m : Nat} (ih : ∀ {x : V} {d : PyData}, R x d → d.canLay0 = true ∧ d.depth ≤ m) : ∀ {xs : List V} {ds : List PyData}, Paired R xs ds → PyData.canLayAll0 ds = true ∧ PyData.depthAll ds ≤ m
  | _, _, .nil => ⟨rfl, Nat.zero_le _⟩
  | _, _, .cons h t => by
    obtain ⟨h1, h2⟩ := ih h
    obtain ⟨h3, h4⟩ := lay_all ih t
    refine ⟨?_, ?_⟩
    · simp only [PyData.canLayAll0, h1, h3, Bool.and_self]
    · simp only [PyData.depthAll]
      exact Nat.max_le.mpr ⟨h2, h4⟩
theorem RepD.lay : ∀ (n : Nat) {x : V} {d : PyData}, RepD H n x d → d.canLay0 = true ∧ d.depth ≤ n
  | 0, _, _, h => ⟨(flatD.lay h).1, Nat.le_of_eq (flatD.lay h).2⟩
  | n + 1, x, d, h => by
    rcases h with h | ⟨a, xs, ds, rfl, hh, hp⟩
    · exact ⟨(flatD.lay h).1, by rw [(flatD.lay h).2]; exact Nat.zero_le _⟩
    · obtain ⟨h1, h2⟩ := lay_all (fun {x d} => RepD.lay n) hp
      rcases hh with ⟨e, rfl⟩ | ⟨e, rfl⟩
      · exact ⟨h1, Nat.succ_le_succ h2⟩
      · exact ⟨h1, Nat.succ_le_succ h2⟩
end
end L2
set_option Elab.async false
set_option linter.all false
set_option maxRecDepth 100000
set_option maxHeartbeats 4000000
namespace L2
open PySem PySem.Spec PyProof.Rows
def rAllL (K : PySem.W.Frag) : List V → Hp → VK → Prop := fun xs H Q => ∃ (p : Addr) (bs : List Bool), xs = [.ref p] ∧ SqL K H p (bs.map V.bl) ∧ Q (.bl (bs.all id)) H
theorem vals_bools : ∀ {bs : List Bool} {us : List Value}, Vals (bs.map V.bl) us → us = bs.map Value.bool
  | [], _, r => by cases r; rfl
  | b :: bs, _, r => by
    cases r with
    | cons r t => cases r; rw [vals_bools t]; rfl
theorem all_range (bs : List Bool) : ((List.range bs.length).all fun i => bs.getD i false) = bs.all id := by
  rw [Bool.eq_iff_iff, List.all_eq_true, List.all_eq_true]
  constructor
  · intro h b hb
    obtain ⟨i, hi, e⟩ := List.mem_iff_getElem.mp hb
    have := h i (List.mem_range.mpr hi)
    rw [List.getD_eq_getElem?_getD, List.getElem?_eq_getElem hi] at this
    rw [← e]
    exact this
  · intro h i hi
    have hi' := List.mem_range.mp hi
    rw [List.getD_eq_getElem?_getD, List.getElem?_eq_getElem hi']
    exact h _ (List.getElem_mem hi')
theorem call_allL {X : Cx} (K : PySem.W.Frag) (hc : X.calm = true) (hK : X.K = K := by rfl) : CallR X (.builtin "all") (rAllL K) := by
  subst hK
  intro pins s σ H xs us Q I r h
  obtain ⟨p, bs, rfl, hq, q⟩ := h
  obtain ⟨u, rfl, rx⟩ := vals1 r
  cases rx
  obtain ⟨its, rv, pl, hz⟩ := I.list hq
  have eb := vals_bools rv
  have hne : p ≠ s.heap.objs.size := Nat.ne_of_lt (by obtain ⟨o, n, e, _⟩ := pl; exact Heap.lt_size e)
  refine call_all_walk (wpAny_pyIter_list pl.isList ?_)
  have I1 : Inv X pins σ H { s with heap := s.heap.push { cls := .type "list_iterator", data := .fields #[.ref p, .int 0 0] } } := I.kept (t' := s.toks) fun b o e => Heap.get?_push_of_some _ e
  have hf := I.fpOk (H' := H) (Nat.le_refl s.heap.objs.size) I.fresh
  refine ⟨s.heap.objs.size, _, _, _, _, _, (fun i => bs.getD i false), rfl, Walks.list (A := X.A.in1) (I.ok.hd hc) _ p hne its.toArray, ⟨⟨_, Heap.get?_push_size _ rfl, rfl, rfl⟩, ?_⟩, ?_, fun h' tk hk => ?_⟩
  · exact pl.isList.push _
  · intro i v s' Q' E' hv hQ
    rw [eb] at hv
    have hv' : (bs.map Value.bool)[i]? = some v := by simpa using hv
    rw [List.getElem?_map] at hv'
    cases eg : bs[i]? with
    | none => rw [eg] at hv'; cases hv'
    | some b =>
      rw [eg] at hv'
      cases hv'
      have eb' : bs.getD i false = b := by rw [List.getD_eq_getElem?_getD, eg]; rfl
      have hQ' : Q' (bs.getD i false) s' := hQ
      rw [eb'] at hQ'
      exact wpAny_truthy_bool hQ'
  · obtain ⟨f0, f1, f2, f3, f4, f5⟩ := hf
    have hl := rv.length
    rw [List.length_map] at hl
    refine ⟨.bl (bs.all id), H, I1.turned (it := s.heap.objs.size) (fun b o hb e => hk b o (by simpa using hb) e) f0 f1 f3 f4 f5, ?_, q⟩
    show Value.bool _ = Value.bool _
    rw [List.size_toArray, ← hl, all_range]
end L2
set_option Elab.async false
set_option linter.all false
set_option maxRecDepth 100000
set_option maxHeartbeats 4000000
namespace L2
open PySem PySem.Spec PyProof.Rows
section
variable {D : Ends} {σ : St} {H : Hp} {Q : VK} {te : TE} {t : TS} {c : TT}
end
section
variable {prog : Program} {w : World} {A : Around} {E : Value → Shared → Prop} {s : Shared}
end
section
variable {X : Cx} {pins : List (Addr × Obj)} {σ : St} {H : Hp} {s : Shared}
end
section
variable {K : PySem.W.Frag} {σ : St} {H : Hp} {Q : VK}
end
theorem tup_whole {prog : Program} {w : World} {A : Around} {E : Value → Shared → Prop} {s : Shared} {t sl : Addr} {ys : Array Value} {vl vu : Value} {lo hi : Option Int} {Q : Value → Shared → Prop} (gt : IsTup s.heap t ys) (gs : s.heap.IsSliceOf sl vl vu .none) (pl : IsPart vl lo) (pu : IsPart vu hi)
    (gw : HT.sIx ys.size 0 lo = 0 ∧ HT.sIx ys.size ys.size hi = ys.size) (q : Q (.ref t) s) : wpAny (model prog w) A (getItem (.ref t) (.ref sl)) Q E s := by
  obtain ⟨u, gu, gc, gd⟩ := id gs
  have gT : s.TypeIs (.ref sl) "slice" := ⟨u, gu, gc⟩
  unfold getItem
  try with_reducible refine wpAny_holding ?_
  first | refine wpAny_bind (wpAny_pure ?_) | skip
  refine wpAny_bind (wpAny_sequenceKey gt.typeIs (by decide) ?_)
  refine wpAny_bind (wpAny_callSpecial?_slot (name := Str.ofString "__getitem__") gt.typeIs PyProof.Rows.slot_tuple_getitem (wpAny_call_entry PyProof.Rows.slot_tuple_getitem gt.typeIs entry_tuple_getitem ?_ (args_tuple_getitem _ _)))
  show wpAny _ _ (Builtin.Tuple.tupleItemsOf (Value.ref t) >>= _) _ _ s
  refine wpAny_bind (tupleItemsOf_ gt ?_)
  refine wpAny_bind (wpAny_typeOf gT ?_)
  rw [if_pos (by decide)]
  refine wpAny_bind (HT.sliceApplied_gen gs pl pu ?_)
  show wpAny _ _ (if (((HT.sIx ys.size 0 lo : Nat) : Int) == 0 && (1 : Int) == 1 && (HT.sIx ys.size ys.size hi - HT.sIx ys.size 0 lo) == ys.size) = true then _ else _) _ _ s
  rw [if_pos (by rw [gw.1, gw.2]; simp)]
  show wpAny _ _ (Builtin.Tuple.tupleIsExact (Value.ref t) >>= _) _ _ s
  unfold Builtin.Tuple.tupleIsExact
  refine wpAny_bind (wpAny_bind (wpAny_typeOf gt.typeIs (wpAny_pure ?_)))
  rw [if_pos (by decide)]
  refine wpAny_bind (wpAny_rule ?_)
  exact wpAny_pure ⟨_, rfl, wpAny_pure q⟩
def rSlT1 : V → Option Int → Option Int → Hp → VK → Prop := fun x lo hi H Q => ∃ a xs, x = .ref a ∧ H a = some (.tup xs) ∧ ∀ p H', Ext H H' → H' p = some (.tup (cutV xs lo hi)) → Q (.ref p) H'
theorem sl_tup1 {X : Cx} : SlR X rSlT1 := by
  intro pins s σ H x v vl vu lo hi sl Q I rx hs pl pu h
  obtain ⟨a, xs, rfl, hx, q⟩ := h
  by_cases gw : HT.sIx xs.length 0 lo = 0 ∧ HT.sIx xs.length xs.length hi = xs.length
  · cases rx
    obtain ⟨its, r, ht, hz⟩ := I.tuple (SqT.of hx)
    have hlen : its.toArray.size = xs.length := by rw [List.size_toArray]; exact r.length.symm
    refine ⟨"tuple", _, PyProof.Rows.slot_tuple_getitem.lookup, ht.typeIs, ?_⟩
    refine tup_whole ht hs pl pu (by rw [hlen]; exact gw) ⟨.ref a, H, I, rfl, q a H (Ext.rfl' H) ?_⟩
    have : cutV xs lo hi = xs := by
      unfold cutV
      rw [gw.1, gw.2, List.drop_zero, Nat.sub_zero, List.take_length]
    rw [this]
    exact hx
  · exact sl_tup pins s σ H (.ref a) v vl vu lo hi sl Q I rx hs pl pu ⟨a, xs, rfl, SqT.of hx, gw, fun p hp => q p _ (ext_upd hp) upd_same⟩
theorem rd_slT1 {H : Hp} {Q : VK} {a : Addr} {xs : List V} {lo hi : Option Int} (e : H a = some (.tup xs)) (h : ∀ p H', Ext H H' → H' p = some (.tup (cutV xs lo hi)) → Q (.ref p) H') : rSlT1 (.ref a) lo hi H Q := ⟨a, xs, rfl, e, h⟩
def rCatT1 : R2 := fun x y H Q => ∃ a b xs ys, x = .ref a ∧ y = .ref b ∧ H a = some (.tup xs) ∧ H b = some (.tup ys) ∧ xs.length + ys.length ≤ sizeLine ∧ ∀ p H', Ext H H' → H' p = some (.tup (xs ++ ys)) → Q (.ref p) H'
theorem op_catT1 {X : Cx} : OpR X (binaryOp .Add) rCatT1 := by
  intro pins s σ H x y v u Q I rx ry h
  obtain ⟨a, b, xs, ys, rfl, rfl, ha, hb, hz, q⟩ := h
  cases rx
  cases ry
  by_cases hx : xs = []
  · subst hx
    obtain ⟨its, r1, p1, _⟩ := I.tuple (SqT.of ha)
    obtain ⟨its2, r2, p2, _⟩ := I.tuple (SqT.of hb)
    have e := r1.nil_iff.mpr rfl
    subst e
    obtain ⟨⟨cls, dd, data, sl⟩, ho, hc, n, hd⟩ := id p1
    obtain ⟨⟨cls2, dd2, data2, sl2⟩, ho2, hc2, n2, hd2⟩ := id p2
    simp only at hc hd hc2 hd2
    subst hc hd hc2 hd2
    refine concat_meets ⟨_, ho, rfl⟩ ⟨_, ho2, rfl⟩ noFill_tuple_add seq_tuple_add PySem.F.slot_tuple_add PySem.F.entry_tuple_add (PySem.F.args_tuple_add_2 _ _)
      (tuple_addW0 a b _ _ n n2 dd dd2 sl sl2 (by simp)) ⟨ho, ho2, ⟨.ref b, H, I, rfl, q b H (fun _ _ h => h) (by simpa using hb)⟩⟩
  · refine op_catT pins s σ H (.ref a) (.ref b) _ _ Q I rfl rfl ⟨a, b, xs, ys, rfl, rfl, SqT.of ha, SqT.of hb, hx, hz, fun hy => ?_, fun hy p hp => ?_⟩
    · subst hy
      exact q a H (fun _ _ h => h) (by simpa using ha)
    · exact q p _ (ext_upd hp) upd_same
theorem rd_catT1 {H : Hp} {Q : VK} {a b : Addr} {xs ys : List V} (ha : H a = some (.tup xs)) (hb : H b = some (.tup ys)) (hz : xs.length + ys.length ≤ sizeLine) (h : ∀ p H', Ext H H' → H' p = some (.tup (xs ++ ys)) → Q (.ref p) H') : rCatT1 (.ref a) (.ref b) H Q := ⟨a, b, xs, ys, rfl, rfl, ha, hb, hz, h⟩
theorem rd_listT {K : PySem.W.Frag} {H : Hp} {Q : VK} {p : Addr} {ys : List V} (e : SqT K H p ys) (h : New H (.lst ys) Q) : rListOf K [.ref p] H Q := ⟨p, ys, rfl, .inr e, h⟩
end L2
set_option Elab.async false
set_option linter.all false
set_option maxRecDepth 100000
set_option maxHeartbeats 4000000
namespace L2
open PySem PySem.Spec PyProof.Rows
mutual
inductive LitE : Expr → TE → Prop
  | non {j pos} : LitE (.Constant .none j pos) (tC .non)
  | bl {b j pos} : LitE (.Constant (.bool b) j pos) (tC (.bl b))
  | int {i j pos} : LitE (.Constant (.int i) j pos) (tC (.int i))
  | str {x j pos} : LitE (.Constant (.str x) j pos) (tC (.str x))
  | tup {es ta k pos} : LitsE es ta → LitE (.Tuple es k pos) (tTup ta)
inductive LitsE : List Expr → TA → Prop
  | nil : LitsE [] tNil
  | cons {e te es ta} : LitE e te → LitsE es ta → LitsE (e :: es) (tCons te ta)
end
theorem LitE.star {e : Expr} {te : TE} (h : LitE e te) (es : List Expr) (env : Env) : starEach (e :: es) env = (false, eval e env) :: starEach es env := by
  cases h <;> rfl
end L2
set_option Elab.async false
set_option linter.all false
set_option maxRecDepth 100000
set_option maxHeartbeats 4000000
namespace L2
open PySem PySem.Spec PyProof.Rows
section
variable {X : Cx} {pins : List (Addr × Obj)} {σ : St} {H : Hp} {s : Shared}
end
section
variable {X : Cx} {pins : List (Addr × Obj)} {σ : St} {H : Hp} {s : Shared}
end
end L2
set_option Elab.async false
set_option linter.all false
set_option maxRecDepth 100000
set_option maxHeartbeats 4000000
namespace L2
open PySem PySem.Spec PyProof.Rows
section
variable {P : Program} {w : World} {K : PySem.W.Frag} {mg : Str → Option Value} {base : Heap}
end
end L2
set_option Elab.async false
set_option linter.all false
set_option maxRecDepth 100000
set_option maxHeartbeats 4000000
namespace L2
open PySem PySem.Spec PyProof.Rows
section
variable {prog : Program} {w : World} {A : Around} {E : Value → Shared → Prop}
theorem draw_lst {it l : Addr} {ys : Array Value} (ne : l ≠ it) : ∀ (n i : Nat) (s : Shared) (Q : List Value → Shared → Prop), s.heap.IsListIter it l i → s.heap.IsList l ys → i + n ≤ ys.size →
    (∀ h', h'.IsListIter it l (i + n) → Heap.SameBut it s.heap h' → Q ((ys.toList.drop i).take n) { s with heap := h' }) → wpAny (model prog w) A (draw (.ref it) n) Q E s
  | 0, i, s, Q, gi, _, _, q => by
    show wpAny _ _ (pure []) Q E s
    exact wpAny_pure (by simpa using q s.heap gi (Heap.SameBut.refl ..))
  | n + 1, i, s, Q, gi, gl, le, q => by
    have lt : i < ys.size := by omega
    show wpAny _ _ (pyNext (Value.ref it) >>= _) Q E s
    refine wpAny_bind (wpAny_pyNext_list_item gi gl (x := ys[i]) (by simp [lt]) fun k1 g1 b1 => ?_)
    refine wpAny_bind (wpAny_holding (draw_lst ne n (i + 1) _ _ g1 (gl.extBut b1.extBut ne) (by omega) fun k2 g2 b2 => wpAny_pure ?_))
    have e : ys.toList.drop i = ys[i] :: ys.toList.drop (i + 1) := by simp [List.drop_eq_getElem_cons, lt]
    have := q k2 (by rw [show i + (n + 1) = i + 1 + n by omega]; exact g2) (b1.trans b2)
    rw [e, List.take_succ_cons] at this
    exact this
theorem unpack_lst {s : Shared} {l : Addr} {ys : Array Value} {Q : List Value → Shared → Prop} (hA : A.handled = none) (gl : s.heap.IsList l ys)
    (q : ∀ h', Heap.ExtBut s.heap.objs.size s.heap h' → Q ys.toList { s with heap := h' }) : wpAny (model prog w) A (unpackItems (.ref l) ys.size none) Q E s := by
  have lt : l ≠ s.heap.objs.size := by obtain ⟨o, e, _⟩ := gl; exact Nat.ne_of_lt (Heap.lt_size e)
  unfold unpackItems
  refine wpAny_bind ?_
  unfold notIterableAtAll
  refine wpAny_bind (wpAny_specialOf gl.typeIs slot_list_iter.lookup ?_)
  refine wpAny_pure ?_
  simp only [Bool.false_eq_true, if_false]
  refine wpAny_bind (wpAny_holding (wpAny_pyIter_list gl ?_))
  refine wpAny_bind (wpAny_holding (draw_lst lt ys.size 0 _ _ ⟨_, Heap.get?_push_size _ rfl, rfl, rfl⟩ (gl.push _) (by omega) fun k1 g1 b1 => ?_))
  rw [show List.take ys.size (List.drop 0 ys.toList) = ys.toList by rw [List.drop_zero]; exact List.take_of_length_le (by simp), if_neg (by simp)]
  refine wpAny_bind (wpAny_holding (wpAny_pyNext_list_end hA g1 ((gl.push _).extBut b1.extBut lt) (by simp) fun k2 b2 => ?_))
  simp only [Option.isSome_none, Bool.false_eq_true, if_false]
  exact wpAny_pure (q k2 fun b o nb e => b2 b o nb (b1.extBut b o nb (Heap.get?_push_of_some _ e)))
theorem assign_lst {s : Shared} {env : Env} {es : List Expr} {k : Nat} {pos : Pos} {l : Addr} {ys : Array Value} {Q : Unit → Shared → Prop} (hA : A.handled = none) (gl : s.heap.IsList l ys) (hn : (assignEach es env).length = ys.size) (hst : (assignEach es env).findIdx? (·.1) = none)
    (h : ∀ h', Heap.ExtBut s.heap.objs.size s.heap h' → wpAny (model prog w) A (assignInOrder ((assignEach es env).map (·.2)) ys.toList) Q E { s with heap := h' }) : wpAny (model prog w) A (assign (.Tuple es k pos) env (.ref l)) Q E s := by
  rw [arm_assign_Tuple]
  refine wpAny_bind (wpAny_standAt ?_)
  unfold unpack
  rw [hn, hst]
  exact wpAny_bind (wpAny_holding (unpack_lst hA gl h))
end
section
variable {X : Cx} {pos : Pos}
def gLst (K : PySem.W.Frag) (n : Nat) (t : TGs) : TG := fun v σ H Q => ∃ a xs, v = .ref a ∧ SqL K H a xs ∧ xs.length = n ∧ t xs σ H Q
theorem pg_lstK {es : List Expr} {k : Nat} {t : TGs} {n : Nat} (K : PySem.W.Frag) (hc : X.calm = true) (h : PGs X es t) (hK : X.K = K := by rfl)
    (hn : (assignEach es X.env).length = n := by rfl) (hst : (assignEach es X.env).findIdx? (·.1) = none := by rfl) : PG X (.Tuple es k pos) (gLst K n t) := by
  subst hK
  intro pins s σ H v u Q I r hw
  obtain ⟨a, xs, e1, hq, hl, hw⟩ := hw
  subst e1
  cases r
  obtain ⟨its, rv, ht, hz⟩ := I.list hq
  refine assign_lst (I.ok.hd hc) ht.isList (by simp [hn, ← hl, rv.length]) hst fun h' hx => ?_
  have I1 : Inv X pins σ H { s with heap := h' } := I.kept (t' := s.toks) fun b o e => hx b o (Nat.ne_of_lt (Heap.lt_size e)) e
  exact h pins _ σ H xs _ Q I1 (by simpa using rv) hw
end
theorem rd_glst {K : PySem.W.Frag} {σ : St} {H : Hp} {n : Nat} {g : TGs} {a : Addr} {xs : List V} {R : St → Hp → Prop} (e : SqL K H a xs) (hl : xs.length = n) (h : g xs σ H R) : gLst K n g (.ref a) σ H R := ⟨a, xs, rfl, e, hl, h⟩
theorem rd_par {i j : Nat} {ta : TA} {D : Ends} {σ : St} {H : Hp} (h : ta σ H fun vs H1 => ∃ v w, vs = [v, w] ∧ D.nx ((σ.set i (some v)).set j (some w)) H1) : tPar i j ta D σ H := h
theorem rd_par2 {v w : V} {R : V → V → Prop} (h : R v w) : ∃ a b, [v, w] = [a, b] ∧ R a b := ⟨v, w, rfl, h⟩
end L2
set_option Elab.async false
set_option linter.all false
set_option maxRecDepth 100000
set_option maxHeartbeats 4000000
namespace L2
open PySem PySem.Spec PyProof.Rows
section
variable {κ : Type} [DecidableEq κ]
def valV (kvs : List (κ × V)) (k : κ) : Option V := (kvs.find? fun kv => decide (kv.1 = k)).map (·.2)
theorem valV_nil {k : κ} : valV ([] : List (κ × V)) k = none := rfl
theorem valV_pos {p : κ × V} {r : List (κ × V)} {k : κ} (e : p.1 = k) : valV (p :: r) k = some p.2 := by simp [valV, List.find?_cons, e]
theorem valV_neg {p : κ × V} {r : List (κ × V)} {k : κ} (e : ¬ p.1 = k) : valV (p :: r) k = valV r k := by simp [valV, List.find?_cons, e]
theorem RelO.isSome_eq {o : Option V} {u : Option Value} (r : RelO o u) : o.isSome = u.isSome := by
  cases o with
  | none => cases u with
    | none => rfl
    | some _ => exact (show False from r).elim
  | some _ => cases u with
    | none => exact (show False from r).elim
    | some _ => rfl
theorem KV.val {kvs : List (κ × V)} {vs : List (κ × Value)} (r : KV kvs vs) (k : κ) : RelO (valV kvs k) (valueAt vs k) := by
  unfold KV at r
  induction r with
  | nil => exact True.intro
  | @cons p q ps qs h t ih =>
    obtain ⟨h1, h2⟩ := h
    by_cases e : p.1 = k
    · have e' : q.1 = k := h1.symm.trans e
      have b : valueAt (q :: qs) k = some q.2 := by simp [valueAt, List.find?_cons, e']
      rw [valV_pos e, b]; exact h2
    · have e' : ¬ q.1 = k := fun z => e (h1.trans z)
      have b : valueAt (q :: qs) k = valueAt qs k := by simp [valueAt, List.find?_cons, e']
      rw [valV_neg e, b]; exact ih
theorem KV.keys {kvs : List (κ × V)} {vs : List (κ × Value)} (r : KV kvs vs) : kvs.map (·.1) = vs.map (·.1) := by
  unfold KV at r
  induction r with
  | nil => rfl
  | cons h t ih => rw [List.map_cons, List.map_cons, ih, h.1]
end
theorem kV_is {P : Program} {w : World} {k : Key} {u : Value} (r : RelV (kV k) u) : (mixKind P w).is k u = true := by
  cases k with
  | inl i => obtain ⟨t, e⟩ := (show ∃ t, u = Value.int i t from r); subst e; exact mixKind_int P w i t
  | inr x => obtain ⟨t, e⟩ := (show ∃ t, u = Value.str x t from r); subst e; exact mixKind_str P w x t
theorem items_are {P : Program} {w : World} : ∀ {ks : List Key} {us : List Value}, Vals (ks.map kV) us → ItemsAre (mixKind P w) ks us
  | [], _, r => by rw [List.map_nil] at r; cases r; exact .nil
  | k :: ks, _, r => by
    rw [List.map_cons] at r
    cases r with
    | cons h t => exact .cons (kV_is h) (items_are t)
section
variable {P : Program} {w : World} {H : Hp} {h : Heap} {a : Addr}
end
section
variable {X : Cx} {pins : List (Addr × Obj)} {σ : St} {H : Hp} {s : Shared} {a : Addr} {y v : V} {u r : Value} {o : Option V} {A : Around} {E : Value → Shared → Prop}
end
section
variable {X : Cx} {pins : List (Addr × Obj)} {σ : St} {H : Hp} {s : Shared} {a : Addr} {kvs : List (Key × V)} {k : Key} {u : Value} {A : Around} {E : Value → Shared → Prop}
end
section
variable {X : Cx} {o i e value : Expr} {pos pos' tpos : Pos} {td ty tv : TE}
end
section
variable {X : Cx} {pos : Pos}
end
section
variable {X : Cx} {pins : List (Addr × Obj)} {σ : St} {H : Hp} {s : Shared} {a : Addr} {y d : V} {u r : Value} {o : Option V} {A : Around} {E : Value → Shared → Prop}
end
section
variable {X : Cx} {o e f : Expr} {apos cpos : Pos} {td ty tx : TE}
end
section
variable {X : Cx} {pins : List (Addr × Obj)} {σ : St} {H : Hp} {s : Shared} {a : Addr} {kvs : List (Key × V)} {A : Around} {E : Value → Shared → Prop}
end
section
variable {X : Cx} {pins : List (Addr × Obj)} {σ : St} {H : Hp} {s : Shared} {a : Addr} {y : V} {u : Value} {A : Around} {E : Value → Shared → Prop}
end
end L2
namespace L2
open PySem PySem.Spec PyProof.Rows
section
variable {X : Cx}
end
section
variable {κ : Type} [DecidableEq κ]
end
end L2
set_option Elab.async false
set_option linter.all false
set_option maxRecDepth 100000
set_option maxHeartbeats 4000000
namespace L2
open PySem PySem.Spec PyProof.Rows
section
variable {P : Program} {w : World} {K : PySem.W.Frag} {mg : Str → Option Value} {base : Heap} {N : List Str} {qual : Str} {scope : Scope} {f : Addr} {cd : Value} {A : Around} {outer : List Env} {s₀ : Shared} {H₀ : Hp} {E : XK}
end
end L2
set_option Elab.async false
set_option linter.all false
set_option maxRecDepth 100000
set_option maxHeartbeats 4000000
namespace L2
open PySem PySem.Spec PyProof.Rows
section
variable {prog : Program} {w : World} {A : Around} {E : Value → Shared → Prop} {K : PySem.W.Frag} {x D : Addr} {ox : Obj} {s : Shared}
end
section
variable {X : Cx} {pins : List (Addr × Obj)} {σ : St} {H : Hp} {s : Shared} {x : Addr} {oe : Obj}
end
section
variable {P : Program} {w : World} {K : PySem.W.Frag} {mg : Str → Option Value} {base : Heap} {N : List Str} {qual : Str} {scope : Scope} {f : Addr} {cd : Value} {A : Around} {outer : List Env} {s₀ : Shared} {H₀ : Hp} {E : XK}
end
section
end
section
variable {P : Program} {w : World} {K : PySem.W.Frag} {mg : Str → Option Value} {base : Heap} {N : List Str} {qual : Str} {scope : Scope} {f : Addr} {cd : Value} {A : Around} {outer : List Env} {s₀ : Shared} {H₀ : Hp} {E : XK}
end
section
variable {K : PySem.W.Frag} {D : Ends} {σ : St} {H : Hp} {Q : VK} {E : XK} {C x : Addr}
end
section
variable {K : PySem.W.Frag} {D : Ends} {σ : St} {H : Hp} {E : St → XK} {C : Addr} {i : Nat} {t u tb : Ends → (St → XK) → St → Hp → Prop} {ts : Addr → Addr → TS} {c : TT}
end
end L2
set_option linter.all false
set_option maxRecDepth 100000
namespace Tb
open PySem
def nx (m i : Nat) : Nat := (i * 5 + 1) % (m + 1)
def it (m : Nat) : Nat → Nat → Nat
  | 0, i => i
  | n + 1, i => it m n (nx m i)
theorem it_add (m : Nat) : ∀ a b i, it m (a + b) i = it m b (it m a i)
  | 0, b, i => by rw [Nat.zero_add]; rfl
  | a + 1, b, i => by rw [Nat.succ_add]; exact it_add m a b (nx m i)
theorem it_succ' (m n i : Nat) : it m (n + 1) i = nx m (it m n i) := by rw [it_add m n 1 i]; rfl
def orb (m : Nat) : Nat → Nat → List Nat
  | 0, _ => []
  | n + 1, i => i :: orb m n (nx m i)
theorem orb_mem {m : Nat} : ∀ {n i j : Nat}, j ∈ orb m n i → ∃ k, k < n ∧ it m k i = j
  | 0, _, _, h => by cases h
  | n + 1, i, j, h => by
    rcases List.mem_cons.mp h with rfl | h
    · exact ⟨0, Nat.succ_pos _, rfl⟩
    · obtain ⟨k, hk, e⟩ := orb_mem h
      exact ⟨k + 1, Nat.succ_lt_succ hk, e⟩
def good (m : Nat) : Bool := (List.range (m + 1)).all (fun j => (orb m (m + 1) 0).contains j) && it m (m + 1) 0 == 0
theorem good7 : good 7 = true := by decide +kernel
theorem good31 : good 31 = true := by decide +kernel
theorem good127 : good 127 = true := by decide +kernel
theorem good511 : good 511 = true := by decide +kernel
def Full (N : Nat) : Prop := (∀ j, j < N → ∃ k, k < N ∧ it (N - 1) k 0 = j) ∧ it (N - 1) N 0 = 0
theorem full_of {m : Nat} (h : good m = true) : Full (m + 1) := by
  unfold Tb.good at h
  rw [Bool.and_eq_true, List.all_eq_true] at h
  refine ⟨fun j hj => ?_, eq_of_beq h.2⟩
  have h1 := h.1 j (List.mem_range.mpr hj)
  rw [List.contains_iff_mem] at h1
  exact orb_mem h1
def co : Nat → Nat
  | 0 => 0
  | n + 1 => 5 * co n + 1
theorem it_closed (m : Nat) : ∀ n i, it m n i % (m + 1) = (5 ^ n * i + co n) % (m + 1)
  | 0, i => by simp [it, co]
  | n + 1, i => by
    rw [it_succ']
    unfold nx
    rw [Nat.mod_mod, Nat.add_mod, Nat.mul_mod, it_closed m n i, ← Nat.mul_mod, ← Nat.add_mod]
    congr 1
    show (5 ^ n * i + co n) * 5 + 1 = 5 ^ (n + 1) * i + (5 * co n + 1)
    rw [Nat.pow_succ, Nat.add_mul]
    have : 5 ^ n * i * 5 = 5 ^ n * 5 * i := by rw [Nat.mul_assoc, Nat.mul_comm i 5, Nat.mul_assoc]
    omega
theorem it_lt (m : Nat) : ∀ n i, i ≤ m → it m n i ≤ m
  | 0, i, h => h
  | n + 1, i, h => by
    refine it_lt m n _ ?_
    unfold nx
    have := Nat.mod_lt (i * 5 + 1) (show 0 < m + 1 by omega)
    omega
theorem it_val {m n i : Nat} (h : i ≤ m) : it m n i = (5 ^ n * i + co n) % (m + 1) := by
  rw [← it_closed, Nat.mod_eq_of_lt (Nat.lt_succ_of_le (it_lt m n i h))]
theorem odd5 (n : Nat) : 5 ^ n % 2 = 1 := by
  induction n with
  | zero => rfl
  | succ n ih => rw [Nat.pow_succ, Nat.mul_mod, ih]
theorem co_val : ∀ n, 4 * co n + 1 = 5 ^ n
  | 0 => rfl
  | n + 1 => by
    have := co_val n
    show 4 * (5 * co n + 1) + 1 = 5 ^ (n + 1)
    rw [Nat.pow_succ]
    omega
theorem half_mul {a N : Nat} (h : a % 2 = 1) (r : Nat) : (a * N + r) % (2 * N) = (N + r) % (2 * N) := by
  obtain ⟨c, rfl⟩ : ∃ c, a = 2 * c + 1 := ⟨a / 2, by omega⟩
  have : (2 * c + 1) * N + r = (N + r) + 2 * N * c := by
    rw [Nat.add_mul, Nat.one_mul, Nat.mul_assoc, Nat.mul_comm c N, ← Nat.mul_assoc]
    omega
  rw [this, Nat.add_mul_mod_self_left]
theorem two {x N : Nat} (h : x < 2 * N) (hN : 0 < N) : x = x % N ∨ x = N + x % N := by
  rcases Nat.lt_or_ge x N with a | a
  · exact .inl (Nat.mod_eq_of_lt a).symm
  · refine .inr ?_
    rw [Nat.mod_eq_sub_mod a, Nat.mod_eq_of_lt (by omega)]
    omega
theorem Full.double {N : Nat} (hN : 0 < N) (h : Full N) (hc : co N % (2 * N) = N) : Full (2 * N) := by
  obtain ⟨h1, h2⟩ := h
  have hm : 2 * N - 1 + 1 = 2 * N := by omega
  have hm1 : N - 1 + 1 = N := by omega
  have val : ∀ n i, i ≤ 2 * N - 1 → it (2 * N - 1) n i = (5 ^ n * i + co n) % (2 * N) := fun n i hi => by rw [it_val hi, hm]
  have eN : it (2 * N - 1) N 0 = N := by rw [val N 0 (by omega), Nat.mul_zero, Nat.zero_add, hc]
  have up : ∀ k, it (2 * N - 1) (N + k) 0 = (N + it (2 * N - 1) k 0) % (2 * N) := fun k => by
    rw [it_add, eN, val k N (by omega), val k 0 (by omega), Nat.mul_zero, Nat.zero_add, half_mul (odd5 k)]
    rw [Nat.add_mod_mod]
  refine ⟨fun j hj => ?_, ?_⟩
  · obtain ⟨k, hk, ek⟩ := h1 (j % N) (Nat.mod_lt _ hN)
    have e1 : it (2 * N - 1) k 0 % N = j % N := by
      rw [val k 0 (by omega), Nat.mul_zero, Nat.zero_add, Nat.mod_mul_left_mod, ← ek, it_val (Nat.zero_le _), hm1, Nat.mul_zero, Nat.zero_add]
    have e2 : it (2 * N - 1) k 0 < 2 * N := by
      have := it_lt (2 * N - 1) k 0 (Nat.zero_le _)
      omega
    by_cases e : it (2 * N - 1) k 0 = j
    · exact ⟨k, by omega, e⟩
    · refine ⟨N + k, by omega, ?_⟩
      rw [up k]
      have t1 := two hj hN
      have t2 := two e2 hN
      rw [e1] at t2
      generalize it (2 * N - 1) k 0 = x at *
      generalize j % N = r at *
      rcases t1 with a | a <;> rcases t2 with b | b
      · omega
      · have : N + x = j + 2 * N := by omega
        rw [this, Nat.add_mod_right, Nat.mod_eq_of_lt hj]
      · have : N + x = j := by omega
        rw [this, Nat.mod_eq_of_lt hj]
      · omega
  · rw [show 2 * N = N + N by omega, show N + N - 1 = 2 * N - 1 by omega, up N, eN, show N + N = 2 * N by omega, Nat.mod_self]
theorem co_is {N c : Nat} (h : 4 * c + 1 = 5 ^ N) : co N = c := by
  have := co_val N
  omega
theorem full8 : Full 8 := full_of good7
theorem full32 : Full 32 := full_of good31
theorem full128 : Full 128 := full_of good127
theorem full512 : Full 512 := full_of good511
theorem co512 : co 512 % (2 * 512) = 512 := by rw [co_is (c := (5 ^ 512 - 1) / 4) (by decide +kernel)]; decide +kernel
theorem co1024 : co 1024 % (2 * 1024) = 1024 := by rw [co_is (c := (5 ^ 1024 - 1) / 4) (by decide +kernel)]; decide +kernel
theorem co2048 : co 2048 % (2 * 2048) = 2048 := by rw [co_is (c := (5 ^ 2048 - 1) / 4) (by decide +kernel)]; decide +kernel
theorem co4096 : co 4096 % (2 * 4096) = 4096 := by rw [co_is (c := (5 ^ 4096 - 1) / 4) (by decide +kernel)]; decide +kernel
theorem full2048 : Full 2048 := Full.double (N := 1024) (by decide) (full512.double (by decide) co512) co1024
theorem full8192 : Full 8192 := Full.double (N := 4096) (by decide) (full2048.double (by decide) co2048) co4096
def Mask (m : Nat) : Prop := m = 7 ∨ m = 31 ∨ m = 127 ∨ m = 511 ∨ m = 2047 ∨ m = 8191
theorem Mask.full {m : Nat} (h : Mask m) : Full (m + 1) := by
  rcases h with rfl | rfl | rfl | rfl | rfl | rfl
  · exact full8
  · exact full32
  · exact full128
  · exact full512
  · exact full2048
  · exact full8192
theorem reach0 {m : Nat} (h : Mask m) {j : Nat} (hj : j ≤ m) : ∃ k, k ≤ m ∧ it m k 0 = j := by
  obtain ⟨k, hk, e⟩ := h.full.1 j (by omega)
  exact ⟨k, by omega, e⟩
theorem round0 {m : Nat} (h : Mask m) : it m (m + 1) 0 = 0 := h.full.2
theorem reach {m : Nat} (h : Mask m) {i j : Nat} (hi : i ≤ m) (hj : j ≤ m) : ∃ k, k ≤ m ∧ it m k i = j := by
  obtain ⟨a, ha, ea⟩ := reach0 h hi
  obtain ⟨b, hb, eb⟩ := reach0 h hj
  rcases Nat.lt_or_ge b a with hlt | hge
  · refine ⟨m + 1 - a + b, by omega, ?_⟩
    rw [← ea, ← it_add, show a + (m + 1 - a + b) = (m + 1) + b by omega, it_add, round0 h]
    exact eb
  · refine ⟨b - a, by omega, ?_⟩
    rw [← ea, ← it_add, show a + (b - a) = b by omega]
    exact eb
def lp (m : Nat) : Nat → Nat × Nat → Nat × Nat
  | 0, s => s
  | n + 1, s => lp m n (SetTable.leap m s.1 s.2)
theorem lp_succ' (m : Nat) : ∀ n s, lp m (n + 1) s = SetTable.leap m (lp m n s).1 (lp m n s).2
  | 0, s => rfl
  | n + 1, s => by
    show lp m (n + 1) (SetTable.leap m s.1 s.2) = _
    rw [lp_succ' m n]
    rfl
theorem lp_pert (m : Nat) : ∀ n s, (lp m n s).2 = s.2 / 32 ^ n
  | 0, s => by simp [lp]
  | n + 1, s => by
    rw [lp_succ' m n s]
    show (lp m n s).2 / 32 = _
    rw [lp_pert m n s, Nat.div_div_eq_div_mul, Nat.pow_succ]
theorem lp_le (m : Nat) : ∀ n s, s.1 ≤ m → (lp m n s).1 ≤ m
  | 0, s, h => h
  | n + 1, s, h => by
    rw [lp_succ' m n s]
    show (_ % (m + 1)) ≤ m
    have := Nat.mod_lt ((lp m n s).1 * 5 + 1 + (lp m n s).2 / 32) (show 0 < m + 1 by omega)
    omega
theorem lp_zero (m : Nat) : ∀ n i, (lp m n (i, 0)).1 = it m n i
  | 0, i => rfl
  | n + 1, i => by
    show (lp m n (SetTable.leap m i 0)).1 = it m n (nx m i)
    have : SetTable.leap m i 0 = (nx m i, 0) := rfl
    rw [this]
    exact lp_zero m n _
theorem lp_add (m : Nat) : ∀ a b s, lp m (a + b) s = lp m b (lp m a s)
  | 0, b, s => by rw [Nat.zero_add]; rfl
  | a + 1, b, s => by rw [Nat.succ_add]; exact lp_add m a b _
theorem lp_reach {m : Nat} (h : Mask m) {i p j : Nat} (hi : i ≤ m) (hp : p < 2 ^ 64) (hj : j ≤ m) : ∃ n, n ≤ m + 13 ∧ (lp m n (i, p)).1 = j := by
  have hz : (lp m 13 (i, p)).2 = 0 := by
    rw [lp_pert]
    exact Nat.div_eq_of_lt (Nat.lt_of_lt_of_le hp (by decide))
  obtain ⟨k, hk, e⟩ := reach h (lp_le m 13 (i, p) hi) hj
  refine ⟨13 + k, by omega, ?_⟩
  rw [lp_add]
  have : lp m 13 (i, p) = ((lp m 13 (i, p)).1, 0) := by rw [← hz]
  rw [this, lp_zero]
  exact e
theorem bits_lt (h : Int) : SetTable.bits h < 2 ^ 64 := by
  unfold SetTable.bits
  have h1 := Int.emod_lt_of_pos h (show (0 : Int) < 2 ^ 64 by decide)
  have h2 := Int.emod_nonneg h (show (2 : Int) ^ 64 ≠ 0 by decide)
  omega
def adv (t : SetTable) : Nat → SetTable.Probe → SetTable.Probe
  | 0, p => p
  | n + 1, p => adv t n (t.advance p)
theorem adv_add (t : SetTable) : ∀ a b p, adv t (a + b) p = adv t b (adv t a p)
  | 0, b, p => by rw [Nat.zero_add]; rfl
  | a + 1, b, p => by rw [Nat.succ_add]; exact adv_add t a b _
def at_ (t : SetTable) (s : Nat × Nat) : SetTable.Probe := { j := s.1, more := SetTable.runEnd t.mask s.1 - s.1, i := s.1, perturb := s.2, dummy := none }
theorem adv_run (t : SetTable) : ∀ (r : Nat) (p : SetTable.Probe), p.more = r → adv t (r + 1) p = { p with j := (SetTable.leap t.mask p.i p.perturb).1, more := SetTable.runEnd t.mask (SetTable.leap t.mask p.i p.perturb).1 - (SetTable.leap t.mask p.i p.perturb).1, i := (SetTable.leap t.mask p.i p.perturb).1, perturb := (SetTable.leap t.mask p.i p.perturb).2 }
  | 0, p, h => by
    show t.advance p = _
    unfold SetTable.advance
    rw [if_neg (by omega)]
  | r + 1, p, h => by
    show adv t (r + 1) (t.advance p) = _
    have e : t.advance p = { p with j := p.j + 1, more := p.more - 1 } := by
      unfold SetTable.advance
      rw [if_pos (by omega)]
    rw [e, adv_run t r _ (by show p.more - 1 = r; omega)]
theorem adv_leap (t : SetTable) (s : Nat × Nat) : ∃ k, k ≤ 10 ∧ adv t k (at_ t s) = at_ t (SetTable.leap t.mask s.1 s.2) := by
  refine ⟨SetTable.runEnd t.mask s.1 - s.1 + 1, ?_, ?_⟩
  · unfold SetTable.runEnd
    split <;> omega
  · exact (adv_run t (SetTable.runEnd t.mask s.1 - s.1) (at_ t s) rfl).trans rfl
theorem adv_leaps (t : SetTable) : ∀ (n : Nat) (s : Nat × Nat), ∃ k, k ≤ 10 * n ∧ adv t k (at_ t s) = at_ t (lp t.mask n s)
  | 0, s => ⟨0, Nat.le_refl _, rfl⟩
  | n + 1, s => by
    obtain ⟨k1, h1, e1⟩ := adv_leap t s
    obtain ⟨k2, h2, e2⟩ := adv_leaps t n (SetTable.leap t.mask s.1 s.2)
    refine ⟨k1 + k2, by omega, ?_⟩
    rw [adv_add, e1, e2]
    rfl
theorem start_at (t : SetTable) (h : Int) : t.probeStart h = at_ t (SetTable.bits h % (t.mask + 1), SetTable.bits h) := rfl
theorem probe_meets {t : SetTable} (hm : Mask t.mask) {j : Nat} (hj : j ≤ t.mask) (h : Int) : ∃ K, K < 10 * SetTable.turns t.mask ∧ (adv t K (t.probeStart h)).j = j := by
  have h1 : SetTable.bits h % (t.mask + 1) ≤ t.mask := by
    have := Nat.mod_lt (SetTable.bits h) (show 0 < t.mask + 1 by omega)
    omega
  obtain ⟨n, hn, e⟩ := lp_reach hm h1 (bits_lt h) hj
  obtain ⟨K, hK, eK⟩ := adv_leaps t n (SetTable.bits h % (t.mask + 1), SetTable.bits h)
  refine ⟨K, by unfold SetTable.turns; omega, ?_⟩
  rw [start_at, eK]
  exact e
theorem slot_live {t : SetTable} {j i : Nat} (h : t.slot j = .live i) : t.place[i]? = some j := by
  unfold SetTable.slot at h
  dsimp only at h
  split at h
  · rename_i hq
    cases h
    exact eq_of_beq hq
  · split at h <;> cases h
theorem has_nil (j : Nat) : SetTable.has #[] j = false := rfl
theorem slot_cases {t : SetTable} (hd : t.dummies = #[]) (j : Nat) : t.slot j = .empty ∨ ∃ i, t.slot j = .live i := by
  unfold SetTable.slot
  dsimp only
  split
  · exact .inr ⟨_, rfl⟩
  · rw [hd, has_nil]
    exact .inl rfl
theorem range_sub : ∀ (n : Nat) (l : List Nat), (∀ j, j < n → j ∈ l) → n ≤ l.length
  | 0, l, _ => Nat.zero_le _
  | n + 1, l, h => by
    have hn := h n (Nat.lt_succ_self n)
    have := range_sub n (l.erase n) fun j hj => (List.mem_erase_of_ne (by omega)).mpr (h j (by omega))
    rw [List.length_erase_of_mem hn] at this
    have : 0 < l.length := List.length_pos_of_mem hn
    omega
theorem free_slot {t : SetTable} (hd : t.dummies = #[]) (h : t.place.size ≤ t.mask) : ∃ j, j ≤ t.mask ∧ t.slot j = .empty := by
  rcases Classical.em (∃ j, j ≤ t.mask ∧ t.slot j = .empty) with h1 | h1
  · exact h1
  · exfalso
    have := range_sub (t.mask + 1) t.place.toList fun j hj => by
      rcases slot_cases hd j with h2 | ⟨i, h2⟩
      · exact absurd ⟨j, by omega, h2⟩ h1
      · have := slot_live h2
        rw [← Array.getElem?_toList] at this
        exact List.mem_of_getElem? this
    rw [Array.length_toList] at this
    omega
theorem adv_dummy (t : SetTable) : ∀ n p, (adv t n p).dummy = p.dummy
  | 0, p => rfl
  | n + 1, p => by
    show (adv t n (t.advance p)).dummy = _
    rw [adv_dummy t n]
    unfold SetTable.advance
    split <;> rfl
theorem set_none_perm {α : Type} : ∀ {l : List (Option α)} {j : Nat} {k : α}, l[j]? = some none → ((l.set j (some k)).filterMap id).Perm (k :: l.filterMap id)
  | [], j, k, h => by cases h
  | x :: l, 0, k, h => by
    have : x = none := by simpa using h
    subst this
    exact .refl _
  | x :: l, j + 1, k, h => by
    have h' : l[j]? = some none := by simpa using h
    have ih := set_none_perm (k := k) h'
    cases x with
    | none => exact ih
    | some y => exact (List.Perm.cons y ih).trans (.swap _ _ _)
theorem set_none_len {α : Type} (l : List (Option α)) : (l.filterMap id).length + (l.filter (·.isNone)).length = l.length := by
  induction l with
  | nil => rfl
  | cons x l ih =>
    cases x <;> simp at ih ⊢ <;> omega
theorem free_some {m : Nat} (hm : Mask m) (owner : Array (Option Nat)) (hz : owner.size = m + 1) {j : Nat} (hj : owner[j]? = some none) : ∀ (fuel n i p : Nat), i ≤ m → n < fuel → (lp m n (i, p)).1 = j →
    ∃ j', SetTable.layClean.free m owner fuel i p = some j' ∧ owner[j']? = some none := by
  intro fuel
  induction fuel with
  | zero => intro n i p _ h; omega
  | succ fuel ih =>
    intro n i p hi hn he
    unfold SetTable.layClean.free
    split
    · rename_i k hk
      have h1 := List.find?_some hk
      have h2 := List.mem_range.mp (List.mem_of_find?_eq_some hk)
      refine ⟨i + k, rfl, ?_⟩
      have hb : i + k < owner.size := by
        rw [hz]
        unfold SetTable.runEnd at h2
        split at h2 <;> omega
      rw [Array.getElem?_eq_getElem hb]
      have : owner.getD (i + k) (some 0) = owner[i + k] := by
        rw [Array.getD_eq_getD_getElem?, Array.getElem?_eq_getElem hb]
        rfl
      rw [this] at h1
      congr 1
      cases hq : owner[i + k] with
      | none => rfl
      | some y => rw [hq] at h1; cases h1
    · rename_i hk
      cases n with
      | zero =>
        exfalso
        have h0 : i = j := he
        have := List.find?_eq_none.mp hk 0 (List.mem_range.mpr (by unfold SetTable.runEnd; split <;> omega))
        rw [Nat.add_zero, h0, Array.getD_eq_getD_getElem?, hj] at this
        simp at this
      | succ n =>
        have := lp_le m 1 (i, p) hi
        exact ih n (SetTable.leap m i p).1 (SetTable.leap m i p).2 this (by omega) he
def layStep (mask : Nat) (acc : Option (Array (Option Nat) × Nat)) (h : Int) : Option (Array (Option Nat) × Nat) := do
  let (owner, k) ← acc
  let j ← SetTable.layClean.free mask owner (SetTable.turns mask) (SetTable.bits h % (mask + 1)) (SetTable.bits h)
  pure (owner.setIfInBounds j (some k), k + 1)
theorem some_none {l : List (Option Nat)} (h : (l.filterMap id).length < l.length) : ∃ j : Nat, l[j]? = some none := by
  have := set_none_len l
  have h1 : 0 < (l.filter (·.isNone)).length := by omega
  obtain ⟨x, hx⟩ := List.exists_mem_of_length_pos h1
  obtain ⟨hx1, hx2⟩ := List.mem_filter.mp hx
  have : x = none := by cases x <;> simp_all
  subst this
  obtain ⟨j, hj⟩ := List.getElem?_of_mem hx1
  exact ⟨j, hj⟩
theorem insertAt_size {α : Type} (xs : Array α) (p : Nat) (x : α) : (SetTable.insertAt xs p x).size = xs.size + 1 := by
  unfold SetTable.insertAt
  simp
  omega
theorem insertAt_mem {α : Type} {xs : Array α} {p : Nat} {x e : α} (h : e ∈ (SetTable.insertAt xs p x).toList) : e = x ∨ e ∈ xs.toList := by
  unfold SetTable.insertAt at h
  simp only [Array.toList_append, Array.toList_push, Array.toList_extract, List.mem_append, List.mem_singleton] at h
  rcases h with (h | h) | h
  · exact .inr (List.mem_of_mem_take (by simpa using h))
  · exact .inl h
  · exact .inr (List.mem_of_mem_drop (List.mem_of_mem_take h))
theorem above20 : SetTable.sizeAbove 20 - 1 = 31 := by decide +kernel
theorem above76 : SetTable.sizeAbove 76 - 1 = 127 := by decide +kernel
theorem above308 : SetTable.sizeAbove 308 - 1 = 511 := by decide +kernel
theorem above1228 : SetTable.sizeAbove 1228 - 1 = 2047 := by decide +kernel
theorem above4916 : SetTable.sizeAbove 4916 - 1 = 8191 := by decide +kernel
end Tb
set_option linter.all false
set_option maxRecDepth 100000
namespace Tb
open PySem
theorem least {P : Nat → Prop} : ∀ n, P n → ∃ m, m ≤ n ∧ P m ∧ ∀ k, k < m → ¬ P k := by
  intro n
  induction n using Nat.strongRecOn with
  | ind n ih =>
    intro h
    rcases Classical.em (∃ k, k < n ∧ P k) with ⟨k, hk, pk⟩ | hn
    · obtain ⟨m, h1, h2, h3⟩ := ih k hk pk
      exact ⟨m, by omega, h2, h3⟩
    · exact ⟨n, Nat.le_refl _, h, fun k hk pk => hn ⟨k, hk, pk⟩⟩
theorem inc_lt {xs : Array Nat} (h : xs.toList.Pairwise (· < ·)) {a b x y : Nat} (ha : xs[a]? = some x) (hb : xs[b]? = some y) (hab : a < b) : x < y := by
  obtain ⟨h1, e1⟩ := Array.getElem?_eq_some_iff.mp ha
  obtain ⟨h2, e2⟩ := Array.getElem?_eq_some_iff.mp hb
  have := List.pairwise_iff_getElem.mp h a b (by simpa using h1) (by simpa using h2) hab
  simp only [Array.getElem_toList] at this
  rw [e1, e2] at this
  exact this
theorem below_go (xs : Array Nat) (j : Nat) (hs : xs.toList.Pairwise (· < ·)) : ∀ fuel lo hi, hi - lo ≤ fuel → lo ≤ hi → hi ≤ xs.size → (∀ k x, k < lo → xs[k]? = some x → x < j) → (∀ k x, hi ≤ k → xs[k]? = some x → j ≤ x) →
    SetTable.below.go xs j fuel lo hi ≤ xs.size ∧ (∀ k x, k < SetTable.below.go xs j fuel lo hi → xs[k]? = some x → x < j) ∧ (∀ k x, SetTable.below.go xs j fuel lo hi ≤ k → xs[k]? = some x → j ≤ x)
  | 0, lo, hi, h1, h2, h3, h4, h5 => by
    have : lo = hi := by omega
    subst this
    exact ⟨h3, h4, h5⟩
  | fuel + 1, lo, hi, h1, h2, h3, h4, h5 => by
    unfold SetTable.below.go
    by_cases hlt : lo < hi
    · rw [if_pos hlt]
      dsimp only
      have hm : (lo + hi) / 2 < xs.size := by omega
      have em : xs[(lo + hi) / 2]? = some xs[(lo + hi) / 2] := getElem?_pos xs _ hm
      have eg : xs.getD ((lo + hi) / 2) j = xs[(lo + hi) / 2] := by
        rw [Array.getD_eq_getD_getElem?, em]
        rfl
      rw [eg]
      by_cases hc : xs[(lo + hi) / 2] < j
      · rw [if_pos hc]
        refine below_go xs j hs fuel _ _ (by omega) (by omega) h3 (fun k x hk ek => ?_) h5
        rcases Nat.lt_or_ge k ((lo + hi) / 2) with a | a
        · have := inc_lt hs ek em a
          omega
        · have : k = (lo + hi) / 2 := by omega
          subst this
          rw [em] at ek
          cases ek
          exact hc
      · rw [if_neg hc]
        refine below_go xs j hs fuel _ _ (by omega) (by omega) (by omega) h4 (fun k x hk ek => ?_)
        rcases Nat.lt_or_ge ((lo + hi) / 2) k with a | a
        · have := inc_lt hs em ek a
          omega
        · have : k = (lo + hi) / 2 := by omega
          subst this
          rw [em] at ek
          cases ek
          omega
    · rw [if_neg hlt]
      have : lo = hi := by omega
      subst this
      exact ⟨h3, h4, h5⟩
theorem below_spec {xs : Array Nat} (hs : xs.toList.Pairwise (· < ·)) (j : Nat) : SetTable.below xs j ≤ xs.size ∧ (∀ k x, k < SetTable.below xs j → xs[k]? = some x → x < j) ∧ (∀ k x, SetTable.below xs j ≤ k → xs[k]? = some x → j ≤ x) :=
  below_go xs j hs xs.size 0 xs.size (by omega) (Nat.zero_le _) (Nat.le_refl _) (fun k x hk => by omega) (fun k x hk e => by
    have := (Array.getElem?_eq_some_iff.mp e).1
    omega)
theorem slot_mem {t : SetTable} (hs : t.place.toList.Pairwise (· < ·)) {j i : Nat} (h : t.place[i]? = some j) : t.slot j = .live i := by
  obtain ⟨h1, h2, h3⟩ := below_spec hs j
  have e : SetTable.below t.place j = i := by
    have hi := (Array.getElem?_eq_some_iff.mp h).1
    rcases Nat.lt_or_ge i (SetTable.below t.place j) with a | a
    · have := h2 i j a h
      omega
    · rcases Nat.lt_or_ge (SetTable.below t.place j) i with b | b
      · have eb : t.place[SetTable.below t.place j]? = some t.place[SetTable.below t.place j] := getElem?_pos t.place _ (by omega)
        have c1 := h3 _ _ (Nat.le_refl _) eb
        have c2 := inc_lt hs eb h b
        omega
      · omega
  unfold SetTable.slot
  dsimp only
  rw [e, h, if_pos (beq_self_eq_true _)]
theorem insertAt_list {α : Type} (xs : Array α) (p : Nat) (x : α) : (SetTable.insertAt xs p x).toList = xs.toList.take p ++ (x :: xs.toList.drop p) := by
  unfold SetTable.insertAt
  rw [Array.toList_append, Array.toList_push, Array.toList_extract, Array.toList_extract]
  show List.take (p - 0) (xs.toList.drop 0) ++ [x] ++ List.take (xs.size - p) (xs.toList.drop p) = _
  rw [List.take_of_length_le (l := xs.toList.drop p) (by rw [List.length_drop, Array.length_toList]; exact Nat.le_refl _), List.append_assoc]
  rfl
theorem insertAt_get {α : Type} (xs : Array α) {p : Nat} (hp : p ≤ xs.size) (x : α) (i : Nat) : (SetTable.insertAt xs p x)[i]? = if i < p then xs[i]? else if i = p then some x else xs[i - 1]? := by
  rw [← Array.getElem?_toList, insertAt_list, List.getElem?_append, List.length_take, Array.length_toList, show min p xs.size = p by omega]
  by_cases h : i < p
  · rw [if_pos h, if_pos h, List.getElem?_take_of_lt h, Array.getElem?_toList]
  · rw [if_neg h, if_neg h]
    by_cases e : i = p
    · rw [if_pos e, e, Nat.sub_self]
      rfl
    · rw [if_neg e]
      obtain ⟨k, rfl⟩ : ∃ k, i = p + (k + 1) := ⟨i - p - 1, by omega⟩
      rw [show p + (k + 1) - p = k + 1 by omega, List.getElem?_cons_succ, List.getElem?_drop, Array.getElem?_toList]
      congr 1
theorem insertAt_inc {xs : Array Nat} (hs : xs.toList.Pairwise (· < ·)) {j : Nat} (hn : j ∉ xs.toList) : (SetTable.insertAt xs (SetTable.below xs j) j).toList.Pairwise (· < ·) := by
  obtain ⟨h1, h2, h3⟩ := below_spec hs j
  rw [insertAt_list]
  have hs' := hs
  rw [← List.take_append_drop (SetTable.below xs j) xs.toList, List.pairwise_append] at hs'
  rw [List.pairwise_append, List.pairwise_cons]
  refine ⟨hs'.1, ⟨fun y hy => ?_, hs'.2.1⟩, fun x hx y hy => ?_⟩
  · obtain ⟨k, hk, e⟩ := List.mem_iff_getElem.mp hy
    rw [List.length_drop, Array.length_toList] at hk
    rw [List.getElem_drop, Array.getElem_toList] at e
    have ex : xs[SetTable.below xs j + k]? = some y := by
      rw [getElem?_pos xs _ (by omega), e]
    have := h3 _ _ (by omega) ex
    have ne : y ≠ j := fun z => hn (by rw [← z]; exact Array.mem_toList_iff.mpr (Array.mem_of_getElem? ex))
    omega
  · have hxj : x < j := by
      obtain ⟨k, hk, e⟩ := List.mem_iff_getElem.mp hx
      rw [List.length_take, Array.length_toList] at hk
      rw [List.getElem_take, Array.getElem_toList] at e
      exact h2 k x (by omega) (by rw [getElem?_pos xs _ (by omega), e])
    rcases List.mem_cons.mp hy with rfl | hy
    · exact hxj
    · exact hs'.2.2 x hx y hy
abbrev tM (m : Nat) : SetTable := { mask := m, place := #[], dummies := #[], finger := 0, led := false, moves := 0, plain := false }
def pm (m : Nat) (h : Int) (k : Nat) : Nat := (adv (tM m) k ((tM m).probeStart h)).j
theorem adv_tM (t : SetTable) : ∀ k p, adv t k p = adv (tM t.mask) k p
  | 0, p => rfl
  | k + 1, p => adv_tM t k _
theorem pm_of (t : SetTable) (h : Int) (k : Nat) : (adv t k (t.probeStart h)).j = pm t.mask h k := by
  rw [adv_tM]
  rfl
structure TOk (m : Nat) (pl : Array Nat) (hs : Array Int) : Prop where
  len : pl.size = hs.size
  inc : pl.toList.Pairwise (· < ·)
  rch : ∀ (i j : Nat) (h : Int), pl[i]? = some j → hs[i]? = some h → ∃ K, K < 10 * SetTable.turns m ∧ pm m h K = j ∧ ∀ k, k < K → pm m h k ∈ pl.toList
theorem TOk.nil (m : Nat) : TOk m #[] #[] := ⟨rfl, .nil, fun i j h e => by simp at e⟩
theorem TOk.put {m : Nat} {pl : Array Nat} {hs : Array Int} (T : TOk m pl hs) {h : Int} {K : Nat} (hK : K < 10 * SetTable.turns m) (hn : pm m h K ∉ pl.toList) (hb : ∀ k, k < K → pm m h k ∈ pl.toList) :
    TOk m (SetTable.insertAt pl (SetTable.below pl (pm m h K)) (pm m h K)) (SetTable.insertAt hs (SetTable.below pl (pm m h K)) h) := by
  have hle := (below_spec T.inc (pm m h K)).1
  have more : ∀ x, x ∈ pl.toList → x ∈ (SetTable.insertAt pl (SetTable.below pl (pm m h K)) (pm m h K)).toList := fun x hx => by
    rw [insertAt_list]
    rw [← List.take_append_drop (SetTable.below pl (pm m h K)) pl.toList] at hx
    rcases List.mem_append.mp hx with a | a
    · exact List.mem_append_left _ a
    · exact List.mem_append_right _ (List.mem_cons_of_mem _ a)
  have old : ∀ (i j : Nat) (h' : Int), pl[i]? = some j → hs[i]? = some h' → ∃ K', K' < 10 * SetTable.turns m ∧ pm m h' K' = j ∧ ∀ k, k < K' → pm m h' k ∈ (SetTable.insertAt pl (SetTable.below pl (pm m h K)) (pm m h K)).toList := fun i j h' e1 e2 => by
    obtain ⟨K', h1, h2, h3⟩ := T.rch i j h' e1 e2
    exact ⟨K', h1, h2, fun k hk => more _ (h3 k hk)⟩
  refine ⟨by rw [insertAt_size, insertAt_size, T.len], insertAt_inc T.inc hn, fun i j h' e1 e2 => ?_⟩
  rw [insertAt_get pl hle] at e1
  rw [insertAt_get hs (by rw [← T.len]; exact hle)] at e2
  by_cases c1 : i < SetTable.below pl (pm m h K)
  · rw [if_pos c1] at e1 e2
    exact old i j h' e1 e2
  · rw [if_neg c1] at e1 e2
    by_cases c2 : i = SetTable.below pl (pm m h K)
    · rw [if_pos c2] at e1 e2
      cases e1
      cases e2
      exact ⟨K, hK, rfl, fun k hk => more _ (hb k hk)⟩
    · rw [if_neg c2] at e1 e2
      exact old _ j h' e1 e2
theorem nonempty_mem {t : SetTable} (hd : t.dummies = #[]) {j : Nat} (h : t.slot j ≠ .empty) : j ∈ t.place.toList := by
  rcases slot_cases hd j with e | ⟨i, e⟩
  · exact absurd e h
  · exact Array.mem_toList_iff.mpr (Array.mem_of_getElem? (slot_live e))
theorem mem_live {t : SetTable} (hs : t.place.toList.Pairwise (· < ·)) {j : Nat} (h : j ∈ t.place.toList) : ∃ i, t.slot j = .live i ∧ t.place[i]? = some j := by
  obtain ⟨i, hi⟩ := List.getElem?_of_mem h
  rw [Array.getElem?_toList] at hi
  exact ⟨i, slot_mem hs hi, hi⟩
theorem empty_not_mem {t : SetTable} (hs : t.place.toList.Pairwise (· < ·)) {j : Nat} (h : t.slot j = .empty) : j ∉ t.place.toList := fun hm => by
  obtain ⟨i, e, _⟩ := mem_live hs hm
  rw [h] at e
  cases e
theorem first_free {t : SetTable} (hd : t.dummies = #[]) (hm : Mask t.mask) (hp : t.place.size ≤ t.mask) (h : Int) : ∃ K, K < 10 * SetTable.turns t.mask ∧ t.slot (pm t.mask h K) = .empty ∧ ∀ k, k < K → t.slot (pm t.mask h k) ≠ .empty := by
  obtain ⟨j0, hj0, hs0⟩ := free_slot hd hp
  obtain ⟨N, hN, eN⟩ := probe_meets hm hj0 h
  rw [pm_of] at eN
  obtain ⟨K, h1, h2, h3⟩ := least (P := fun n => t.slot (pm t.mask h n) = .empty) N (by show t.slot (pm t.mask h N) = _; rw [eN]; exact hs0)
  exact ⟨K, by omega, h2, h3⟩
theorem go_at {t : SetTable} (hd : t.dummies = #[]) (hash : Nat → Int) (h : Int) : ∀ (K fuel : Nat) (p : SetTable.Probe), K < fuel → p.dummy = none → (∀ k, k < K → t.slot (adv t k p).j ≠ .empty) →
    (∃ k i, k < K ∧ SetTable.probe.go t hash h fuel p = some (.candidate (adv t k p).j i (adv t (k + 1) p)) ∧ t.slot (adv t k p).j = .live i) ∨ SetTable.probe.go t hash h fuel p = SetTable.probe.go t hash h (fuel - K) (adv t K p) := by
  intro K
  induction K with
  | zero => intro fuel p _ _ _; exact .inr rfl
  | succ K ih =>
    intro fuel p hf hp hs
    obtain ⟨f, rfl⟩ : ∃ f, fuel = f + 1 := ⟨fuel - 1, by omega⟩
    have h0 : t.slot p.j ≠ .empty := hs 0 (by omega)
    rcases slot_cases hd p.j with h1 | ⟨i, h1⟩
    · exact absurd h1 h0
    · by_cases hq : (hash i == h) = true
      · refine .inl ⟨0, i, by omega, ?_, h1⟩
        conv => lhs; unfold SetTable.probe.go
        rw [h1]
        dsimp only
        rw [if_pos hq]
        rfl
      · have e : SetTable.probe.go t hash h (f + 1) p = SetTable.probe.go t hash h f (t.advance p) := by
          conv => lhs; unfold SetTable.probe.go
          rw [h1]
          dsimp only
          rw [if_neg hq]
        rw [e]
        have hp' : (t.advance p).dummy = none := by
          have := adv_dummy t 1 p
          rw [hp] at this
          exact this
        rcases ih f (t.advance p) (by omega) hp' (fun k hk => hs (k + 1) (by omega)) with ⟨k, i', hk, e', hl⟩ | e'
        · exact .inl ⟨k + 1, i', by omega, e', hl⟩
        · refine .inr ?_
          rw [e', show f + 1 - (K + 1) = f - K by omega]
          rfl
theorem go_new {t : SetTable} (hd : t.dummies = #[]) (hash : Nat → Int) (h : Int) {K fuel : Nat} {p : SetTable.Probe} (hf : K < fuel) (hp : p.dummy = none) (hs : ∀ k, k < K → t.slot (adv t k p).j ≠ .empty) (he : t.slot (adv t K p).j = .empty) :
    (∃ k i, k < K ∧ SetTable.probe.go t hash h fuel p = some (.candidate (adv t k p).j i (adv t (k + 1) p)) ∧ t.slot (adv t k p).j = .live i) ∨ SetTable.probe.go t hash h fuel p = some (.empty (adv t K p).j none) := by
  rcases go_at hd hash h K fuel p hf hp hs with a | a
  · exact .inl a
  · refine .inr ?_
    rw [a]
    obtain ⟨f, hf'⟩ : ∃ f, fuel - K = f + 1 := ⟨fuel - K - 1, by omega⟩
    rw [hf']
    unfold SetTable.probe.go
    rw [he]
    dsimp only
    rw [adv_dummy, hp]
theorem go_old {t : SetTable} (hd : t.dummies = #[]) (hash : Nat → Int) (h : Int) {K fuel i0 : Nat} {p : SetTable.Probe} (hf : K < fuel) (hp : p.dummy = none) (hs : ∀ k, k < K → t.slot (adv t k p).j ≠ .empty) (he : t.slot (adv t K p).j = .live i0) (hh : hash i0 = h) :
    ∃ k i, k ≤ K ∧ SetTable.probe.go t hash h fuel p = some (.candidate (adv t k p).j i (adv t (k + 1) p)) ∧ t.slot (adv t k p).j = .live i := by
  rcases go_at hd hash h K fuel p hf hp hs with ⟨k, i, hk, e, hl⟩ | a
  · exact ⟨k, i, by omega, e, hl⟩
  · refine ⟨K, i0, Nat.le_refl _, ?_, he⟩
    rw [a]
    obtain ⟨f, hf'⟩ : ∃ f, fuel - K = f + 1 := ⟨fuel - K - 1, by omega⟩
    rw [hf']
    conv => lhs; unfold SetTable.probe.go
    rw [he]
    dsimp only
    rw [if_pos (by rw [hh]; exact beq_self_eq_true _)]
    rw [adv_add]
    rfl
theorem adv_in (t : SetTable) : ∀ (k : Nat) (p : SetTable.Probe), k ≤ p.more → adv t k p = { p with j := p.j + k, more := p.more - k }
  | 0, p, h => rfl
  | k + 1, p, h => by
    show adv t k (t.advance p) = _
    have e : t.advance p = { p with j := p.j + 1, more := p.more - 1 } := by
      unfold SetTable.advance
      rw [if_pos (by omega)]
    rw [e, adv_in t k _ (by show k ≤ p.more - 1; omega)]
    simp only [SetTable.Probe.mk.injEq, true_and, and_true]
    omega
theorem end_le {m i : Nat} (h : i ≤ m) : SetTable.runEnd m i ≤ m ∧ i ≤ SetTable.runEnd m i ∧ SetTable.runEnd m i ≤ i + 9 := by
  unfold SetTable.runEnd
  split <;> omega
theorem in_run {t : SetTable} {i p k : Nat} (h : k ≤ SetTable.runEnd t.mask i - i) : (adv t k (at_ t (i, p))).j = i + k := by
  rw [adv_in t k _ h]
  rfl
theorem not_none {owner : Array (Option Nat)} {j : Nat} (hj : j < owner.size) (h : (owner.getD j (some 0)).isNone = false) : ∃ x, owner[j]? = some (some x) := by
  rw [Array.getD_eq_getD_getElem?, getElem?_pos owner j hj] at h
  rw [getElem?_pos owner j hj]
  cases e : owner[j] with
  | none => rw [e] at h; cases h
  | some x => exact ⟨x, rfl⟩
theorem free_path {t : SetTable} (owner : Array (Option Nat)) (hz : owner.size = t.mask + 1) : ∀ (fuel i p j' : Nat), i ≤ t.mask → SetTable.layClean.free t.mask owner fuel i p = some j' →
    ∃ K, K < 10 * fuel ∧ (adv t K (at_ t (i, p))).j = j' ∧ ∀ k, k < K → ∃ x, owner[(adv t k (at_ t (i, p))).j]? = some (some x)
  | 0, i, p, j', hi, h => by cases h
  | fuel + 1, i, p, j', hi, h => by
    obtain ⟨r1, r2, r3⟩ := end_le hi
    unfold SetTable.layClean.free at h
    split at h
    · rename_i k0 hk
      cases h
      rw [List.find?_range_eq_some] at hk
      obtain ⟨hk1, hk2, hk3⟩ := hk
      have hk2 := List.mem_range.mp hk2
      refine ⟨k0, by omega, in_run (by omega), fun k hk => ?_⟩
      rw [in_run (by omega)]
      refine not_none (by omega) ?_
      have := hk3 k hk
      simpa using this
    · rename_i hk
      rw [List.find?_range_eq_none] at hk
      have hnx : (SetTable.leap t.mask i p).1 ≤ t.mask := by
        show (_ % (t.mask + 1)) ≤ t.mask
        have := Nat.mod_lt (i * 5 + 1 + p / 32) (show 0 < t.mask + 1 by omega)
        omega
      obtain ⟨K, h1, h2, h3⟩ := free_path owner hz fuel _ _ j' hnx h
      have hr : adv t (SetTable.runEnd t.mask i - i + 1) (at_ t (i, p)) = at_ t (SetTable.leap t.mask i p) := (adv_run t (SetTable.runEnd t.mask i - i) (at_ t (i, p)) rfl).trans rfl
      refine ⟨SetTable.runEnd t.mask i - i + 1 + K, by omega, ?_, fun k hk' => ?_⟩
      · rw [adv_add, hr]
        exact h2
      · rcases Nat.lt_or_ge k (SetTable.runEnd t.mask i - i + 1) with a | a
        · rw [in_run (by omega)]
          refine not_none (by omega) ?_
          have := hk k (by omega)
          simpa using this
        · obtain ⟨k', rfl⟩ : ∃ k', k = SetTable.runEnd t.mask i - i + 1 + k' := ⟨k - (SetTable.runEnd t.mask i - i + 1), by omega⟩
          rw [adv_add, hr]
          exact h3 k' (by omega)
def RchO (m : Nat) (F : Nat → Int) (owner : Array (Option Nat)) : Prop := ∀ j x : Nat, owner[j]? = some (some x) → ∃ K, K < 10 * SetTable.turns m ∧ pm m (F x) K = j ∧ ∀ k, k < K → ∃ y, owner[pm m (F x) k]? = some (some y)
theorem lay_fold2 {m : Nat} (hm : Mask m) (F : Nat → Int) : ∀ (hs : List Int) (owner : Array (Option Nat)) (k : Nat), owner.size = m + 1 → (owner.toList.filterMap id).Perm (List.range k) → k + hs.length ≤ m → (∀ i h, hs[i]? = some h → F (k + i) = h) → RchO m F owner →
    ∃ owner', hs.foldl (layStep m) (some (owner, k)) = some (owner', k + hs.length) ∧ owner'.size = m + 1 ∧ (owner'.toList.filterMap id).Perm (List.range (k + hs.length)) ∧ RchO m F owner'
  | [], owner, k, h1, h2, h3, h4, h5 => ⟨owner, rfl, h1, h2, h5⟩
  | h :: hs, owner, k, h1, h2, h3, h4, h5 => by
    rw [List.length_cons] at h3 ⊢
    have hlt : (owner.toList.filterMap id).length < owner.toList.length := by
      rw [h2.length_eq, List.length_range, Array.length_toList, h1]
      omega
    obtain ⟨j, hj⟩ := some_none hlt
    rw [Array.getElem?_toList] at hj
    have hjm : j ≤ m := by
      have := (Array.getElem?_eq_some_iff.mp hj).1
      omega
    have hi : SetTable.bits h % (m + 1) ≤ m := by
      have := Nat.mod_lt (SetTable.bits h) (show 0 < m + 1 by omega)
      omega
    obtain ⟨n, hn, en⟩ := lp_reach hm hi (bits_lt h) hjm
    obtain ⟨j', e', hj'⟩ := free_some hm owner h1 hj (SetTable.turns m) n _ _ hi (by unfold SetTable.turns; omega) en
    obtain ⟨K, K1, K2, K3⟩ := free_path (t := tM m) owner h1 (SetTable.turns m) _ _ j' hi e'
    have step : layStep m (some (owner, k)) h = some (owner.setIfInBounds j' (some k), k + 1) := by
      unfold layStep
      simp [e']
    rw [List.foldl_cons, step]
    have hp : ((owner.setIfInBounds j' (some k)).toList.filterMap id).Perm (List.range (k + 1)) := by
      rw [Array.toList_setIfInBounds]
      rw [← Array.getElem?_toList] at hj'
      refine (set_none_perm hj').trans ?_
      rw [List.range_succ]
      exact (List.Perm.cons k h2).trans (List.perm_append_comm (l₁ := [k]) (l₂ := List.range k))
    have hj's : j' < owner.size := (Array.getElem?_eq_some_iff.mp hj').1
    have keep : ∀ i x, owner[i]? = some (some x) → (owner.setIfInBounds j' (some k))[i]? = some (some x) := fun i x e => by
      rw [Array.getElem?_setIfInBounds, if_neg]
      · exact e
      · rintro rfl
        rw [hj'] at e
        cases e
    have hR : RchO m F (owner.setIfInBounds j' (some k)) := fun i x e => by
      rw [Array.getElem?_setIfInBounds] at e
      by_cases c : j' = i
      · rw [if_pos c, if_pos hj's] at e
        cases e
        have eF : F k = h := by
          have := h4 0 h rfl
          rwa [Nat.add_zero] at this
        rw [eF]
        refine ⟨K, K1, ?_, fun k' hk' => ?_⟩
        · rw [← c]
          exact K2
        · obtain ⟨y, hy⟩ := K3 k' hk'
          exact ⟨y, keep _ _ hy⟩
      · rw [if_neg c] at e
        obtain ⟨K', q1, q2, q3⟩ := h5 i x e
        refine ⟨K', q1, q2, fun k' hk' => ?_⟩
        obtain ⟨y, hy⟩ := q3 k' hk'
        exact ⟨y, keep _ _ hy⟩
    obtain ⟨o', f1, f2, f3, f4⟩ := lay_fold2 hm F hs (owner.setIfInBounds j' (some k)) (k + 1) (by simpa using h1) hp (by omega) (fun i h' e => by
      have := h4 (i + 1) h' e
      rwa [show k + (i + 1) = k + 1 + i by omega] at this) hR
    exact ⟨o', by rw [f1]; congr 2; omega, f2, by rw [show k + (hs.length + 1) = k + 1 + hs.length by omega]; exact f3, f4⟩
theorem fm_get {α : Type} (es : Array α) : ∀ (l : List Nat), (∀ i ∈ l, i < es.size) → ∀ n : Nat, (l.filterMap (es[·]?))[n]? = (l[n]?).bind (es[·]?)
  | [], _, n => by simp
  | x :: l, h, n => by
    have hx := h x List.mem_cons_self
    have e : (x :: l).filterMap (es[·]?) = es[x] :: l.filterMap (es[·]?) := by
      rw [List.filterMap_cons]
      simp [hx]
    rw [e]
    cases n with
    | zero => simp [hx]
    | succ n => simpa using fm_get es l (fun i hi => h i (List.mem_cons_of_mem _ hi)) n
theorem live_get {f : Nat → Option (Nat × Nat)} (hf : ∀ j x, f j = some x → x.1 = j) : ∀ (l : List Nat), (∀ x ∈ (l.filterMap f), f x.1 = some x) ∧ ((l.filterMap f).map (·.1)) = l.filter (fun j => (f j).isSome)
  | [] => ⟨fun x hx => (by cases hx), rfl⟩
  | a :: l => by
    obtain ⟨i1, i2⟩ := live_get hf l
    cases e : f a with
    | none =>
      rw [List.filterMap_cons_none e, List.filter_cons_of_neg (by rw [e]; simp)]
      exact ⟨i1, i2⟩
    | some x =>
      rw [List.filterMap_cons_some e, List.filter_cons_of_pos (by rw [e]; rfl), List.map_cons, i2, hf a x e]
      refine ⟨fun y hy => ?_, rfl⟩
      rcases List.mem_cons.mp hy with rfl | hy
      · rw [hf a y e]
        exact e
      · exact i1 y hy
theorem relaid_ok2 (t : SetTable) {es : Array (Int × Value)} {wanted m : Nat} (hm : Mask m) (hw : SetTable.sizeAbove wanted - 1 = m) (hn : es.size ≤ m) :
    ∃ t' order, t.relaid (es.map (·.1)) wanted = some (t', order) ∧ t'.place.size = es.size ∧ t'.dummies = #[] ∧ t'.mask = m ∧ order.toList.Perm (List.range es.size) ∧ t'.led = t.led ∧ t'.plain = t.plain ∧ TOk m t'.place ((order.filterMap (es[·]?)).map (·.1)) := by
  obtain ⟨o', f1, f2, f3, f4⟩ := lay_fold2 hm (fun i => ((es[i]?).map (·.1)).getD 0) (es.map (·.1)).toList (Array.replicate (m + 1) none) 0 (by simp) (by simp) (by rw [Array.length_toList, Array.size_map]; omega) (fun i h e => by
      rw [Array.getElem?_toList, Array.getElem?_map] at e
      show ((es[0 + i]?).map (·.1)).getD 0 = h
      rw [Nat.zero_add, e]
      rfl) (fun j x e => by
      rw [Array.getElem?_replicate] at e
      split at e <;> cases e)
  rw [Array.length_toList, Nat.zero_add, Array.size_map] at f1 f3
  have hlay : SetTable.layClean m (es.map (·.1)) = some o' := by
    show ((es.map (·.1)).foldl (layStep m) (some (Array.replicate (m + 1) none, 0))).map (·.1) = some o'
    rw [← Array.foldl_toList, f1]
    rfl
  have hsnd : ((List.range (m + 1)).filterMap fun j => (o'.getD j none).map (j, ·)).map (·.2) = o'.toList.filterMap id := by
    rw [List.map_filterMap]
    have : o'.toList = (List.range (m + 1)).map fun j => o'.getD j none := by
      apply List.ext_getElem
      · rw [Array.length_toList, List.length_map, List.length_range, f2]
      · intro i h1 h2
        rw [Array.length_toList] at h1
        simp [h1]
    rw [this, List.filterMap_map]
    congr 1
    funext j
    show ((o'.getD j none).map (j, ·)).map (·.2) = o'.getD j none
    cases o'.getD j none <;> rfl
  have hrel : t.relaid (es.map (·.1)) wanted = some (({ mask := m, place := (((List.range (m + 1)).filterMap fun j => (o'.getD j none).map (j, ·)).map (·.1)).toArray, dummies := #[], finger := t.finger, led := t.led, moves := t.movedTo m, plain := t.plain } : SetTable), (((List.range (m + 1)).filterMap fun j => (o'.getD j none).map (j, ·)).map (·.2)).toArray) := by
    unfold SetTable.relaid
    rw [hw]
    unfold SetTable.laid
    rw [hlay]
    rfl
  obtain ⟨lv1, lv2⟩ := live_get (f := fun j => (o'.getD j none).map (j, ·)) (fun j x e => by
    obtain ⟨y, _, rfl⟩ := Option.map_eq_some_iff.mp e
    rfl) (List.range (m + 1))
  have hlen : ((List.range (m + 1)).filterMap fun j => (o'.getD j none).map (j, ·)).length = es.size := by
    have := congrArg List.length hsnd
    rwa [List.length_map, f3.length_eq, List.length_range] at this
  have hall : ∀ i ∈ ((List.range (m + 1)).filterMap fun j => (o'.getD j none).map (j, ·)).map (·.2), i < es.size := fun i hi => by
    rw [hsnd] at hi
    exact List.mem_range.mp (f3.mem_iff.mp hi)
  refine ⟨_, _, hrel, ?_, rfl, rfl, ?_, rfl, rfl, ?_⟩
  · show (((List.range (m + 1)).filterMap fun j => (o'.getD j none).map (j, ·)).map (·.1)).toArray.size = _
    rw [List.size_toArray, List.length_map, hlen]
  · show (((List.range (m + 1)).filterMap fun j => (o'.getD j none).map (j, ·)).map (·.2)).toArray.toList.Perm _
    rw [List.toList_toArray, hsnd]
    exact f3
  · generalize hlv : ((List.range (m + 1)).filterMap fun j => (o'.getD j none).map (j, ·)) = lv at lv1 lv2 hlen hall
    show TOk m (lv.map (·.1)).toArray (((lv.map (·.2)).toArray.filterMap (es[·]?)).map (·.1))
    have mem : ∀ j, (∃ y, o'[j]? = some (some y)) → j ∈ (lv.map (·.1)).toArray.toList := fun j ⟨y, hy⟩ => by
      rw [List.toList_toArray, lv2, List.mem_filter]
      have hj := (Array.getElem?_eq_some_iff.mp hy).1
      refine ⟨List.mem_range.mpr (by omega), ?_⟩
      rw [Array.getD_eq_getD_getElem?, hy]
      rfl
    have hes : ∀ n : Nat, ((((lv.map (·.2)).toArray.filterMap (es[·]?)).map (·.1)))[n]? = (((lv.map (·.2))[n]?).bind (es[·]?)).map (·.1) := fun n => by
      rw [Array.getElem?_map, ← Array.getElem?_toList, Array.toList_filterMap, List.toList_toArray, fm_get es _ hall]
    refine ⟨?_, ?_, fun i j h e1 e2 => ?_⟩
    · rw [Array.size_map, ← Array.length_toList, ← Array.length_toList, Array.toList_filterMap, List.toList_toArray, List.toList_toArray, List.length_map]
      have key : ∀ l : List Nat, (∀ i ∈ l, i < es.size) → (l.filterMap (es[·]?)).length = l.length := by
        intro l
        induction l with
        | nil => intro _; rfl
        | cons x l ih =>
          intro hl
          have hx := hl x List.mem_cons_self
          rw [List.filterMap_cons, getElem?_pos es x hx, List.length_cons, List.length_cons, ih fun i hi => hl i (List.mem_cons_of_mem _ hi)]
      rw [key _ hall, List.length_map]
    · rw [List.toList_toArray, lv2]
      exact List.Pairwise.filter _ List.pairwise_lt_range
    · rw [hes] at e2
      rw [List.getElem?_toArray, List.getElem?_map] at e1
      rw [List.getElem?_map] at e2
      obtain ⟨⟨j', x⟩, hx, rfl⟩ := Option.map_eq_some_iff.mp e1
      rw [hx] at e2
      have hf := lv1 _ (List.mem_of_getElem? hx)
      have hx' : o'.getD j' none = some x := by
        obtain ⟨y, hy, ey⟩ := Option.map_eq_some_iff.mp hf
        cases ey
        exact hy
      have ho : o'[j']? = some (some x) := by
        rw [Array.getD_eq_getD_getElem?] at hx'
        cases q : o'[j']? with
        | none => rw [q] at hx'; cases hx'
        | some y => rw [q] at hx'; cases hx'; rfl
      obtain ⟨K, q1, q2, q3⟩ := f4 j' x ho
      have eF : ((es[x]?).map (·.1)).getD 0 = h := by
        have : (es[x]?).map (·.1) = some h := e2
        rw [this]
        rfl
      dsimp only at q2 q3
      rw [eF] at q2 q3
      exact ⟨K, q1, q2, fun k hk => mem _ (q3 k hk)⟩
end Tb
set_option Elab.async false
set_option linter.all false
set_option maxRecDepth 100000
set_option maxHeartbeats 4000000
namespace L2
open PySem PySem.Spec PyProof.Rows
section
variable {P : Program} {w : World} {A : Around} {E : Value → Shared → Prop} {s : Shared} {K : Type} [DecidableEq K] {knd : KeyKind P w K}
theorem items_plain {ks : List K} {vs : List Value} (h : ItemsAre knd ks vs) : ∀ v ∈ vs, ∀ b, v ≠ .ref b := fun v hv b e => by
  have := h.byValue v hv
  subst e
  cases this
theorem notClass_plain (n : Nat) {v : Value} (h : ∀ b, v ≠ .ref b) : ofAClassStatement n v = pure false := by
  cases v with
  | ref b => exact absurd rfl (h b)
  | _ => unfold ofAClassStatement; rfl
theorem notClass_tuple {ks : List K} {b : Addr} {Q : Bool → Shared → Prop} (hk : IsTupleKey knd s.heap ks b) (h : Q false s) : wpAny (model P w) A (ofAClassStatement 8 (.ref b)) Q E s := by
  have hT := hk.typeIs
  obtain ⟨o, items, n, ho, hc, hd, hi⟩ := hk
  unfold ofAClassStatement
  refine wpAny_bind (wpAny_typeOf hT ?_)
  dsimp only
  refine wpAny_bind (wpAny_pure ?_)
  simp only [Bool.not_true, Bool.false_eq_true, if_false]
  refine wpAny_bind (wpAny_seqItems ho hd ?_)
  dsimp only
  refine wpAny_bind ?_
  rw [← Array.forIn_toList]
  refine wpAny_forIn_list _ (fun rest r s' => r.1 = none ∧ s' = s ∧ ∀ v ∈ rest, ∀ b, v ≠ .ref b) _ ?_ ?_ _ _ ⟨rfl, rfl, items_plain hi⟩
  · rintro v rest r s' ⟨hr, rfl, hall⟩
    rw [notClass_plain _ (hall v List.mem_cons_self)]
    refine wpAny_bind (wpAny_pure ?_)
    simp only [Bool.false_eq_true, if_false]
    exact wpAny_pure ⟨rfl, rfl, fun u hu => hall u (List.mem_cons_of_mem _ hu)⟩
  · rintro ⟨r1, r2⟩ s' ⟨hr, rfl, _⟩
    simp only at hr
    subst hr
    exact wpAny_pure h
theorem unseen {ks : List K} {b : Addr} {l : List Value} {Q : Bool → Shared → Prop} (hk : IsTupleKey knd s.heap ks b) (hl : ∀ y ∈ l, ∃ b' k', y = .ref b' ∧ IsTupleKey knd s.heap k' b') (h : Q false s) : wpAny (model P w) A (searchCouldBeSeen (.ref b) l) Q E s := by
  unfold searchCouldBeSeen
  refine wpAny_bind ?_
  refine wpAny_forIn_list _ (fun rest r s' => r.1 = none ∧ s' = s ∧ ∀ y ∈ rest, ∃ b' k', y = .ref b' ∧ IsTupleKey knd s.heap k' b') _ ?_ ?_ _ _ ⟨rfl, rfl, hl⟩
  · rintro v rest r s' ⟨hr, rfl, hall⟩
    obtain ⟨b', k', rfl, hk'⟩ := hall v List.mem_cons_self
    have next : ∀ y ∈ rest, ∃ b' k', y = .ref b' ∧ IsTupleKey knd s'.heap k' b' := fun y hy => hall y (List.mem_cons_of_mem _ hy)
    dsimp only
    split
    · exact wpAny_pure ⟨rfl, rfl, next⟩
    · refine wpAny_bind (wpAny_eqIsQuiet_tuple hk ?_)
      simp only [Bool.not_true, Bool.false_eq_true, if_false]
      refine wpAny_bind (wpAny_eqIsQuiet_tuple hk' ?_)
      simp only [Bool.not_true, Bool.false_eq_true, if_false]
      refine wpAny_bind (notClass_tuple hk ?_)
      simp only [Bool.false_eq_true, if_false]
      refine wpAny_bind (notClass_tuple hk' ?_)
      simp only [Bool.false_eq_true, if_false]
      exact wpAny_pure ⟨rfl, rfl, next⟩
  · rintro ⟨r1, r2⟩ s' ⟨hr, rfl, _⟩
    simp only at hr
    subst hr
    exact wpAny_pure h
theorem gave_no {t : SetTable} (hm : Tb.Mask t.mask) : t.gaveWay = false := by
  unfold SetTable.gaveWay
  rcases hm with e | e | e | e | e | e <;> rw [e] <;> rfl
theorem search_new {a b : Addr} {k : List K} {h : Int} {o : Obj} {es : Array (Int × Value)} {ep : Nat} {t : SetTable} (hu : A.units < cLine) (hk : IsTupleKey knd s.heap k b) (ho : s.heap.get? a = some o) (hd : o.data = .set es ep t) (hf : t.fits es.size = true) (hm : Tb.Mask t.mask) (hdm : t.dummies = #[])
    (hall : ∀ e ∈ es.toList, ∃ b' k', e.2 = .ref b' ∧ IsTupleKey knd s.heap k' b' ∧ k' ≠ k) {Q : SetFound → Shared → Prop} :
    ∀ (K fuel : Nat) (stand : Option SetTable.Probe), K < fuel → K < 10 * SetTable.turns t.mask → (stand.getD (t.probeStart h)).dummy = none → (∀ k', k' < K → t.slot (Tb.adv t k' (stand.getD (t.probeStart h))).j ≠ .empty) → t.slot (Tb.adv t K (stand.getD (t.probeStart h))).j = .empty →
      Q (.free (Tb.adv t K (stand.getD (t.probeStart h))).j false) s → wpAny (model P w) A (setSearchFrom a (.ref b) h true fuel stand) Q E s := by
  intro K
  induction K using Nat.strongRecOn with
  | ind K ih =>
    intro fuel stand hfu hK hdu hne hs hQ
    obtain ⟨f, rfl⟩ : ∃ f, fuel = f + 1 := ⟨fuel - 1, by omega⟩
    unfold setSearchFrom
    refine wpAny_bind (wpAny_setState_of ho hd hf ?_)
    dsimp only
    have hg := gave_no hm
    have hsz : t.place.size = es.size := by
      simp only [SetTable.fits, Bool.and_eq_true, beq_iff_eq] at hf
      exact hf.1
    have hsm : t.sameMemory t.moves t.mask = some true := by
      unfold SetTable.sameMemory
      rw [if_pos (beq_self_eq_true _)]
    rw [hg]
    simp only [Bool.false_eq_true, if_false]
    generalize hr : t.probe _ h (stand.getD (t.probeStart h)) = r
    obtain ⟨g, hr⟩ : ∃ g, SetTable.probe.go t g h (10 * SetTable.turns t.mask) (stand.getD (t.probeStart h)) = r := ⟨_, hr⟩
    rcases Tb.go_new hdm g h hK hdu hne hs with ⟨k', i, hk', e, hl⟩ | e
    · rw [e] at hr
      subst hr
      have hpl := Tb.slot_live hl
      have hi : i < es.size := by
        rw [← hsz]
        exact (Array.getElem?_eq_some_iff.mp hpl).1
      have hmem : es[i] ∈ es.toList := by simp
      obtain ⟨b', k2, hy, hk2, hne2⟩ := hall _ hmem
      have hes : es[i]? = some (es[i].1, .ref b') := by
        rw [Array.getElem?_eq_getElem hi, ← hy]
      have hst : ∀ y ∈ ((es.filter fun x => x.1 == h).toList.map fun x => x.2), ∃ b' k', y = Value.ref b' ∧ IsTupleKey knd s.heap k' b' := fun y hy => by
        obtain ⟨e0, he0, rfl⟩ := List.mem_map.mp hy
        have he1 : e0 ∈ es.toList := by
          have := Array.mem_toList_iff.mp he0
          exact Array.mem_toList_iff.mpr (Array.mem_filter.mp this).1
        obtain ⟨b3, k3, h1, h2, _⟩ := hall e0 he1
        exact ⟨b3, k3, h1, h2⟩
      have eK : ∀ x, Tb.adv t (k' + 1 + x) (stand.getD (t.probeStart h)) = Tb.adv t x (Tb.adv t (k' + 1) (stand.getD (t.probeStart h))) := fun x => Tb.adv_add t _ _ _
      have again : wpAny (model P w) A (setSearchFrom a (.ref b) h true f (some (Tb.adv t (k' + 1) (stand.getD (t.probeStart h))))) Q E s := by
        refine ih (K - (k' + 1)) (by omega) f _ (by omega) (by omega) ?_ (fun x hx => ?_) ?_ ?_
        · show (Tb.adv t (k' + 1) _).dummy = none
          rw [Tb.adv_dummy]
          exact hdu
        · show t.slot (Tb.adv t x (Tb.adv t (k' + 1) _)).j ≠ _
          rw [← eK]
          exact hne _ (by omega)
        · show t.slot (Tb.adv t (K - (k' + 1)) (Tb.adv t (k' + 1) _)).j = _
          rw [← eK, show k' + 1 + (K - (k' + 1)) = K by omega]
          exact hs
        · show Q (.free (Tb.adv t (K - (k' + 1)) (Tb.adv t (k' + 1) _)).j false) s
          rw [← eK, show k' + 1 + (K - (k' + 1)) = K by omega]
          exact hQ
      have same : isSame (Value.ref b') (Value.ref b') = pure true := by
        unfold isSame
        simp
      dsimp only
      cases hled : t.led
      · simp only [Bool.not_false, if_true]
        refine wpAny_bind (unseen hk hst ?_)
        simp only [Bool.false_eq_true, if_false]
        rw [hes]
        dsimp only
        refine wpAny_bind (wpAny_holding (wpAny_eqBool_tuple hu hk2 hk ?_))
        rw [decide_eq_false hne2]
        refine wpAny_bind (wpAny_setState_of ho hd hf ?_)
        dsimp only
        simp only [Bool.and_false, Bool.false_eq_true, if_false, hsm, if_true, hl, hes, same]
        exact wpAny_bind (wpAny_pure (wpAny_bind (wpAny_pure again)))
      · simp only [Bool.not_true, Bool.false_eq_true, if_false]
        rw [hes]
        dsimp only
        refine wpAny_bind (wpAny_holding (wpAny_eqBool_tuple hu hk2 hk ?_))
        rw [decide_eq_false hne2]
        refine wpAny_bind (wpAny_setState_of ho hd hf ?_)
        dsimp only
        simp only [Bool.and_false, Bool.false_eq_true, if_false, hsm, if_true, hl, hes, same]
        exact wpAny_bind (wpAny_pure (wpAny_bind (wpAny_pure again)))
    · rw [e] at hr
      subst hr
      exact wpAny_pure hQ
theorem search_old {a b : Addr} {k : List K} {h : Int} {o : Obj} {es : Array (Int × Value)} {ep i0 : Nat} {t : SetTable} (hu : A.units < cLine) (hk : IsTupleKey knd s.heap k b) (ho : s.heap.get? a = some o) (hd : o.data = .set es ep t) (hf : t.fits es.size = true) (hm : Tb.Mask t.mask) (hdm : t.dummies = #[])
    (hall : ∀ e ∈ es.toList, ∃ b' k', e.2 = .ref b' ∧ IsTupleKey knd s.heap k' b') (hi0 : ∃ b0, es[i0]? = some (h, .ref b0) ∧ IsTupleKey knd s.heap k b0) {Q : SetFound → Shared → Prop} (hQ : Q (.there none) s) :
    ∀ (K fuel : Nat) (stand : Option SetTable.Probe), K < fuel → K < 10 * SetTable.turns t.mask → (stand.getD (t.probeStart h)).dummy = none → (∀ k', k' < K → t.slot (Tb.adv t k' (stand.getD (t.probeStart h))).j ≠ .empty) → t.slot (Tb.adv t K (stand.getD (t.probeStart h))).j = .live i0 →
      wpAny (model P w) A (setSearchFrom a (.ref b) h true fuel stand) Q E s := by
  obtain ⟨b0, hb0, hkb0⟩ := hi0
  intro K
  induction K using Nat.strongRecOn with
  | ind K ih =>
    intro fuel stand hfu hK hdu hne hs
    obtain ⟨f, rfl⟩ : ∃ f, fuel = f + 1 := ⟨fuel - 1, by omega⟩
    unfold setSearchFrom
    refine wpAny_bind (wpAny_setState_of ho hd hf ?_)
    dsimp only
    have hg := gave_no hm
    have hsz : t.place.size = es.size := by
      simp only [SetTable.fits, Bool.and_eq_true, beq_iff_eq] at hf
      exact hf.1
    have hsm : t.sameMemory t.moves t.mask = some true := by
      unfold SetTable.sameMemory
      rw [if_pos (beq_self_eq_true _)]
    rw [hg]
    simp only [Bool.false_eq_true, if_false]
    generalize hr : t.probe _ h (stand.getD (t.probeStart h)) = r
    obtain ⟨g, hgi, hr⟩ : ∃ g : Nat → Int, g i0 = h ∧ SetTable.probe.go t g h (10 * SetTable.turns t.mask) (stand.getD (t.probeStart h)) = r := ⟨_, by show ((es[i0]?).map (·.1)).getD 0 = h; rw [hb0]; rfl, hr⟩
    obtain ⟨k', i, hk', e, hl⟩ := Tb.go_old hdm g h hK hdu hne hs hgi
    rw [e] at hr
    subst hr
    have hpl := Tb.slot_live hl
    have hi : i < es.size := by
      rw [← hsz]
      exact (Array.getElem?_eq_some_iff.mp hpl).1
    have hmem : es[i] ∈ es.toList := by simp
    obtain ⟨b', k2, hy, hk2⟩ := hall _ hmem
    have hes : es[i]? = some (es[i].1, .ref b') := by
      rw [Array.getElem?_eq_getElem hi, ← hy]
    have hst : ∀ y ∈ ((es.filter fun x => x.1 == h).toList.map fun x => x.2), ∃ b' k', y = Value.ref b' ∧ IsTupleKey knd s.heap k' b' := fun y hy => by
      obtain ⟨e0, he0, rfl⟩ := List.mem_map.mp hy
      have he1 : e0 ∈ es.toList := by
        have := Array.mem_toList_iff.mp he0
        exact Array.mem_toList_iff.mpr (Array.mem_filter.mp this).1
      obtain ⟨b3, k3, h1, h2⟩ := hall e0 he1
      exact ⟨b3, k3, h1, h2⟩
    have eK : ∀ x, Tb.adv t (k' + 1 + x) (stand.getD (t.probeStart h)) = Tb.adv t x (Tb.adv t (k' + 1) (stand.getD (t.probeStart h))) := fun x => Tb.adv_add t _ _ _
    have again : k2 ≠ k → wpAny (model P w) A (setSearchFrom a (.ref b) h true f (some (Tb.adv t (k' + 1) (stand.getD (t.probeStart h))))) Q E s := fun hne2 => by
      have hlt : k' < K := by
        rcases Nat.lt_or_ge k' K with q | q
        · exact q
        · have : k' = K := by omega
          subst this
          rw [hs] at hl
          cases hl
          rw [hb0] at hes
          cases hes
          obtain ⟨o1, i1, n1, z1, _, z2, z3⟩ := hk2
          obtain ⟨o2, i2, n2, y1, _, y2, y3⟩ := hkb0
          rw [z1] at y1
          cases y1
          rw [z2] at y2
          cases y2
          exact absurd (z3.inj y3) hne2
      refine ih (K - (k' + 1)) (by omega) f _ (by omega) (by omega) ?_ (fun x hx => ?_) ?_
      · show (Tb.adv t (k' + 1) _).dummy = none
        rw [Tb.adv_dummy]
        exact hdu
      · show t.slot (Tb.adv t x (Tb.adv t (k' + 1) _)).j ≠ _
        rw [← eK]
        exact hne _ (by omega)
      · show t.slot (Tb.adv t (K - (k' + 1)) (Tb.adv t (k' + 1) _)).j = _
        rw [← eK, show k' + 1 + (K - (k' + 1)) = K by omega]
        exact hs
    have same : isSame (Value.ref b') (Value.ref b') = pure true := by
      unfold isSame
      simp
    have fin : wpAny (model P w) A (do
        let equal ← holding [Value.ref b'] (eqBool (.ref b') (.ref b))
        let (es', _, t') ← setState a
        if (true && equal) = true then return SetFound.there none
        let some same := t'.sameMemory t.moves t.mask | unsupported "set.changed-during-lookup:is-the-new-block-at-the-old-address"
        let still ← match (if same = true then t'.slot (Tb.adv t k' (stand.getD (t.probeStart h))).j else .empty) with
          | .live i' => match es'[i']? with
            | some (_, y') => do pure (if ← isSame y' (.ref b') then some i' else none)
            | none => pure none
          | _ => pure none
        match still with
        | none => rule "set.search.anew"; setSearchFrom a (.ref b) h true f none
        | some i' => if equal = true then return .there (some i') else setSearchFrom a (.ref b) h true f (some (Tb.adv t (k' + 1) (stand.getD (t.probeStart h))))) Q E s := by
      refine wpAny_bind (wpAny_holding (wpAny_eqBool_tuple hu hk2 hk ?_))
      refine wpAny_bind (wpAny_setState_of ho hd hf ?_)
      dsimp only
      by_cases hq : k2 = k
      · rw [decide_eq_true hq]
        simp only [Bool.and_self, if_true]
        exact wpAny_pure hQ
      · rw [decide_eq_false hq]
        simp only [Bool.and_false, Bool.false_eq_true, if_false, hsm, if_true, hl, hes, same]
        exact wpAny_bind (wpAny_pure (wpAny_bind (wpAny_pure (again hq))))
    dsimp only
    cases hled : t.led
    · simp only [Bool.not_false, if_true]
      refine wpAny_bind (unseen hk hst ?_)
      simp only [Bool.false_eq_true, if_false]
      rw [hes]
      exact fin
    · simp only [Bool.not_true, Bool.false_eq_true, if_false]
      rw [hes]
      exact fin
theorem key_stay {h h' : Heap} {a b : Addr} {k : List K} {o : Obj} {es : Array (Int × Value)} {ep : Nat} {t : SetTable} (hk : IsTupleKey knd h k b) (ho : h.get? a = some o) (hd : o.data = .set es ep t) (hs : Heap.SameBut a h h') : IsTupleKey knd h' k b := by
  obtain ⟨o', items, n, ho', hc, hd', hi⟩ := hk
  have hne : b ≠ a := by
    rintro rfl
    rw [ho] at ho'
    cases ho'
    rw [hd] at hd'
    cases hd'
  exact ⟨o', items, n, (hs.2 b hne).trans ho', hc, hd', hi⟩
theorem hashBy_plain (n : Nat) {v : Value} (h : ∀ b, v ≠ .ref b) : ∃ c, hashByValue n v = pure c := by
  cases v with
  | ref b => exact absurd rfl (h b)
  | _ => exact ⟨_, by cases n <;> unfold hashByValue <;> rfl⟩
theorem hashBy_tuple {ks : List K} {b : Addr} {Q : Bool → Shared → Prop} (hk : IsTupleKey knd s.heap ks b) (h : ∀ c, Q c s) : wpAny (model P w) A (hashByValue 8 (.ref b)) Q E s := by
  have hT := hk.typeIs
  obtain ⟨o, items, n, ho, hc, hd, hi⟩ := hk
  unfold hashByValue
  refine wpAny_bind (wpAny_specialOf hT F.slot_tuple_hash.lookup ?_)
  dsimp only
  refine wpAny_bind (wpAny_seqItems ho hd ?_)
  dsimp only [Option.getD_some]
  refine wpAny_bind ?_
  rw [← Array.forIn_toList]
  refine wpAny_forIn_list _ (fun rest r s' => (r.1 = none ∨ ∃ c, r.1 = some c) ∧ s' = s ∧ ∀ v ∈ rest, ∀ b, v ≠ .ref b) _ ?_ ?_ _ _ ⟨.inl rfl, rfl, items_plain hi⟩
  · rintro v rest r s' ⟨hr, rfl, hall⟩
    obtain ⟨c, hc'⟩ := hashBy_plain 7 (hall v List.mem_cons_self)
    rw [hc']
    refine wpAny_bind (wpAny_pure ?_)
    cases c
    · show wpAny _ _ (pure (ForInStep.done (some false, ()))) _ _ _
      exact wpAny_pure (wpAny_pure (h false))
    · simp only [Bool.not_true, Bool.false_eq_true, if_false]
      exact wpAny_pure ⟨.inl rfl, rfl, fun u hu => hall u (List.mem_cons_of_mem _ hu)⟩
  · rintro ⟨r1, r2⟩ s' ⟨hr, rfl, _⟩
    simp only at hr
    rcases hr with rfl | ⟨c, rfl⟩
    · exact wpAny_pure (h true)
    · exact wpAny_pure (h c)
theorem reorder_ok {α : Type} {es : Array α} {order : Array Nat} (h : order.toList.Perm (List.range es.size)) : (order.filterMap (es[·]?)).size = es.size ∧ ∀ e ∈ (order.filterMap (es[·]?)).toList, e ∈ es.toList := by
  have key : ∀ l : List Nat, (∀ i ∈ l, i < es.size) → (l.filterMap (es[·]?)).length = l.length ∧ ∀ e ∈ l.filterMap (es[·]?), e ∈ es.toList := by
    intro l
    induction l with
    | nil => intro _; exact ⟨rfl, fun e he => by cases he⟩
    | cons x l ih =>
      intro hl
      obtain ⟨i1, i2⟩ := ih fun i hi => hl i (List.mem_cons_of_mem _ hi)
      have hx := hl x List.mem_cons_self
      have e : (x :: l).filterMap (es[·]?) = es[x] :: l.filterMap (es[·]?) := by
        rw [List.filterMap_cons]
        simp [hx]
      rw [e]
      refine ⟨by rw [List.length_cons, List.length_cons, i1], fun y hy => ?_⟩
      rcases List.mem_cons.mp hy with rfl | hy
      · simp
      · exact i2 y hy
  have hlt : ∀ i ∈ order.toList, i < es.size := fun i hi => List.mem_range.mp (h.mem_iff.mp hi)
  obtain ⟨k1, k2⟩ := key order.toList hlt
  rw [Array.toList_filterMap]
  refine ⟨?_, k2⟩
  rw [← Array.length_toList, Array.toList_filterMap, k1, h.length_eq, List.length_range]
theorem reorder_perm {α : Type} {es : Array α} {order : Array Nat} (h : order.toList.Perm (List.range es.size)) : (order.filterMap (es[·]?)).toList.Perm es.toList := by
  rw [Array.toList_filterMap]
  have e : (List.range es.size).filterMap (es[·]?) = es.toList := by
    apply List.ext_getElem?
    intro n
    have e0 : es.toList[n]? = es[n]? := Array.getElem?_toList
    rw [e0, Tb.fm_get es _ (fun i hi => List.mem_range.mp hi)]
    by_cases hn : n < es.size
    · rw [List.getElem?_range hn]
      rfl
    · have e1 : (List.range es.size)[n]? = none := List.getElem?_eq_none (by rw [List.length_range]; omega)
      rw [e1, Array.getElem?_eq_none (by omega)]
      rfl
  rw [← e]
  exact h.filterMap _
end
section
variable {P : Program} {w : World} {A : Around} {E : Value → Shared → Prop} {s : Shared}
theorem items_str {ks : List Key} {vs : List Value} (h : ItemsAre (mixKind P w) ks vs) {x : Str} (hx : Sum.inr x ∈ ks) : ∃ t, Value.str x t ∈ vs := by
  induction h with
  | nil => cases hx
  | @cons k v ks vs hk _ ih =>
    rcases List.mem_cons.mp hx with rfl | hx
    · rcases keyIs_shape (show keyIs (.inr x) v = true from hk) with ⟨i, t, e, _⟩ | ⟨y, t, e, rfl⟩
      · cases e
      · cases e
        exact ⟨t, List.mem_cons_self⟩
    · obtain ⟨t, ht⟩ := ih hx
      exact ⟨t, List.mem_cons_of_mem _ ht⟩
theorem hashBy_str {ks : List Key} {b : Addr} {x : Str} {Q : Bool → Shared → Prop} (hk : IsTupleKey (mixKind P w) s.heap ks b) (hx : Sum.inr x ∈ ks) (h : Q false s) : wpAny (model P w) A (hashByValue 8 (.ref b)) Q E s := by
  have hT := hk.typeIs
  obtain ⟨o, items, n, ho, hc, hd, hi⟩ := hk
  unfold hashByValue
  refine wpAny_bind (wpAny_specialOf hT F.slot_tuple_hash.lookup ?_)
  dsimp only
  refine wpAny_bind (wpAny_seqItems ho hd ?_)
  dsimp only [Option.getD_some]
  refine wpAny_bind ?_
  rw [← Array.forIn_toList]
  refine wpAny_forIn_list _ (fun rest r s' => r.1 = none ∧ s' = s ∧ (∀ v ∈ rest, ∀ b, v ≠ .ref b) ∧ ∃ t, Value.str x t ∈ rest) _ ?_ ?_ _ _ ⟨rfl, rfl, items_plain hi, items_str hi hx⟩
  · rintro v rest r s' ⟨hr, rfl, hall, t, ht⟩
    obtain ⟨c, hc'⟩ := hashBy_plain 7 (hall v List.mem_cons_self)
    rw [hc']
    refine wpAny_bind (wpAny_pure ?_)
    cases c
    · show wpAny _ _ (pure (ForInStep.done (some false, ()))) _ _ _
      exact wpAny_pure (wpAny_pure h)
    · simp only [Bool.not_true, Bool.false_eq_true, if_false]
      refine wpAny_pure ⟨rfl, rfl, fun u hu => hall u (List.mem_cons_of_mem _ hu), t, ?_⟩
      rcases List.mem_cons.mp ht with rfl | ht
      · exact absurd hc' (fun z => by
          have : hashByValue 7 (Value.str x t) = pure false := by unfold hashByValue; rfl
          rw [this] at z
          injection z with z
          cases z)
      · exact ht
  · rintro ⟨r1, r2⟩ s' ⟨hr, rfl, _, t, ht⟩
    cases ht
def SetT (P : Program) (w : World) (B : Addr → List Key → Prop) (h : Heap) (a : Addr) (ks : List (List Key)) : Prop := ks.Nodup ∧
  ∃ o es ep t, h.get? a = some o ∧ o.ExactSet ∧ o.data = .set es ep t ∧ t.dummies = #[] ∧ Tb.Mask t.mask ∧ es.size * 5 < t.mask * 3 ∧ es.size = ks.length ∧ Tb.TOk t.mask t.place (es.map (·.1)) ∧
    (∀ e ∈ es.toList, ∃ b k, e = (tupleKeyHash (mixKind P w) k, .ref b) ∧ k ∈ ks ∧ IsTupleKey (mixKind P w) h k b ∧ B b k) ∧ (∀ k ∈ ks, ∃ b, (tupleKeyHash (mixKind P w) k, .ref b) ∈ es.toList ∧ IsTupleKey (mixKind P w) h k b) ∧ ((∀ k ∈ ks, ∃ x, Sum.inr x ∈ k) → ks = [] ∨ t.plain = false)
theorem add_tail {B : Addr → List Key → Prop} {a : Addr} {o : Obj} {es es1 : Array (Int × Value)} {ep n : Nat} {t t1 : SetTable} {ks1 : List (List Key)} {Q : Bool → Shared → Prop} (hnd : ks1.Nodup) (ho : s.heap.get? a = some o) (hex : o.ExactSet) (hd : o.data = .set es ep t) (hs1 : es1.size = n + 1) (hdm1 : t1.dummies = #[])
    (hm1 : Tb.Mask t1.mask) (hfull : n * 5 < t1.mask * 3) (hn : n < 1400) (hlen : ks1.length = n + 1) (hT1 : Tb.TOk t1.mask t1.place (es1.map (·.1))) (hall1 : ∀ e ∈ es1.toList, ∃ b k, e = (tupleKeyHash (mixKind P w) k, .ref b) ∧ k ∈ ks1 ∧ IsTupleKey (mixKind P w) s.heap k b ∧ B b k)
    (hin1 : ∀ k ∈ ks1, ∃ b, (tupleKeyHash (mixKind P w) k, .ref b) ∈ es1.toList ∧ IsTupleKey (mixKind P w) s.heap k b) (hpl1 : (∀ k ∈ ks1, ∃ x, Sum.inr x ∈ k) → t1.plain = false)
    (h : ∀ h', Heap.SameBut a s.heap h' → SetT P w B h' a ks1 → Q true { s with heap := h' }) :
    wpAny (model P w) A (do
      storeSet a es1 t1
      if (!false && t1.tooFull) = true then do
        setRelay a (SetTable.grown (n + 1))
        pure true
      else pure true) Q E s := by
  have hline : n + 1 ≤ sizeLine := Nat.le_trans (show n + 1 ≤ 10000 by omega) (by decide)
  have hp1 : t1.place.size = es1.size := by rw [hT1.len, Array.size_map]
  refine wpAny_bind (wpAny_storeSet_of ho hd ?_ (by omega))
  have ho1 : (s.heap.update a (Obj.putSet es1 t1)).get? a = some { o with data := .set es1 (ep + 1) t1 } := by
    have := Heap.get?_update_self (Obj.putSet es1 t1) ho (by rw [putSet_of es1 t1 hd]; rfl)
    rw [putSet_of es1 t1 hd] at this
    exact this
  have hsb1 := Heap.SameBut.update s.heap a (Obj.putSet es1 t1)
  generalize s.heap.update a (Obj.putSet es1 t1) = h1 at ho1 hsb1
  have hall2 : ∀ e ∈ es1.toList, ∃ b k, e = (tupleKeyHash (mixKind P w) k, .ref b) ∧ k ∈ ks1 ∧ IsTupleKey (mixKind P w) h1 k b ∧ B b k := fun e he => by
    obtain ⟨b, k, z1, z2, z3, z4⟩ := hall1 e he
    exact ⟨b, k, z1, z2, key_stay z3 ho hd hsb1, z4⟩
  have hin2 : ∀ k ∈ ks1, ∃ b, (tupleKeyHash (mixKind P w) k, .ref b) ∈ es1.toList ∧ IsTupleKey (mixKind P w) h1 k b := fun k hk => by
    obtain ⟨b, z1, z2⟩ := hin1 k hk
    exact ⟨b, z1, key_stay z2 ho hd hsb1⟩
  have hfill : t1.fill = n + 1 := by
    unfold SetTable.fill
    rw [hdm1, hp1, hs1]
    rfl
  by_cases hq : t1.tooFull = true
  · rw [hq]
    simp only [Bool.not_false, Bool.and_self, if_true]
    have hq' : t1.mask * 3 ≤ (n + 1) * 5 := by
      unfold SetTable.tooFull at hq
      rw [hfill] at hq
      simpa using hq
    obtain ⟨m, hm, hw, hmn, hlt⟩ : ∃ m, Tb.Mask m ∧ SetTable.sizeAbove (SetTable.grown (n + 1)) - 1 = m ∧ n + 1 ≤ m ∧ (n + 1) * 5 < m * 3 ∧ SetTable.sizeAbove (SetTable.grown (n + 1)) ≤ sizeLine := by
      have hg : SetTable.grown (n + 1) = (n + 1) * 4 := by
        unfold SetTable.grown
        rw [if_neg (by omega)]
      rw [hg]
      rcases hm1 with e | e | e | e | e | e <;> rw [e] at hfull hq'
      · obtain rfl : n = 4 := by omega
        exact ⟨31, .inr (.inl rfl), Tb.above20, by omega, by omega, by decide +kernel⟩
      · obtain rfl : n = 18 := by omega
        exact ⟨127, .inr (.inr (.inl rfl)), Tb.above76, by omega, by omega, by decide +kernel⟩
      · obtain rfl : n = 76 := by omega
        exact ⟨511, .inr (.inr (.inr (.inl rfl))), Tb.above308, by omega, by omega, by decide +kernel⟩
      · obtain rfl : n = 306 := by omega
        exact ⟨2047, .inr (.inr (.inr (.inr (.inl rfl)))), Tb.above1228, by omega, by omega, by decide +kernel⟩
      · obtain rfl : n = 1228 := by omega
        exact ⟨8191, .inr (.inr (.inr (.inr (.inr rfl)))), Tb.above4916, by omega, by omega, by decide +kernel⟩
      · omega
    have hfit1 : t1.fits es1.size = true := by
      simp only [SetTable.fits, Bool.and_eq_true, beq_iff_eq, decide_eq_true_eq]
      refine ⟨hp1, ?_⟩
      rw [hfill]
      rcases hm1 with e | e | e | e | e | e <;> omega
    obtain ⟨t2, order, hrel, hp2, hd2, hm2, hperm, _, hpl2, hT2⟩ := Tb.relaid_ok2 t1 (es := es1) hm hw (by omega)
    obtain ⟨r1, r2⟩ := reorder_ok hperm
    have r3 := reorder_perm hperm
    refine wpAny_bind ?_
    unfold setRelay
    refine wpAny_bind (wpAny_setState_of (s := { s with heap := h1 }) ho1 rfl hfit1 ?_)
    dsimp only
    rw [if_neg (Nat.not_lt.mpr hlt.2), hrel]
    refine wpAny_bind ?_
    show wpAny _ _ (do
      if (order.filterMap (es1[·]?)).size != es1.size then unsupported "internal:set-table-lost-an-element"
      pure (order.filterMap (es1[·]?), t2)) _ _ _
    rw [r1]
    simp only [bne_self_eq_false, Bool.false_eq_true, if_false]
    refine wpAny_pure ?_
    dsimp only
    refine wpAny_storeSet_of (s := { s with heap := h1 }) ho1 rfl ?_ (by rw [r1]; omega)
    have ho2 : (h1.update a (Obj.putSet (order.filterMap (es1[·]?)) t2)).get? a = some { o with data := .set (order.filterMap (es1[·]?)) (ep + 1 + 1) t2 } := by
      have := Heap.get?_update_self (Obj.putSet (order.filterMap (es1[·]?)) t2) ho1 (by rw [putSet_of _ _ (o := { o with data := .set es1 (ep + 1) t1 }) rfl]; rfl)
      rw [putSet_of _ _ (o := { o with data := .set es1 (ep + 1) t1 }) rfl] at this
      exact this
    have hsb2 := Heap.SameBut.update h1 a (Obj.putSet (order.filterMap (es1[·]?)) t2)
    refine wpAny_pure (h _ (hsb1.trans hsb2) ⟨hnd, _, _, _, t2, ho2, hex, rfl, hd2, by rw [hm2]; exact hm, by rw [r1, hm2, hs1]; exact hlt.1, by rw [r1, hs1, hlen], by rw [hm2]; exact hT2, fun e he => ?_, fun k hk => ?_, fun hx => .inr (hpl2.trans (hpl1 hx))⟩)
    · obtain ⟨b, k, z1, z2, z3, z4⟩ := hall2 e (r2 e he)
      exact ⟨b, k, z1, z2, key_stay z3 ho1 rfl hsb2, z4⟩
    · obtain ⟨b, z1, z2⟩ := hin2 k hk
      exact ⟨b, r3.mem_iff.mpr z1, key_stay z2 ho1 rfl hsb2⟩
  · have hq0 : t1.tooFull = false := by simpa using hq
    rw [hq0]
    simp only [Bool.and_false, Bool.false_eq_true, if_false]
    have hq' : (n + 1) * 5 < t1.mask * 3 := by
      unfold SetTable.tooFull at hq0
      rw [hfill] at hq0
      simpa using hq0
    exact wpAny_pure (h h1 hsb1 ⟨hnd, _, es1, _, t1, ho1, hex, rfl, hdm1, hm1, by rw [hs1]; exact hq', by rw [hs1, hlen], hT1, hall2, hin2, fun hx => .inr (hpl1 hx)⟩)
theorem ins_mem {α : Type} {xs : Array α} {p : Nat} {x e : α} (h : e = x ∨ e ∈ xs.toList) : e ∈ (SetTable.insertAt xs p x).toList := by
  rw [Tb.insertAt_list]
  rcases h with rfl | h
  · exact List.mem_append_right _ List.mem_cons_self
  · rw [← List.take_append_drop p xs.toList] at h
    rcases List.mem_append.mp h with a | a
    · exact List.mem_append_left _ a
    · exact List.mem_append_right _ (List.mem_cons_of_mem _ a)
theorem ins_map {α β : Type} (f : α → β) (xs : Array α) (p : Nat) (x : α) : (SetTable.insertAt xs p x).map f = SetTable.insertAt (xs.map f) p (f x) := by
  apply Array.toList_inj.mp
  rw [Array.toList_map, Tb.insertAt_list, Tb.insertAt_list, Array.toList_map]
  simp
theorem add_ok {B : Addr → List Key → Prop} {a b : Addr} {k : List Key} {ks : List (List Key)} {Q : Bool → Shared → Prop} (hu : A.units < cLine) (hk : IsTupleKey (mixKind P w) s.heap k b) (hB : B b k) (hS : SetT P w B s.heap a ks) (hsz : ks.length < 1400)
    (h : ∀ h' r ks', Heap.SameBut a s.heap h' → SetT P w B h' a ks' → ks'.length ≤ ks.length + 1 → (∀ x, x ∈ ks' ↔ x ∈ ks ∨ x = k) → Q r { s with heap := h' }) : wpAny (model P w) A (setAddHashed a (.ref b) (tupleKeyHash (mixKind P w) k)) Q E s := by
  obtain ⟨hnd, o, es, ep, t, ho, hex, hd, hdm, hm, hfull, hlen, hT, hall, hin, hpl⟩ := id hS
  have hp : t.place.size = es.size := by rw [hT.len, Array.size_map]
  have hle : es.size ≤ t.mask := by omega
  have hf : t.fits es.size = true := by
    simp only [SetTable.fits, Bool.and_eq_true, beq_iff_eq, decide_eq_true_eq]
    refine ⟨hp, ?_⟩
    unfold SetTable.fill
    rw [hdm, hp]
    simpa using hle
  have hturn : 10 * SetTable.turns t.mask < 100000 := by
    unfold SetTable.turns
    rcases hm with e | e | e | e | e | e <;> rw [e] <;> decide
  have hst : ∀ x, (Tb.adv t x (Option.getD none (t.probeStart (tupleKeyHash (mixKind P w) k)))).j = Tb.pm t.mask (tupleKeyHash (mixKind P w) k) x := fun x => Tb.pm_of t _ x
  unfold setAddHashed setAddHashedIn
  refine wpAny_holding (wpAny_bind (wpAny_setState_of ho hd hf ?_))
  dsimp only
  have hsc : byScan (.ref b) es = false := rfl
  rw [hsc]
  simp only [Bool.false_eq_true, if_false]
  unfold setSearch
  rcases Classical.em (k ∈ ks) with hold | hold
  · obtain ⟨b0, hb0, hkb0⟩ := hin k hold
    obtain ⟨i0, hi0⟩ := List.getElem?_of_mem hb0
    rw [Array.getElem?_toList] at hi0
    have hi0s := (Array.getElem?_eq_some_iff.mp hi0).1
    obtain ⟨j0, hj0⟩ : ∃ j0, t.place[i0]? = some j0 := ⟨_, getElem?_pos t.place i0 (by omega)⟩
    obtain ⟨K, q1, q2, q3⟩ := hT.rch i0 j0 (tupleKeyHash (mixKind P w) k) hj0 (by rw [Array.getElem?_map, hi0]; rfl)
    refine wpAny_bind (search_old hu hk ho hd hf hm hdm (fun e he => ?_) ⟨b0, hi0, hkb0⟩ ?_ K 100000 none (by omega) q1 rfl (fun x hx => ?_) ?_)
    · obtain ⟨b', k', e1, _, e3, _⟩ := hall e he
      exact ⟨b', k', by rw [e1], e3⟩
    · dsimp only
      refine wpAny_pure ?_
      have e : s = { s with heap := s.heap } := by cases s; rfl
      rw [e]
      exact h s.heap _ ks (Heap.SameBut.refl a s.heap) hS (Nat.le_succ _) fun x => ⟨.inl, fun z => z.elim id fun e => e ▸ hold⟩
    · rw [hst]
      obtain ⟨i, e, _⟩ := Tb.mem_live hT.inc (q3 x hx)
      rw [e]
      intro z
      cases z
    · rw [hst, q2]
      exact Tb.slot_mem hT.inc hj0
  · obtain ⟨K, q1, q2, q3⟩ := Tb.first_free hdm hm (by rw [hp]; exact hle) (tupleKeyHash (mixKind P w) k)
    have hall' : ∀ e ∈ es.toList, ∃ b' k', e.2 = .ref b' ∧ IsTupleKey (mixKind P w) s.heap k' b' ∧ k' ≠ k := fun e he => by
      obtain ⟨b', k', h1, h2, h3, _⟩ := hall e he
      exact ⟨b', k', by rw [h1], h3, fun z => hold (z ▸ h2)⟩
    refine wpAny_bind (search_new hu hk ho hd hf hm hdm hall' K 100000 none (by omega) q1 rfl (fun x hx => by rw [hst]; exact q3 x hx) (by rw [hst]; exact q2) ?_)
    rw [hst]
    dsimp only
    refine wpAny_bind (wpAny_setState_of ho hd hf ?_)
    dsimp only
    have hnm := Tb.empty_not_mem hT.inc q2
    have hTp := hT.put q1 hnm (fun x hx => Tb.nonempty_mem hdm (q3 x hx))
    have hput : (t.put (Tb.pm t.mask (tupleKeyHash (mixKind P w) k) K)).1.dummies = #[] := by
      show (if SetTable.has t.dummies _ = true then _ else t.dummies) = #[]
      rw [hdm, Tb.has_nil]
      rfl
    generalize Tb.pm t.mask (tupleKeyHash (mixKind P w) k) K = j at hTp hput
    have hT1 : Tb.TOk t.mask (t.put j).1.place ((SetTable.insertAt es (t.put j).2 (tupleKeyHash (mixKind P w) k, Value.ref b)).map (·.1)) := by
      rw [ins_map]
      exact hTp
    have hins : ∀ e ∈ (SetTable.insertAt es (t.put j).2 (tupleKeyHash (mixKind P w) k, Value.ref b)).toList, ∃ b' k', e = (tupleKeyHash (mixKind P w) k', .ref b') ∧ k' ∈ k :: ks ∧ IsTupleKey (mixKind P w) s.heap k' b' ∧ B b' k' := fun e he => by
      rcases Tb.insertAt_mem he with rfl | he
      · exact ⟨b, k, rfl, List.mem_cons_self, hk, hB⟩
      · obtain ⟨b', k', z1, z2, z3, z4⟩ := hall e he
        exact ⟨b', k', z1, List.mem_cons_of_mem _ z2, z3, z4⟩
    have hin' : ∀ k' ∈ k :: ks, ∃ b', (tupleKeyHash (mixKind P w) k', Value.ref b') ∈ (SetTable.insertAt es (t.put j).2 (tupleKeyHash (mixKind P w) k, Value.ref b)).toList ∧ IsTupleKey (mixKind P w) s.heap k' b' := fun k' hk' => by
      rcases List.mem_cons.mp hk' with rfl | hk'
      · exact ⟨b, ins_mem (.inl rfl), hk⟩
      · obtain ⟨b', z1, z2⟩ := hin k' hk'
        exact ⟨b', ins_mem (.inr z1), z2⟩
    have hnd' : (k :: ks).Nodup := List.nodup_cons.mpr ⟨hold, hnd⟩
    have h' : ∀ h', Heap.SameBut a s.heap h' → SetT P w B h' a (k :: ks) → Q true { s with heap := h' } := fun h2 sb hS' => h h2 true _ sb hS' (Nat.le_refl _) fun x => by rw [List.mem_cons]; exact ⟨fun z => z.symm, fun z => z.symm⟩
    have fin : ∀ c : Bool, ((∀ k' ∈ k :: ks, ∃ x, Sum.inr x ∈ k') → (t.put j).1.plain = false ∨ c = false) → wpAny (model P w) A (do
        storeSet a (SetTable.insertAt es (t.put j).2 (tupleKeyHash (mixKind P w) k, Value.ref b)) (if c = true then (t.put j).1 else { (t.put j).1 with plain := false })
        if (!false && (if c = true then (t.put j).1 else { (t.put j).1 with plain := false }).tooFull) = true then do
          setRelay a (SetTable.grown (es.size + 1))
          pure true
        else pure true) Q E s := fun c hcp => by
      refine add_tail (ks1 := k :: ks) hnd' ho hex hd (Tb.insertAt_size _ _ _) ?_ ?_ ?_ (by omega) (by rw [List.length_cons, hlen]) ?_ hins hin' ?_ h'
      · cases c <;> exact hput
      · cases c <;> exact hm
      · cases c <;> exact hfull
      · cases c <;> exact hT1
      · intro hx
        cases c
        · rfl
        · rcases hcp hx with z | z
          · exact z
          · cases z
    cases hpl' : (t.put j).1.plain
    · simp only [Bool.false_eq_true, if_false]
      exact wpAny_bind (wpAny_pure (fin true fun _ => .inl hpl'))
    · simp only [if_true]
      rcases Classical.em (∃ x, Sum.inr x ∈ k) with ⟨x, hx⟩ | hx
      · exact wpAny_bind (hashBy_str hk hx (fin false fun _ => .inr rfl))
      · exact wpAny_bind (hashBy_tuple hk fun c => fin c fun hall => absurd (hall k List.mem_cons_self) hx)
end
section
variable {P : Program} {w : World} {A : Around} {I : Addr} {fp wr : List Addr} {G : Array GenState → Array GenState → Prop} {n : Nat} {Pz : Nat → Value → Prop} {St : Nat → Shared → Prop}
theorem SetT.moved {B : Addr → List Key → Prop} {h h' : Heap} {a : Addr} {ks : List (List Key)} {wr : List Addr} (hS : SetT P w B h a ks) (hk : ∀ b o, b ∉ wr → h.get? b = some o → h'.get? b = some o) (ha : a ∉ wr) (hw : ∀ b ∈ wr, ∀ o, h.get? b = some o → ∃ vs, o.data = .fields vs) : SetT P w B h' a ks := by
  obtain ⟨hnd, o, es, ep, t, ho, hex, hd, h1, h2, h3, h4, h5, hall, hin, hpl⟩ := hS
  have mv : ∀ k b, IsTupleKey (mixKind P w) h k b → IsTupleKey (mixKind P w) h' k b := fun k b ⟨o', items, m, ho', hc, hd', hi⟩ => ⟨o', items, m, hk b o' (fun hb => by
      obtain ⟨vs, hv⟩ := hw b hb o' ho'
      rw [hd'] at hv
      cases hv) ho', hc, hd', hi⟩
  refine ⟨hnd, o, es, ep, t, hk a o ha ho, hex, hd, h1, h2, h3, h4, h5, fun e he => ?_, fun k hk => ?_, hpl⟩
  · obtain ⟨b, k, z1, z2, z3, z4⟩ := hall e he
    exact ⟨b, k, z1, z2, mv k b z3, z4⟩
  · obtain ⟨b, z1, z2⟩ := hin k hk
    exact ⟨b, z1, mv k b z2⟩
theorem set_loop {B : Addr → List Key → Prop} (W : WalksS P w A.in1 I fp wr G n Pz St) (S : Addr) (hS : S ∉ fp) (hu : A.in1.units < cLine) (bs : List Addr) (kk : List (List Key)) (hnk : kk.length = n) (hBk : ∀ (j : Nat) b k, bs[j]? = some b → kk[j]? = some k → B b k) (hsz : n < 1400)
    (hval : ∀ i v, Pz i v → ∃ b, v = .ref b ∧ bs[i]? = some b) (hwr : ∀ i s, St i s → ∀ b ∈ wr, ∀ o, s.heap.get? b = some o → ∃ vs, o.data = .fields vs) {R : Result → Shared → Prop} :
    ∀ (m i : Nat) (s : Shared) (D : List (List Key)), n - i = m → i ≤ n → St i s → SetT P w B s.heap S D → D.length ≤ i → (∀ k, k ∈ D ↔ k ∈ kk.take i) → (∀ (j : Nat) (b : Addr) (k : List Key), bs[j]? = some b → kk[j]? = some k → IsTupleKey (mixKind P w) s.heap k b) →
      (∀ s' D, Moved (S :: wr) G s s' → SetT P w B s'.heap S D → (∀ k, k ∈ D ↔ k ∈ kk) → R (.ok (.ret .none)) s') →
      codeAny (model P w) A (.builtin "set.update.loop" ⟨[.ref S, .ref I], []⟩) R s := by
  have hSw : S ∉ wr := fun z => hS (W.sub _ z)
  have more : ∀ b ∈ wr, b ∈ S :: wr := fun b z => List.mem_cons_of_mem _ z
  intro m
  induction m with
  | zero =>
    intro i s D hm hi hst hset _ hD hkeys hR
    obtain rfl : i = n := by omega
    refine codeAny_builtin F.entry_set_update_loop ?_
    rw [Around.under_plainId F.plain_set_update_loop _]
    show wpAny _ A.in1 (pyNext (.ref I) >>= _) _ _ s
    refine wpAny_bind (W.done s _ _ hst fun s' mv => ?_)
    rw [← hnk, List.take_length] at hD
    exact wpAny_pure (hR s' D (mv.mono more) (hset.moved mv.heap hSw (hwr _ s hst)) hD)
  | succ m ih =>
    intro i s D hm hi hst hset hDl hD hkeys hR
    have hlt : i < n := by omega
    refine codeAny_builtin F.entry_set_update_loop ?_
    rw [Around.under_plainId F.plain_set_update_loop _]
    show wpAny _ A.in1 (pyNext (.ref I) >>= _) _ _ s
    refine wpAny_bind (W.item i s _ _ hlt hst fun v s' hP hst' mv => ?_)
    obtain ⟨b, rfl, hb⟩ := hval i v hP
    have hki : kk[i]? = some kk[i] := List.getElem?_eq_getElem (by omega)
    have hset' := hset.moved mv.heap hSw (hwr _ s hst)
    have hkeys' : ∀ (j : Nat) (b : Addr) (k : List Key), bs[j]? = some b → kk[j]? = some k → IsTupleKey (mixKind P w) s'.heap k b := fun j b k e1 e2 => by
      obtain ⟨o', items, q, ho', hc, hd', hi'⟩ := hkeys j b k e1 e2
      refine ⟨o', items, q, mv.heap b o' (fun hbw => ?_) ho', hc, hd', hi'⟩
      obtain ⟨vs, hv⟩ := hwr _ s hst b hbw o' ho'
      rw [hd'] at hv
      cases hv
    show wpAny _ A.in1 (holding [Value.ref b] (setAdd S (.ref b)) >>= _) _ _ s'
    refine wpAny_bind (wpAny_holding ?_)
    unfold setAdd
    refine wpAny_holding (wpAny_bind (wpAny_pyHash_tuple hu (hkeys' i b _ hb hki) ?_))
    refine add_ok (s := { s' with toks := s'.toks + (kk[i].length + 1) }) hu (hkeys' i b _ hb hki) (hBk i b _ hb hki) hset' (by omega) fun h' r D1 sb hset2 hD1l hD1 => ?_
    have htk : ∀ k, k ∈ D1 ↔ k ∈ kk.take (i + 1) := fun k => by
      rw [hD1, hD k, List.take_add_one, hki, List.mem_append]
      simp
    obtain ⟨_, oS, esS, epS, tS, hoS, _, hdS, _⟩ := id hset'
    refine wpAny_pure ⟨plainId_quiet F.plain_set_update_loop _, ih (i + 1) _ _ (by omega) hlt (W.frame _ s' _ _ hst' (Nat.le_add_right _ _) fun c hc o e => ?_) hset2 (by omega) htk (fun j c k e1 e2 => key_stay (hkeys' j c k e1 e2) hoS hdS sb) fun s'' D2 mv2 hS2 => ?_⟩
    · rw [sb.2 c (fun z : c = S => hS (z ▸ hc))]
      exact e
    · refine hR s'' D2 (Moved.trans W.gtrans ((mv.mono more).then_heap (Nat.le_add_right _ _) fun c o hc e => ?_) mv2) hS2
      rw [sb.2 c (fun z : c = S => hc (by rw [z]; exact List.mem_cons_self))]
      exact e
end
end L2
set_option Elab.async false
set_option linter.all false
set_option maxRecDepth 100000
set_option maxHeartbeats 4000000
namespace L2
open PySem PySem.Spec PyProof.Rows
section
variable {P : Program} {w : World} {A : Around} {E : Value → Shared → Prop} {s : Shared}
abbrev setO (led : Bool) : Obj := { cls := .type "set", dict := none, data := .set #[] 0 (.fresh 0 0 led) }
def SetMade (P : Program) (w : World) (s : Shared) (bs : List Addr) (kk D : List (List Key)) (h' : Heap) : Prop :=
  SetT P w (fun b k => ∃ j : Nat, bs[j]? = some b ∧ kk[j]? = some k) h' s.heap.objs.size D ∧ (∀ k, k ∈ D ↔ k ∈ kk) ∧ ∀ b o, b < s.heap.objs.size → s.heap.get? b = some o → h'.get? b = some o
theorem sub_tup_fz : isSubtype (.type "tuple") (.type "frozenset") = pure false := by
  rw [isSubtype_type]
  kernel_rfl
theorem set_of_tuple {t : Addr} {ys : Array Value} {bs : List Addr} {kk : List (List Key)} {Q : Value → Shared → Prop} (hA : A.handled = none) (hu : A.units + 5 < cLine) (gt : s.heap.IsTuple t ys) (hb : ys.toList = bs.map Value.ref)
    (hn : kk.length = ys.size) (hz : ys.size < 1400) (hkey : ∀ (j : Nat) (b : Addr) (k : List Key), bs[j]? = some b → kk[j]? = some k → IsTupleKey (mixKind P w) s.heap k b)
    (h : ∀ (h' : Heap) (tk : Nat) (D : List (List Key)), SetMade P w s bs kk D h' → Q (.ref s.heap.objs.size) { s with heap := h', toks := tk }) : wpAny (model P w) A (call (.type "set") [.ref t]) Q E s := by
  have x1 := F.called_set.notType
  have x2 := F.called_set.canCreate
  have x3 := F.typeCall_set_1 (.ref t)
  have x4 := F.called_set.made
  have x5 := F.called_set.sub
  obtain ⟨c, tl, x6⟩ := F.called_set.mro
  refine wpAny_call (codeAny_of_tree ?_)
  show wpAny _ _ (callAny (.type "set") _) _ _ _
  refine wpAny_pure ⟨Code.quiet_builtin _ (by decide +kernel), codeAny_builtin F.entry_type_call ?_⟩
  rw [Around.under_plain (weight_type_call_type "set" [.ref t] []) rfl]
  repeat (any_goals (first | assumption | wp_step))
  refine codeAny_mono (code_set_new_1 (.ref t) (E := E) (Q₁ := fun v s1 => ∃ led, v = .ref s.heap.objs.size ∧ s1 = { s with heap := s.heap.push (setO led) }) fun led => ⟨led, rfl, rfl⟩) fun r s1 hr => ?_
  cases r with
  | error e => exact hr
  | ok fl =>
    cases fl with
    | ret v =>
      obtain ⟨led, rfl, rfl⟩ := hr
      have gS : (s.heap.push (setO led)).get? s.heap.objs.size = some (setO led) := Heap.get?_push_size _ rfl
      have hT : Shared.TypeIs { s with heap := s.heap.push (setO led) } (.ref s.heap.objs.size) "set" := ⟨_, gS, rfl⟩
      have x7 := F.called_set.init.lookup
      have x8 := F.called_set.init.bind (.ref s.heap.objs.size)
      repeat (any_goals (first | assumption | wp_step))
      refine codeAny_mono (codeAny_call_builtin (R := wants (fun r s2 => r = .none ∧ ∃ h' tk D, s2 = { s with heap := h', toks := tk } ∧ SetMade P w s bs kk D h') E) F.called_set.init.plain F.entry_set_init (check_set_init_1 hT ?_)) fun r2 s2 hr2 => ?_
      · have g1 : (s.heap.push (setO led)).IsTuple t ys := gt.push _
        have hlt : t < s.heap.objs.size := by
          obtain ⟨o, ho, _⟩ := gt
          exact Heap.lt_size ho
        obtain ⟨ol, hol, hcl, nl, hdl⟩ := id g1
        obtain ⟨c0, d0, dt, sl⟩ := ol
        simp only at hcl hdl
        subst hcl hdl
        have y1 := F.sub_tuple_set
        have y2 := sub_tup_fz
        have y3 : (Value.type "tuple" == Value.type "dict") = false := by decide
        unfold Builtin.«set.__init__» noKeywords Builtin.Frozenset.updateFrom
        generalize hit : pyIter = PI
        wp_walk
        subst hit
        refine wpAny_pyIter_tuple g1 ?_
        refine wpAny_bind (wpAny_runValue ?_)
        have e1 : (s.heap.push (setO led)).objs.size = s.heap.objs.size + 1 := Heap.size_push _ _
        have hA3 : A.in1.in1.in1.handled = none := by simp [hA]
        have hne : t ≠ (s.heap.push (setO led)).objs.size := by
          rw [e1]
          exact Nat.ne_of_lt (Nat.lt_succ_of_lt hlt)
        have hSf : s.heap.objs.size ∉ [(s.heap.push (setO led)).objs.size, t] := by
          intro z
          rcases List.mem_cons.mp z with z | z
          · rw [e1] at z
            exact Nat.ne_of_lt (Nat.lt_succ_self _) z
          · exact Nat.ne_of_gt hlt (List.mem_singleton.mp z)
        have hbs : ∀ i : Nat, ys[i]? = (bs[i]?).map Value.ref := fun i => by
          rw [← Array.getElem?_toList, hb, List.getElem?_map]
        refine set_loop (B := fun b k => ∃ j : Nat, bs[j]? = some b ∧ kk[j]? = some k) ((Walks.tuple hA3 _ t hne ys).toS) s.heap.objs.size hSf (by simp only [Around.in1_units]; omega) bs kk hn (fun j b k q1 q2 => ⟨j, q1, q2⟩) hz (fun i v hv => ?_) (fun i s' hs b hb' o ho => ?_) (ys.size - 0) 0 _ [] (by omega) (Nat.zero_le _) ⟨⟨_, Heap.get?_push_size _ rfl, rfl, rfl⟩, g1.push _⟩ ⟨List.nodup_nil, setO led, #[], 0, _, Heap.get?_push_of_some _ gS, ⟨rfl, rfl, rfl⟩, rfl, rfl, .inl rfl, (show 0 * 5 < 7 * 3 by decide), rfl, (by rw [Array.map_empty]; exact Tb.TOk.nil 7), fun e he => (by simp at he), fun k hk => (by cases hk), fun _ => .inl rfl⟩ (Nat.le_refl _) (fun k => by simp) (fun j b k e1 e2 => ?_) fun s' D mv hS' hD => ?_
        · have hv' : ys[i]? = some v := hv
          rw [hbs i] at hv'
          obtain ⟨b, e, rfl⟩ := Option.map_eq_some_iff.mp hv'
          exact ⟨b, rfl, e⟩
        · cases List.mem_singleton.mp hb'
          obtain ⟨o', ho', _, hd'⟩ := hs.1
          rw [ho'] at ho
          cases ho
          exact ⟨_, hd'⟩
        · obtain ⟨o, items, q, ho, r⟩ := hkey j b k e1 e2
          exact ⟨o, items, q, Heap.get?_push_of_some _ (Heap.get?_push_of_some _ ho), r⟩
        · obtain ⟨h', g', d', tk', os'⟩ := s'
          have q1 : g' = s.gens := mv.gens
          have q2 : d' = s.drawn := mv.drawn
          have q3 : os' = s.os := mv.os
          subst q1 q2 q3
          show wpAny _ _ _ _ _ _
          refine wpAny_pure ?_
          show wpAny _ _ (ret Value.none) _ _ _
          refine wpAny_pure ⟨rfl, h', tk', D, rfl, hS', hD, fun b o hb e => mv.heap b o (fun z => ?_) (Heap.get?_push_of_some _ (Heap.get?_push_of_some _ e))⟩
          rcases List.mem_cons.mp z with z | z
          · exact Nat.ne_of_lt hb z
          · have z := List.mem_singleton.mp z
            rw [e1] at z
            exact Nat.ne_of_lt (Nat.lt_succ_of_lt hb) z
      · cases r2 with
        | error e => exact hr2
        | ok f2 =>
          cases f2 with
          | ret r =>
            obtain ⟨rfl, h', tk, D, rfl, hS'⟩ := hr2
            repeat (any_goals (first | assumption | wp_step))
            exact h _ _ D hS'
          | _ => exact hr2.elim
    | _ => exact hr.elim
theorem set_of_list {t : Addr} {ys : Array Value} {bs : List Addr} {kk : List (List Key)} {Q : Value → Shared → Prop} (hA : A.handled = none) (hu : A.units + 5 < cLine) (gt : s.heap.IsList t ys) (hb : ys.toList = bs.map Value.ref)
    (hn : kk.length = ys.size) (hz : ys.size < 1400) (hkey : ∀ (j : Nat) (b : Addr) (k : List Key), bs[j]? = some b → kk[j]? = some k → IsTupleKey (mixKind P w) s.heap k b)
    (h : ∀ (h' : Heap) (tk : Nat) (D : List (List Key)), SetMade P w s bs kk D h' → Q (.ref s.heap.objs.size) { s with heap := h', toks := tk }) : wpAny (model P w) A (call (.type "set") [.ref t]) Q E s := by
  have x1 := F.called_set.notType
  have x2 := F.called_set.canCreate
  have x3 := F.typeCall_set_1 (.ref t)
  have x4 := F.called_set.made
  have x5 := F.called_set.sub
  obtain ⟨c, tl, x6⟩ := F.called_set.mro
  refine wpAny_call (codeAny_of_tree ?_)
  show wpAny _ _ (callAny (.type "set") _) _ _ _
  refine wpAny_pure ⟨Code.quiet_builtin _ (by decide +kernel), codeAny_builtin F.entry_type_call ?_⟩
  rw [Around.under_plain (weight_type_call_type "set" [.ref t] []) rfl]
  repeat (any_goals (first | assumption | wp_step))
  refine codeAny_mono (code_set_new_1 (.ref t) (E := E) (Q₁ := fun v s1 => ∃ led, v = .ref s.heap.objs.size ∧ s1 = { s with heap := s.heap.push (setO led) }) fun led => ⟨led, rfl, rfl⟩) fun r s1 hr => ?_
  cases r with
  | error e => exact hr
  | ok fl =>
    cases fl with
    | ret v =>
      obtain ⟨led, rfl, rfl⟩ := hr
      have gS : (s.heap.push (setO led)).get? s.heap.objs.size = some (setO led) := Heap.get?_push_size _ rfl
      have hT : Shared.TypeIs { s with heap := s.heap.push (setO led) } (.ref s.heap.objs.size) "set" := ⟨_, gS, rfl⟩
      have x7 := F.called_set.init.lookup
      have x8 := F.called_set.init.bind (.ref s.heap.objs.size)
      repeat (any_goals (first | assumption | wp_step))
      refine codeAny_mono (codeAny_call_builtin (R := wants (fun r s2 => r = .none ∧ ∃ h' tk D, s2 = { s with heap := h', toks := tk } ∧ SetMade P w s bs kk D h') E) F.called_set.init.plain F.entry_set_init (check_set_init_1 hT ?_)) fun r2 s2 hr2 => ?_
      · have g1 : (s.heap.push (setO led)).IsList t ys := gt.push _
        have hlt : t < s.heap.objs.size := by
          obtain ⟨o, ho, _⟩ := gt
          exact Heap.lt_size ho
        obtain ⟨ol, hol, hcl, nl, hdl⟩ := id g1
        obtain ⟨c0, d0, dt, sl⟩ := ol
        simp only at hcl hdl
        subst hcl hdl
        have y1 := F.sub_list_set
        have y2 := F.sub_list_frozenset
        have y3 : (Value.type "list" == Value.type "dict") = false := by decide
        unfold Builtin.«set.__init__» noKeywords Builtin.Frozenset.updateFrom
        generalize hit : pyIter = PI
        wp_walk
        subst hit
        refine wpAny_pyIter_list g1 ?_
        refine wpAny_bind (wpAny_runValue ?_)
        have e1 : (s.heap.push (setO led)).objs.size = s.heap.objs.size + 1 := Heap.size_push _ _
        have hA3 : A.in1.in1.in1.handled = none := by simp [hA]
        have hne : t ≠ (s.heap.push (setO led)).objs.size := by
          rw [e1]
          exact Nat.ne_of_lt (Nat.lt_succ_of_lt hlt)
        have hSf : s.heap.objs.size ∉ [(s.heap.push (setO led)).objs.size, t] := by
          intro z
          rcases List.mem_cons.mp z with z | z
          · rw [e1] at z
            exact Nat.ne_of_lt (Nat.lt_succ_self _) z
          · exact Nat.ne_of_gt hlt (List.mem_singleton.mp z)
        have hbs : ∀ i : Nat, ys[i]? = (bs[i]?).map Value.ref := fun i => by
          rw [← Array.getElem?_toList, hb, List.getElem?_map]
        refine set_loop (B := fun b k => ∃ j : Nat, bs[j]? = some b ∧ kk[j]? = some k) ((Walks.list hA3 _ t hne ys).toS) s.heap.objs.size hSf (by simp only [Around.in1_units]; omega) bs kk hn (fun j b k q1 q2 => ⟨j, q1, q2⟩) hz (fun i v hv => ?_) (fun i s' hs b hb' o ho => ?_) (ys.size - 0) 0 _ [] (by omega) (Nat.zero_le _) ⟨⟨_, Heap.get?_push_size _ rfl, rfl, rfl⟩, g1.push _⟩ ⟨List.nodup_nil, setO led, #[], 0, _, Heap.get?_push_of_some _ gS, ⟨rfl, rfl, rfl⟩, rfl, rfl, .inl rfl, (show 0 * 5 < 7 * 3 by decide), rfl, (by rw [Array.map_empty]; exact Tb.TOk.nil 7), fun e he => (by simp at he), fun k hk => (by cases hk), fun _ => .inl rfl⟩ (Nat.le_refl _) (fun k => by simp) (fun j b k e1 e2 => ?_) fun s' D mv hS' hD => ?_
        · have hv' : ys[i]? = some v := hv
          rw [hbs i] at hv'
          obtain ⟨b, e, rfl⟩ := Option.map_eq_some_iff.mp hv'
          exact ⟨b, rfl, e⟩
        · cases List.mem_singleton.mp hb'
          obtain ⟨o', ho', _, hd'⟩ := hs.1
          rw [ho'] at ho
          cases ho
          exact ⟨_, hd'⟩
        · obtain ⟨o, items, q, ho, r⟩ := hkey j b k e1 e2
          exact ⟨o, items, q, Heap.get?_push_of_some _ (Heap.get?_push_of_some _ ho), r⟩
        · obtain ⟨h', g', d', tk', os'⟩ := s'
          have q1 : g' = s.gens := mv.gens
          have q2 : d' = s.drawn := mv.drawn
          have q3 : os' = s.os := mv.os
          subst q1 q2 q3
          show wpAny _ _ _ _ _ _
          refine wpAny_pure ?_
          show wpAny _ _ (ret Value.none) _ _ _
          refine wpAny_pure ⟨rfl, h', tk', D, rfl, hS', hD, fun b o hb e => mv.heap b o (fun z => ?_) (Heap.get?_push_of_some _ (Heap.get?_push_of_some _ e))⟩
          rcases List.mem_cons.mp z with z | z
          · exact Nat.ne_of_lt hb z
          · have z := List.mem_singleton.mp z
            rw [e1] at z
            exact Nat.ne_of_lt (Nat.lt_succ_of_lt hb) z
      · cases r2 with
        | error e => exact hr2
        | ok f2 =>
          cases f2 with
          | ret r =>
            obtain ⟨rfl, h', tk, D, rfl, hS'⟩ := hr2
            repeat (any_goals (first | assumption | wp_step))
            exact h _ _ D hS'
          | _ => exact hr2.elim
    | _ => exact hr.elim
end
end L2
set_option Elab.async false
set_option linter.all false
set_option maxRecDepth 100000
set_option maxHeartbeats 4000000
namespace L2
open PySem PySem.Spec PyProof.Rows
namespace SF
theorem entry_set_iter : entryFor table "set.__iter__" = some Builtin.«frozenset.__iter__» := entryFor_alias (id' := "frozenset.__iter__") (by kernel_rfl) rfl (by decide +kernel) (by kernel_rfl)
theorem args_set_iter (a : Value) : argsOk "set.__iter__" ⟨[a], []⟩ := by unfold argsOk; kernel_rfl
theorem slot_next : Slot "set_iterator" "__next__" "set_iterator.__next__" :=
  .of (owner := "set_iterator") (n := "__next__") (by rw [typeLookup_type, builtinLookup_eq_fast]; kernel_rfl) (by decide +kernel) (by decide +kernel) (by decide +kernel)
    (by first | exact .inl (by decide +kernel) | exact .inr (by decide +kernel)) (by rw [isSubtype_type]; kernel_rfl)
theorem entry_next : entryFor table "set_iterator.__next__" = some Builtin.«set_iterator.__next__» := entryFor_of_fast (by kernel_rfl)
theorem args_next (a : Value) : argsOk "set_iterator.__next__" ⟨[a], []⟩ := by unfold argsOk; kernel_rfl
theorem slot_iter : Slot "set_iterator" "__iter__" "set_iterator.__iter__" :=
  .of (owner := "set_iterator") (n := "__iter__") (by rw [typeLookup_type, builtinLookup_eq_fast]; kernel_rfl) (by decide +kernel) (by decide +kernel) (by decide +kernel)
    (by first | exact .inl (by decide +kernel) | exact .inr (by decide +kernel)) (by rw [isSubtype_type]; kernel_rfl)
theorem entry_iter : entryFor table "set_iterator.__iter__" = some Builtin.«dict_keyiterator.__iter__» := entryFor_alias (id' := "dict_keyiterator.__iter__") (by kernel_rfl) rfl (by decide +kernel) (by kernel_rfl)
theorem args_iter (a : Value) : argsOk "set_iterator.__iter__" ⟨[a], []⟩ := by unfold argsOk; kernel_rfl
end SF
section
variable {P : Program} {w : World} {A : Around} {E : Value → Shared → Prop} {s : Shared}
theorem wp_choose1 {n : Nat} {Q : Nat → Shared → Prop} (hn : n ≠ 0) (h : ∀ i d, i < n → Q i { s with drawn := d }) : wpAny (model P w) A (choose .order n) Q E s := fun Γ p hΓ => by
  unfold choose
  rw [Sem.wp_choose]
  exact ⟨hn, by rw [Sem.wp_pure]; exact h _ _ (Nat.mod_lt _ (Nat.pos_of_ne_zero hn))⟩
theorem erase_perm {α : Type} : ∀ {l : List α} {i : Nat} (h : i < l.length), (l[i] :: l.eraseIdx i).Perm l
  | [], i, h => by cases h
  | x :: l, 0, h => .refl _
  | x :: l, i + 1, h => by
    have := erase_perm (l := l) (i := i) (Nat.lt_of_succ_lt_succ h)
    exact (List.Perm.swap _ _ _).trans (this.cons x)
theorem wp_drawOrder {α : Type} : ∀ (n : Nat) (xs : List α) (s : Shared) {Q : List α → Shared → Prop}, n = xs.length → (∀ ys d, ys.Perm xs → Q ys { s with drawn := d }) → wpAny (model P w) A (drawOrder n xs) Q E s
  | 0, xs, s, Q, hn, h => by
    obtain rfl := List.length_eq_zero_iff.mp hn.symm
    unfold drawOrder
    exact wpAny_pure (h [] s.drawn (.refl _))
  | n + 1, [], s, Q, hn, h => by cases hn
  | n + 1, x :: xs, s, Q, hn, h => by
    unfold drawOrder
    refine wpAny_bind (wp_choose1 (by simp) fun i d hi => ?_)
    have e : (x :: xs)[i]? = some (x :: xs)[i] := List.getElem?_eq_getElem hi
    rw [e]
    dsimp only
    refine wpAny_bind (wp_drawOrder n _ { s with drawn := d } (by rw [List.length_eraseIdx_of_lt hi, ← hn]; rfl) fun ys d' hp => wpAny_pure (h _ d' ?_))
    exact (List.Perm.cons _ hp).trans (erase_perm hi)
theorem pick_go {α : Type} (next : Nat → Nat) : ∀ (fuel k : Nat) (left : List α) (out : Array α), fuel = left.length → (pickOrder.go next fuel k left out).toList.Perm (out.toList ++ left)
  | 0, k, left, out, h => by
    obtain rfl := List.length_eq_zero_iff.mp h.symm
    unfold pickOrder.go
    rw [List.append_nil]
  | fuel + 1, k, left, out, h => by
    unfold pickOrder.go
    have hlt : next k % left.length < left.length := Nat.mod_lt _ (by omega)
    rw [List.getElem?_eq_getElem hlt]
    dsimp only
    refine (pick_go next fuel (k + 1) _ _ (by rw [List.length_eraseIdx_of_lt hlt]; omega)).trans ?_
    rw [Array.toList_push, List.append_assoc]
    exact (erase_perm hlt).append_left _
theorem pick_perm {α : Type} (next : Nat → Nat) (xs : Array α) : (pickOrder next xs).toList.Perm xs.toList := by
  have := pick_go next xs.size 0 xs.toList #[] (by simp)
  rw [List.nil_append] at this
  exact this
end
end L2
set_option Elab.async false
set_option linter.all false
set_option maxRecDepth 100000
set_option maxHeartbeats 4000000
namespace L2
open PySem PySem.Spec PyProof.Rows
section
variable {P : Program} {w : World} {A : Around} {E : Value → Shared → Prop} {s : Shared}
abbrev itO (a : Addr) (first : Value) (i n ep : Nat) : Obj := { cls := .type "set_iterator", data := .fields #[first, rawInt i, .ref a, rawInt n, rawInt ep] }
theorem stop_end {it : Addr} {h1 : Heap} {Q : Option Value → Shared → Prop} (hh : A.handled = none) (he : Heap.ExtBut it s.heap h1) (hQ : ∀ h', Heap.ExtBut it s.heap h' → Q none { s with heap := h' }) :
    wpAny (model P w) A.in1 (newExc (.type "StopIteration") [] >>= raiseNew) (fun r s' => ∃ v, r = Fin.done (.ret v) ∧ wpAny (model P w) A (pure (some v)) Q E s') (fun e s' => wpAny (model P w) A (do if ← isInstance e (.type "StopIteration") then pure none else throw e) Q E s') { s with heap := h1 } := by
  refine wpAny_bind ?_
  simp only [newExc, newTuple]
  refine wpAny_bind (wpAny_newObj_type ?_ (by size_fits))
  refine wpAny_bind (m := firstArgMember _ _) (wpAny_of_eq (a := Value.none) (by first | rfl | (simp only [firstArgMember]; rfl)) ?_)
  refine wpAny_newObj_type ?_ (by size_fits)
  simp only [raiseNew]
  refine wpAny_bind (wpAny_handled ?_)
  rw [show A.in1.handled = none from hh]
  refine wpAny_bind (wpAny_pure (wpAny_throw ?_))
  refine wpAny_bind (wpAny_isInstance (T := "StopIteration") (b := true) ⟨_, Heap.get?_push_size _ rfl, rfl⟩ isSubtype_stop ?_)
  exact wpAny_pure (hQ _ ((he.push _).push _))
theorem fld_set {it a : Addr} {first x : Value} {i n ep k : Nat} {f' : Array Value} {h : Heap} (ho : h.get? it = some (itO a first i n ep)) (hf : (#[first, rawInt i, .ref a, rawInt n, rawInt ep] : Array Value).setIfInBounds k x = f') :
    (h.update it (Obj.mapFields (·.setIfInBounds k x))).get? it = some { cls := .type "set_iterator", data := .fields f' } := by
  have := Heap.get?_update_self (Obj.mapFields (·.setIfInBounds k x)) ho (Obj.isFreed_of_fields (Obj.data_mapFields rfl _))
  rw [this, ← hf]
  rfl
theorem next_text {it a : Addr} {i ep : Nat} {o : Obj} {es : Array (Int × Value)} {t : SetTable} {Q : Option Value → Shared → Prop} (hT : w.params.followText "set-order" = true) (hit : s.heap.get? it = some (itO a (rawInt 0) i es.size ep)) (ho : s.heap.get? a = some o) (hd : o.data = .set es ep t) (hf : t.fits es.size = true)
    {x : Int × Value} (hx : (pickOrder (w.params.setOrder a ep) es)[i]? = some x) (hQ : ∀ h', h'.get? it = some (itO a (rawInt 0) (i + 1) es.size ep) → Heap.SameBut it s.heap h' → Q (some x.2) { s with heap := h' }) : wpAny (model P w) A (pyNext (.ref it)) Q E s := by
  have T : s.TypeIs (.ref it) "set_iterator" := ⟨_, hit, rfl⟩
  unfold pyNext
  refine wpAny_bind (wpAny_attempt (wpAny_callSpecial?_slot (name := Str.ofString "__next__") T SF.slot_next (wpAny_call_entry SF.slot_next T SF.entry_next ?_ (SF.args_next _))))
  show wpAny _ _ (fieldsOf (.ref it) >>= _) _ _ s
  refine wpAny_bind (wpAny_fieldsOf hit rfl ?_)
  show wpAny _ _ (setEntries a >>= _) _ _ s
  unfold setEntries
  refine wpAny_bind (wpAny_bind (wpAny_setState_of ho hd hf (wpAny_pure ?_)))
  rw [if_neg (by simp)]
  show wpAny _ _ (setNext a 0 _ _ >>= _) _ _ s
  unfold setNext
  refine wpAny_bind (wpAny_bind (wpAny_setState_of ho hd hf ?_))
  dsimp only
  unfold setsByText
  refine wpAny_bind (wpAny_bind (wpAny_askSetting (wpAny_pure ?_)))
  rw [show (model P w).w.params.followText "set-order" = true from hT]
  simp only [if_true]
  rw [if_neg (by simp)]
  unfold setWalk
  refine wpAny_bind (wpAny_bind (wpAny_setState_of ho hd hf ?_))
  dsimp only
  unfold setsByText
  refine wpAny_bind (wpAny_bind (wpAny_askSetting (wpAny_pure ?_)))
  rw [show (model P w).w.params.followText "set-order" = true from hT]
  simp only [if_true]
  refine wpAny_bind (wpAny_askSetting (wpAny_pure ?_))
  rw [Int.toNat_natCast]
  have hx' : (pickOrder ((model P w).w.params.setOrder a ep) es)[i]? = some x := hx
  rw [hx']
  refine wpAny_pure ?_
  dsimp only [Option.map_some, Option.map_none]
  refine wpAny_bind (wpAny_setField hit rfl (by simp) ?_)
  have e1 := fld_set (k := 0) (x := rawInt (0 : Nat)) hit rfl
  have e1' : (s.heap.update it (Obj.mapFields (·.setIfInBounds 0 (rawInt (0 : Nat))))).get? it = some (itO a (rawInt 0) i es.size ep) := e1
  refine wpAny_bind (wpAny_setField (s := { s with heap := s.heap.update it (Obj.mapFields (·.setIfInBounds 0 (rawInt (0 : Nat)))) }) e1' rfl (by simp) ?_)
  have e2 := fld_set (k := 1) (x := rawInt ((i : Int) + 1)) e1' rfl
  refine wpAny_pure ⟨_, rfl, wpAny_pure (hQ _ ?_ ((Heap.SameBut.update ..).trans (Heap.SameBut.update ..)))⟩
  exact e2
theorem end_text {it a : Addr} {i ep : Nat} {o : Obj} {es : Array (Int × Value)} {t : SetTable} {Q : Option Value → Shared → Prop} (hh : A.handled = none) (hT : w.params.followText "set-order" = true) (hit : s.heap.get? it = some (itO a (rawInt 0) i es.size ep)) (ho : s.heap.get? a = some o) (hd : o.data = .set es ep t) (hf : t.fits es.size = true)
    (hx : (pickOrder (w.params.setOrder a ep) es)[i]? = none) (hQ : ∀ h', Heap.ExtBut it s.heap h' → Q none { s with heap := h' }) : wpAny (model P w) A (pyNext (.ref it)) Q E s := by
  have T : s.TypeIs (.ref it) "set_iterator" := ⟨_, hit, rfl⟩
  unfold pyNext
  refine wpAny_bind (wpAny_attempt (wpAny_callSpecial?_slot (name := Str.ofString "__next__") T SF.slot_next (wpAny_call_entry SF.slot_next T SF.entry_next ?_ (SF.args_next _))))
  show wpAny _ _ (fieldsOf (.ref it) >>= _) _ _ s
  refine wpAny_bind (wpAny_fieldsOf hit rfl ?_)
  show wpAny _ _ (setEntries a >>= _) _ _ s
  unfold setEntries
  refine wpAny_bind (wpAny_bind (wpAny_setState_of ho hd hf (wpAny_pure ?_)))
  rw [if_neg (by simp)]
  show wpAny _ _ (setNext a 0 _ _ >>= _) _ _ s
  unfold setNext
  refine wpAny_bind (wpAny_bind (wpAny_setState_of ho hd hf ?_))
  dsimp only
  unfold setsByText
  refine wpAny_bind (wpAny_bind (wpAny_askSetting (wpAny_pure ?_)))
  rw [show (model P w).w.params.followText "set-order" = true from hT]
  simp only [if_true]
  rw [if_neg (by simp)]
  unfold setWalk
  refine wpAny_bind (wpAny_bind (wpAny_setState_of ho hd hf ?_))
  dsimp only
  unfold setsByText
  refine wpAny_bind (wpAny_bind (wpAny_askSetting (wpAny_pure ?_)))
  rw [show (model P w).w.params.followText "set-order" = true from hT]
  simp only [if_true]
  refine wpAny_bind (wpAny_askSetting (wpAny_pure ?_))
  rw [Int.toNat_natCast]
  have hx' : (pickOrder ((model P w).w.params.setOrder a ep) es)[i]? = none := hx
  rw [hx']
  refine wpAny_pure ?_
  dsimp only [Option.map_some, Option.map_none]
  refine wpAny_bind (wpAny_setField hit rfl (by simp) ?_)
  exact stop_end (s := s) (it := it) hh (Heap.SameBut.update ..).extBut hQ
theorem next_drawn {it a : Addr} {i ep : Nat} {o : Obj} {es : Array (Int × Value)} {t : SetTable} {Q : Option Value → Shared → Prop} {T0 : Addr} {ys : List Nat} (hT0 : s.heap.get? T0 = some (seqObj "tuple" (ys.map fun (i : Nat) => rawInt i).toArray 0)) (hit : s.heap.get? it = some (itO a (.ref T0) i es.size ep)) (ho : s.heap.get? a = some o) (hd : o.data = .set es ep t) (hf : t.fits es.size = true)
    {y : Nat} {x : Int × Value} (hy : ys[i]? = some y) (hx : es[y]? = some x) (hQ : ∀ h', h'.get? it = some (itO a (.ref T0) (i + 1) es.size ep) → Heap.SameBut it s.heap h' → Q (some x.2) { s with heap := h' }) : wpAny (model P w) A (pyNext (.ref it)) Q E s := by
  have T : s.TypeIs (.ref it) "set_iterator" := ⟨_, hit, rfl⟩
  unfold pyNext
  refine wpAny_bind (wpAny_attempt (wpAny_callSpecial?_slot (name := Str.ofString "__next__") T SF.slot_next (wpAny_call_entry SF.slot_next T SF.entry_next ?_ (SF.args_next _))))
  show wpAny _ _ (fieldsOf (.ref it) >>= _) _ _ s
  refine wpAny_bind (wpAny_fieldsOf hit rfl ?_)
  show wpAny _ _ (setEntries a >>= _) _ _ s
  unfold setEntries
  refine wpAny_bind (wpAny_bind (wpAny_setState_of ho hd hf (wpAny_pure ?_)))
  rw [if_neg (by simp)]
  show wpAny _ _ (seqItems? (.ref T0) >>= _) _ _ s
  refine wpAny_bind (wpAny_seqItems hT0 rfl ?_)
  dsimp only
  rw [Int.toNat_natCast]
  have hpl : ((ys.map fun (i : Nat) => rawInt i).toArray : Array Value)[i]? = some (rawInt y) := by
    rw [List.getElem?_toArray, List.getElem?_map, hy]
    rfl
  rw [hpl]
  show wpAny _ _ (setNextDrawn a _ _ >>= _) _ _ s
  unfold setNextDrawn
  refine wpAny_bind (wpAny_bind (wpAny_setState_of ho hd hf ?_))
  dsimp only
  rw [if_neg (by simp)]
  simp only [Int.toNat_natCast]
  rw [hx]
  refine wpAny_pure ?_
  refine wpAny_bind (wpAny_setField hit rfl (by simp) ?_)
  have e2 := fld_set (k := 1) (x := rawInt ((i : Int) + 1)) hit rfl
  exact wpAny_pure ⟨_, rfl, wpAny_pure (hQ _ e2 (Heap.SameBut.update ..))⟩
theorem end_drawn {it a : Addr} {i ep : Nat} {o : Obj} {es : Array (Int × Value)} {t : SetTable} {Q : Option Value → Shared → Prop} {T0 : Addr} {ys : List Nat} (hh : A.handled = none) (hT0 : s.heap.get? T0 = some (seqObj "tuple" (ys.map fun (i : Nat) => rawInt i).toArray 0)) (hit : s.heap.get? it = some (itO a (.ref T0) i es.size ep)) (ho : s.heap.get? a = some o) (hd : o.data = .set es ep t) (hf : t.fits es.size = true)
    (hy : ys[i]? = none) (hQ : ∀ h', Heap.ExtBut it s.heap h' → Q none { s with heap := h' }) : wpAny (model P w) A (pyNext (.ref it)) Q E s := by
  have T : s.TypeIs (.ref it) "set_iterator" := ⟨_, hit, rfl⟩
  unfold pyNext
  refine wpAny_bind (wpAny_attempt (wpAny_callSpecial?_slot (name := Str.ofString "__next__") T SF.slot_next (wpAny_call_entry SF.slot_next T SF.entry_next ?_ (SF.args_next _))))
  show wpAny _ _ (fieldsOf (.ref it) >>= _) _ _ s
  refine wpAny_bind (wpAny_fieldsOf hit rfl ?_)
  show wpAny _ _ (setEntries a >>= _) _ _ s
  unfold setEntries
  refine wpAny_bind (wpAny_bind (wpAny_setState_of ho hd hf (wpAny_pure ?_)))
  rw [if_neg (by simp)]
  show wpAny _ _ (seqItems? (.ref T0) >>= _) _ _ s
  refine wpAny_bind (wpAny_seqItems hT0 rfl ?_)
  dsimp only
  rw [Int.toNat_natCast]
  have hpl : ((ys.map fun (i : Nat) => rawInt i).toArray : Array Value)[i]? = none := by
    rw [List.getElem?_toArray, List.getElem?_map, hy]
    rfl
  rw [hpl]
  refine wpAny_bind (wpAny_setField hit rfl (by simp) ?_)
  have e1 := fld_set (k := 0) (x := rawInt 0) hit rfl
  have e1' : (s.heap.update it (Obj.mapFields (·.setIfInBounds 0 (rawInt 0)))).get? it = some (itO a (rawInt 0) i es.size ep) := e1
  refine wpAny_bind (wpAny_setField (s := { s with heap := s.heap.update it (Obj.mapFields (·.setIfInBounds 0 (rawInt 0))) }) e1' rfl (by simp) ?_)
  exact stop_end (s := s) (it := it) hh ((Heap.SameBut.update ..).trans (Heap.SameBut.update ..)).extBut hQ
theorem self_set {it a : Addr} {first : Value} {i n ep : Nat} {Q : Value → Shared → Prop} (hit : s.heap.get? it = some (itO a first i n ep)) (h : Q (.ref it) s) : wpAny (model P w) A (pyIter (.ref it)) Q E s := by
  have T : s.TypeIs (.ref it) "set_iterator" := ⟨_, hit, rfl⟩
  refine wpAny_pyIter_slot T SF.slot_iter (wpAny_call_entry SF.slot_iter T SF.entry_iter ?_ (SF.args_iter _))
  show wpAny _ _ (ret (.ref it)) _ _ s
  exact wpAny_pure ⟨_, rfl, "set_iterator", _, T, SF.slot_next.lookup, h⟩
theorem walk_text (hh : A.handled = none) (hT : w.params.followText "set-order" = true) (I a : Addr) (hne : a ≠ I) {o : Obj} {es : Array (Int × Value)} {ep : Nat} {t : SetTable} (hd : o.data = .set es ep t) (hf : t.fits es.size = true) :
    Walks P w A I [I, a] [I] es.size (fun i v => ∃ x, (pickOrder (w.params.setOrder a ep) es)[i]? = some x ∧ v = x.2) (fun i h => h.get? I = some (itO a (rawInt 0) i es.size ep) ∧ h.get? a = some o) where
  sub := fun b hb => by simp at hb; simp [hb]
  frame := fun _ _ _ st hk => ⟨hk I (by simp) _ st.1, hk a (by simp) _ st.2⟩
  item := fun i s Q E hi st hQ => by
    have hl : (pickOrder (w.params.setOrder a ep) es).size = es.size := by
      rw [← Array.length_toList, (pick_perm _ es).length_eq, Array.length_toList]
    have hx := getElem?_pos (pickOrder (w.params.setOrder a ep) es) i (by omega)
    refine next_text hT st.1 st.2 hd hf hx fun h' hit' sb => ?_
    exact hQ _ h' s.toks ⟨_, hx, rfl⟩ ⟨hit', (sb.2 a hne).trans st.2⟩ fun b o hb e => sb.extBut b o (fun h => hb (by simp [h])) e
  done := fun s Q E st hQ => by
    have hl : (pickOrder (w.params.setOrder a ep) es).size = es.size := by
      rw [← Array.length_toList, (pick_perm _ es).length_eq, Array.length_toList]
    exact end_text hh hT st.1 st.2 hd hf (Array.getElem?_eq_none (by omega)) fun h' he' => hQ h' s.toks fun b o hb e => he' b o (fun h => hb (by simp [h])) e
  self := fun _ _ _ _ st hQ => self_set st.1 hQ
theorem walk_drawn (hh : A.handled = none) (I a T0 : Addr) (hne : a ≠ I) (hneT : T0 ≠ I) {o : Obj} {es : Array (Int × Value)} {ep : Nat} {t : SetTable} {ys : List Nat} (hd : o.data = .set es ep t) (hf : t.fits es.size = true) (hy : ys.Perm (List.range es.size)) :
    Walks P w A I [I, a, T0] [I] es.size (fun i v => ∃ y x, ys[i]? = some y ∧ es[y]? = some x ∧ v = x.2) (fun i h => h.get? I = some (itO a (.ref T0) i es.size ep) ∧ h.get? a = some o ∧ h.get? T0 = some (seqObj "tuple" (ys.map fun (i : Nat) => rawInt i).toArray 0)) where
  sub := fun b hb => by simp at hb; simp [hb]
  frame := fun _ _ _ st hk => ⟨hk I (by simp) _ st.1, hk a (by simp) _ st.2.1, hk T0 (by simp) _ st.2.2⟩
  item := fun i s Q E hi st hQ => by
    have hl : ys.length = es.size := by rw [hy.length_eq, List.length_range]
    have hyi := List.getElem?_eq_getElem (l := ys) (i := i) (by omega)
    have hlt : ys[i] < es.size := List.mem_range.mp (hy.mem_iff.mp (List.getElem_mem (by omega)))
    have hx := getElem?_pos es ys[i] hlt
    refine next_drawn st.2.2 st.1 st.2.1 hd hf hyi hx fun h' hit' sb => ?_
    exact hQ _ h' s.toks ⟨_, _, hyi, hx, rfl⟩ ⟨hit', (sb.2 a hne).trans st.2.1, (sb.2 T0 hneT).trans st.2.2⟩ fun b o hb e => sb.extBut b o (fun h => hb (by simp [h])) e
  done := fun s Q E st hQ => by
    have hl : ys.length = es.size := by rw [hy.length_eq, List.length_range]
    exact end_drawn hh st.2.2 st.1 st.2.1 hd hf (List.getElem?_eq_none (by omega)) fun h' he' => hQ h' s.toks fun b o hb e => he' b o (fun h => hb (by simp [h])) e
  self := fun _ _ _ _ st hQ => self_set st.1 hQ
theorem iter_set {a : Addr} {o : Obj} {es : Array (Int × Value)} {ep : Nat} {t : SetTable} {Q : Value → Shared → Prop} (ho : s.heap.get? a = some o) (hex : o.ExactSet) (hd : o.data = .set es ep t) (hf : t.fits es.size = true) (hpl : t.plain = false) (h2 : 2 ≤ es.size) (hsz : es.size ≤ sizeLine)
    (hT : w.params.followText "set-order" = true → Q (.ref s.heap.objs.size) { s with heap := s.heap.push (itO a (rawInt 0) 0 es.size ep) })
    (hD : w.params.followText "set-order" = false → ∀ (ys : List Nat) d, ys.Perm (List.range es.size) → Q (.ref (s.heap.objs.size + 1)) { s with heap := (s.heap.push (seqObj "tuple" (ys.map fun (i : Nat) => rawInt i).toArray 0)).push (itO a (.ref s.heap.objs.size) 0 es.size ep), drawn := d }) :
    wpAny (model P w) A (pyIter (.ref a)) Q E s := by
  have T : s.TypeIs (.ref a) "set" := ⟨o, ho, hex.1⟩
  refine wpAny_pyIter_slot T F.slot_set_iter (wpAny_call_entry F.slot_set_iter T SF.entry_set_iter ?_ (SF.args_set_iter _))
  show wpAny _ _ (Builtin.Frozenset.sizeOf a >>= _) _ _ s
  unfold Builtin.Frozenset.sizeOf setEntries
  refine wpAny_bind (wpAny_bind (wpAny_bind (wpAny_setState_of ho hd hf (wpAny_pure (wpAny_pure ?_)))))
  show wpAny _ _ (setDrawn a >>= _) _ _ s
  unfold setDrawn
  refine wpAny_bind (wpAny_bind (wpAny_setState_of ho hd hf ?_))
  dsimp only
  unfold setsByText
  refine wpAny_bind (wpAny_bind (wpAny_askSetting (wpAny_pure (wpAny_pure ?_))))
  cases hq : w.params.followText "set-order"
  · rw [if_pos (by
      show (!(w.params.followText "set-order") && (!t.plain && decide (es.size > 1))) = true
      rw [hq, hpl, decide_eq_true (by omega)]
      rfl)]
    refine wpAny_bind (wp_drawOrder _ _ s (by rw [List.length_range]) fun ys d hp => ?_)
    have hyl : ys.length = es.size := by rw [hp.length_eq, List.length_range]
    simp only [newTuple]
    refine wpAny_bind (wpAny_newObj_type ?_ (by show (List.map _ ys).toArray.size ≤ sizeLine; rw [List.size_toArray, List.length_map, hyl]; exact hsz))
    unfold setEpoch
    refine wpAny_bind (wpAny_bind (wpAny_setState_of (s := { s with heap := s.heap.push (seqObj "tuple" (ys.map fun (i : Nat) => rawInt i).toArray 0), drawn := d }) (Heap.get?_push_of_some _ ho) hd hf (wpAny_pure ?_)))
    simp only [newFields]
    have hs1 : (s.heap.push (seqObj "tuple" (ys.map fun (i : Nat) => rawInt i).toArray 0)).objs.size = s.heap.objs.size + 1 := Heap.size_push _ _
    refine wpAny_bind (wpAny_newObj_type (wpAny_pure ⟨_, rfl, "set_iterator", _, ⟨_, Heap.get?_push_size _ rfl, rfl⟩, SF.slot_next.lookup, ?_⟩) (by size_fits))
    have := hD hq ys d hp
    rw [← hs1] at this
    exact this
  · rw [if_neg (by
      show ¬ (!(w.params.followText "set-order") && (!t.plain && decide (es.size > 1))) = true
      rw [hq]
      simp)]
    refine wpAny_bind (wpAny_pure ?_)
    unfold setEpoch
    refine wpAny_bind (wpAny_bind (wpAny_setState_of ho hd hf (wpAny_pure ?_)))
    simp only [newFields]
    refine wpAny_bind (wpAny_newObj_type (wpAny_pure ⟨_, rfl, "set_iterator", _, ⟨_, Heap.get?_push_size _ rfl, rfl⟩, SF.slot_next.lookup, ?_⟩) (by size_fits))
    exact hT hq
end
end L2
set_option Elab.async false
set_option linter.all false
set_option maxRecDepth 100000
set_option maxHeartbeats 4000000
namespace PyProof.Rows
open PySem
def gallop' : Bool → Keyed → Array Keyed → Nat → Nat → Nat → StateT SortSt Sem (Option Nat) := sortPriv% PySem.Builtin.gallop
def mergeLo' : Array Keyed → Array Keyed → StateT SortSt Sem (Array Keyed) := sortPriv% PySem.Builtin.mergeLo
def mergeHi' : Array Keyed → Array Keyed → StateT SortSt Sem (Array Keyed) := sortPriv% PySem.Builtin.mergeHi
abbrev setGal (st : SortSt) (g : Nat) : SortSt := SortSt.mk' (kindOf st) (arrOf st) (pendingOf st) g (failedOf st)
def beyond' (left : Bool) (key : Keyed) (arr : Array Keyed) (base i : Nat) : StateT SortSt Sem (Option Bool) := do
    let x ← elem' arr (base + i)
    if left then lt' x key else return (← lt' key x).map (!·)
theorem gallop'_eq (left : Bool) (key : Keyed) (arr : Array Keyed) (base n hint : Nat) : gallop' left key arr base n hint = (do
  let mut lastofs := 0
  let mut ofs := 1
  let mut lo := 0
  let mut hi := 0
  let some right ← beyond' left key arr base hint | return none
  if right then
    let maxofs := n - hint
    for _ in [0:n] do
      if ofs ≥ maxofs then break
      let some more ← beyond' left key arr base (hint + ofs) | return none
      if !more then break
      lastofs := ofs
      ofs := 2 * ofs + 1
    lo := hint + lastofs + 1
    hi := hint + min ofs maxofs
  else
    let maxofs := hint + 1
    for _ in [0:n] do
      if ofs ≥ maxofs then break
      let some found ← beyond' left key arr base (hint - ofs) | return none
      if found then break
      lastofs := ofs
      ofs := 2 * ofs + 1
    lo := hint + 1 - min ofs maxofs
    hi := hint - lastofs
  for _ in [0:n] do
    if lo ≥ hi then break
    let m := lo + (hi - lo) / 2
    let some more ← beyond' left key arr base m | return none
    if more then lo := m + 1 else hi := m
  return some hi) := rfl
section
variable {prog : Program} {w : World} {A : Around} {E : Value → Shared → Prop} {s : Shared} {κ : SortKind} {X : Keyed → Prop}
def CmpOk (prog : Program) (w : World) (A : Around) (s : Shared) (κ : SortKind) (X : Keyed → Prop) : Prop :=
  ∀ x y, X x → X y → ∀ (Q : Bool → Shared → Prop) (E : Value → Shared → Prop), (∀ b, Q b s) → wpAny (model prog w) A (keyLt' κ x.1 y.1) Q E s
def AllX (X : Keyed → Prop) (xs : Array Keyed) : Prop := ∀ p ∈ xs.toList, X p
theorem AllX.at {xs : Array Keyed} (h : AllX X xs) {i : Nat} (hi : i < xs.size) : X xs[i] := h _ (by simp)
theorem AllX.perm {xs ys : Array Keyed} (h : AllX X xs) (hp : ys.Perm xs) : AllX X ys := fun p hp' => h p ((Array.perm_iff_toList_perm.mp hp).mem_iff.mp hp')
theorem AllX.extract {xs : Array Keyed} (h : AllX X xs) (i j : Nat) : AllX X (xs.extract i j) := fun p hp => by
  rw [Array.toList_extract] at hp
  exact h p (List.mem_of_mem_drop (List.mem_of_mem_take hp))
theorem wpS_ltX {st : SortSt} {x y : Keyed} {Q : Option Bool → SortSt → Prop} (hc : CmpOk prog w A s κ X) (hk : kindOf st = κ) (hx : X x) (hy : X y) (h : ∀ b, Q (some b) st) : wpS (model prog w) A E s (lt' x y) Q st := by
  rw [lt'_eq]
  refine wpS_bind (wpS_get ?_)
  rw [hk]
  refine wpS_bind (wpS_lift (wpAny_attempt (hc x y hx hy _ _ fun b => ⟨rfl, ?_⟩)))
  exact wpS_pure (h b)
theorem wpS_elem {st : SortSt} {arr : Array Keyed} {i : Nat} {Q : Keyed → SortSt → Prop} (hi : i < arr.size) (h : Q arr[i] st) : wpS (model prog w) A E s (elem' arr i) Q st := by
  rw [elem'_eq, getElem?_pos arr i hi]
  exact wpS_pure h
theorem wpS_ltAtX {st : SortSt} {i j : Nat} {Q : Option Bool → SortSt → Prop} (hc : CmpOk prog w A s κ X) (hk : kindOf st = κ) (ha : AllX X (arrOf st)) (hi : i < (arrOf st).size) (hj : j < (arrOf st).size) (h : ∀ b, Q (some b) st) : wpS (model prog w) A E s (ltAt' i j) Q st := by
  rw [ltAt'_eq]
  refine wpS_bind (wpS_get ?_)
  exact wpS_bind (wpS_elem hi (wpS_bind (wpS_elem hj (wpS_ltX hc hk (ha.at hi) (ha.at hj) h))))
theorem wpS_beyond {st : SortSt} {left : Bool} {key : Keyed} {arr : Array Keyed} {base i : Nat} {Q : Option Bool → SortSt → Prop} (hc : CmpOk prog w A s κ X) (hk : kindOf st = κ) (hx : X key) (ha : AllX X arr) (hi : base + i < arr.size) (h : ∀ b, Q (some b) st) : wpS (model prog w) A E s (beyond' left key arr base i) Q st := by
  unfold beyond'
  refine wpS_bind (wpS_elem hi ?_)
  cases left
  · simp only [Bool.false_eq_true, if_false]
    exact wpS_bind (wpS_ltX hc hk hx (ha.at hi) fun b => wpS_pure (h _))
  · simp only [if_true]
    exact wpS_ltX hc hk (ha.at hi) hx h
theorem wpS_gallop {st : SortSt} {left : Bool} {key : Keyed} {arr : Array Keyed} {base n hint : Nat} {Q : Option Nat → SortSt → Prop} (hc : CmpOk prog w A s κ X) (hk : kindOf st = κ) (hx : X key) (ha : AllX X arr) (hh : hint < n) (hb : base + n ≤ arr.size)
    (h : ∀ k, k ≤ n → Q (some k) st) : wpS (model prog w) A E s (gallop' left key arr base n hint) Q st := by
  rw [gallop'_eq]
  dsimp only
  refine wpS_bind (wpS_beyond hc hk hx ha (by omega) fun b => ?_)
  cases b
  · simp only [Bool.false_eq_true, if_false]
    refine wpS_bind (wpS_mono (wpS_forRange (I := fun _ c st' => st' = st ∧ c.1 = none) (Q := fun c st' => st' = st ∧ c.1 = none) ?_ (fun _ _ z => z) ⟨rfl, rfl⟩) ?_)
    · rintro i ⟨r, l, u⟩ st' _ _ ⟨rfl, hr⟩
      dsimp only at hr ⊢
      by_cases hge : u ≥ hint + 1
      · rw [if_pos hge]
        exact wpS_pure ⟨rfl, rfl⟩
      · rw [if_neg hge]
        refine wpS_bind (wpS_beyond hc hk hx ha (by omega) fun b => ?_)
        cases b
        · exact wpS_pure ⟨rfl, rfl⟩
        · exact wpS_pure ⟨rfl, rfl⟩
    · rintro ⟨r, l, u⟩ st' ⟨rfl, hr⟩
      dsimp only at hr ⊢
      subst hr
      dsimp only
      refine wpS_bind (wpS_mono (wpS_forRange (I := fun _ c st2 => st2 = st' ∧ c.1 = none ∧ c.2.2 ≤ n) (Q := fun c st2 => st2 = st' ∧ c.1 = none ∧ c.2.2 ≤ n) ?_ (fun _ _ z => z) ⟨rfl, rfl, by dsimp only; omega⟩) ?_)
      · rintro i ⟨r, l, u⟩ st' _ _ ⟨rfl, hr, hu⟩
        dsimp only at hr hu ⊢
        by_cases hge : l ≥ u
        · rw [if_pos hge]
          exact wpS_pure ⟨rfl, rfl, hu⟩
        · rw [if_neg hge]
          refine wpS_bind (wpS_beyond hc hk hx ha (by omega) fun b => ?_)
          cases b
          · exact wpS_pure ⟨rfl, rfl, by dsimp only; omega⟩
          · exact wpS_pure ⟨rfl, rfl, hu⟩
      · rintro ⟨r, l, u⟩ st' ⟨rfl, hr, hu⟩
        dsimp only at hr hu ⊢
        subst hr
        exact wpS_pure (h u hu)
  · simp only [if_true]
    refine wpS_bind (wpS_mono (wpS_forRange (I := fun _ c st' => st' = st ∧ c.1 = none) (Q := fun c st' => st' = st ∧ c.1 = none) ?_ (fun _ _ z => z) ⟨rfl, rfl⟩) ?_)
    · rintro i ⟨r, l, u⟩ st' _ _ ⟨rfl, hr⟩
      dsimp only at hr ⊢
      by_cases hge : u ≥ n - hint
      · rw [if_pos hge]
        exact wpS_pure ⟨rfl, rfl⟩
      · rw [if_neg hge]
        refine wpS_bind (wpS_beyond hc hk hx ha (by omega) fun b => ?_)
        cases b
        · exact wpS_pure ⟨rfl, rfl⟩
        · exact wpS_pure ⟨rfl, rfl⟩
    · rintro ⟨r, l, u⟩ st' ⟨rfl, hr⟩
      dsimp only at hr ⊢
      subst hr
      dsimp only
      refine wpS_bind (wpS_mono (wpS_forRange (I := fun _ c st2 => st2 = st' ∧ c.1 = none ∧ c.2.2 ≤ n) (Q := fun c st2 => st2 = st' ∧ c.1 = none ∧ c.2.2 ≤ n) ?_ (fun _ _ z => z) ⟨rfl, rfl, by dsimp only; omega⟩) ?_)
      · rintro i ⟨r, l, u⟩ st' _ _ ⟨rfl, hr, hu⟩
        dsimp only at hr hu ⊢
        by_cases hge : l ≥ u
        · rw [if_pos hge]
          exact wpS_pure ⟨rfl, rfl, hu⟩
        · rw [if_neg hge]
          refine wpS_bind (wpS_beyond hc hk hx ha (by omega) fun b => ?_)
          cases b
          · exact wpS_pure ⟨rfl, rfl, by dsimp only; omega⟩
          · exact wpS_pure ⟨rfl, rfl, hu⟩
      · rintro ⟨r, l, u⟩ st' ⟨rfl, hr, hu⟩
        dsimp only at hr hu ⊢
        subst hr
        exact wpS_pure (h u hu)
def setMinGallop' : Nat → StateT SortSt Sem Unit := sortPriv% PySem.Builtin.setMinGallop
theorem setMinGallop'_eq (g : Nat) : setMinGallop' g = modify fun s => setGal s g := rfl
def loDone (a b out : Array Keyed) (ia ib : Nat) : Array Keyed := out ++ a.extract ia a.size ++ b.extract ib b.size
def loLast (a b out : Array Keyed) (ia ib : Nat) : Array Keyed := out ++ b.extract ib b.size ++ a.extract ia a.size
theorem mergeLo'_eq (a b : Array Keyed) : mergeLo' a b = (do
  rule "list.sort.merge-lo"
  let total := a.size + b.size
  let mut out : Array Keyed := #[← elem' b 0]
  let mut ia := 0
  let mut ib := 1
  if ib == b.size then return loDone a b out ia ib
  if ia + 1 == a.size then return loLast a b out ia ib
  let mut minGallop := gallopOf (← get)
  for _ in [0:total] do
    let mut acount := 0
    let mut bcount := 0
    for _ in [0:total] do
      let some bWins ← lt' (← elem' b ib) (← elem' a ia) | return loDone a b out ia ib
      if bWins then
        out := out.push (← elem' b ib); ib := ib + 1; bcount := bcount + 1; acount := 0
        if ib == b.size then return loDone a b out ia ib
        if bcount ≥ minGallop then break
      else
        out := out.push (← elem' a ia); ia := ia + 1; acount := acount + 1; bcount := 0
        if ia + 1 == a.size then return loLast a b out ia ib
        if acount ≥ minGallop then break
    rule "list.sort.gallop"
    minGallop := minGallop + 1
    for _ in [0:total] do
      if minGallop > 1 then minGallop := minGallop - 1
      setMinGallop' minGallop
      let some k ← gallop' false (← elem' b ib) a ia (a.size - ia) 0 | return loDone a b out ia ib
      acount := k
      if k > 0 then
        out := out ++ a.extract ia (ia + k); ia := ia + k
        if ia + 1 == a.size then return loLast a b out ia ib
        if ia == a.size then return loDone a b out ia ib
      out := out.push (← elem' b ib); ib := ib + 1
      if ib == b.size then return loDone a b out ia ib
      let some k ← gallop' true (← elem' a ia) b ib (b.size - ib) 0 | return loDone a b out ia ib
      bcount := k
      if k > 0 then
        out := out ++ b.extract ib (ib + k); ib := ib + k
        if ib == b.size then return loDone a b out ia ib
      out := out.push (← elem' a ia); ia := ia + 1
      if ia + 1 == a.size then return loLast a b out ia ib
      if acount < 7 && bcount < 7 then break
    minGallop := minGallop + 1
    setMinGallop' minGallop
  unsupported "internal:list.sort.merge-bound") := rfl
def hiDone (a b out : Array Keyed) (na nb : Nat) : Array Keyed := a.extract 0 na ++ b.extract 0 nb ++ out.reverse
def hiFirst (a b out : Array Keyed) (na nb : Nat) : Array Keyed := b.extract 0 nb ++ a.extract 0 na ++ out.reverse
theorem mergeHi'_eq (a b : Array Keyed) : mergeHi' a b = (do
  rule "list.sort.merge-hi"
  let total := a.size + b.size
  let mut na := a.size - 1
  let mut nb := b.size
  let mut out : Array Keyed := #[← elem' a na]
  if na == 0 then return hiDone a b out na nb
  if nb == 1 then return hiFirst a b out na nb
  let mut minGallop := gallopOf (← get)
  for _ in [0:total] do
    let mut acount := 0
    let mut bcount := 0
    for _ in [0:total] do
      let some aWins ← lt' (← elem' b (nb - 1)) (← elem' a (na - 1)) | return hiDone a b out na nb
      if aWins then
        na := na - 1; out := out.push (← elem' a na); acount := acount + 1; bcount := 0
        if na == 0 then return hiDone a b out na nb
        if acount ≥ minGallop then break
      else
        nb := nb - 1; out := out.push (← elem' b nb); bcount := bcount + 1; acount := 0
        if nb == 1 then return hiFirst a b out na nb
        if bcount ≥ minGallop then break
    rule "list.sort.gallop"
    minGallop := minGallop + 1
    for _ in [0:total] do
      if minGallop > 1 then minGallop := minGallop - 1
      setMinGallop' minGallop
      let some at_ ← gallop' false (← elem' b (nb - 1)) a 0 na (na - 1) | return hiDone a b out na nb
      let k := na - at_
      acount := k
      if k > 0 then
        out := out ++ (a.extract at_ na).reverse; na := at_
        if na == 0 then return hiDone a b out na nb
      nb := nb - 1; out := out.push (← elem' b nb)
      if nb == 1 then return hiFirst a b out na nb
      let some at_ ← gallop' true (← elem' a (na - 1)) b 0 nb (nb - 1) | return hiDone a b out na nb
      let k := nb - at_
      bcount := k
      if k > 0 then
        out := out ++ (b.extract at_ nb).reverse; nb := at_
        if nb == 1 then return hiFirst a b out na nb
        if nb == 0 then return hiDone a b out na nb
      na := na - 1; out := out.push (← elem' a na)
      if na == 0 then return hiDone a b out na nb
      if acount < 7 && bcount < 7 then break
    minGallop := minGallop + 1
    setMinGallop' minGallop
  unsupported "internal:list.sort.merge-bound") := rfl
theorem mergeAt'_eq (i : Nat) : mergeAt' i = (do
  let s ← get
  let (some (sa, na, power), some (sb, nb, _)) := ((pendingOf s)[i]?, (pendingOf s)[i + 1]?) | unsupported "internal:list.sort.pending"
  set (setPending s (((pendingOf s).setIfInBounds i (sa, na + nb, power)).eraseIdxIfInBounds (i + 1)))
  let some k ← gallop' false (← elem' (arrOf s) sb) (arrOf s) sa na 0 | return false
  let (sa, na) := (sa + k, na - k)
  if na == 0 then return true
  let some nb ← gallop' true (← elem' (arrOf s) (sa + na - 1)) (arrOf s) sb nb (nb - 1) | return false
  if nb == 0 then return true
  let x := (arrOf s).extract sa sb
  let y := (arrOf s).extract sb (sb + nb)
  let merged ← if na ≤ nb then mergeLo' x y else mergeHi' x y
  modify fun s => setArr s (merged.toList.zipIdx.foldl (fun a (p, j) => a.setIfInBounds (sa + j) p) (arrOf s))
  return (failedOf (← get)).isNone) := rfl
open Classical in
theorem mid_perm {α : Type} (p q r u : List α) : (p ++ (q ++ (r ++ u))).Perm (p ++ (r ++ (q ++ u))) := by
  rw [List.perm_iff_count]
  intro x
  simp only [List.count_append]
  omega
def PL (a b out : Array Keyed) (ia ib : Nat) : Prop := (out.toList ++ (a.toList.drop ia ++ b.toList.drop ib)).Perm (a.toList ++ b.toList)
theorem ext_all (a : Array Keyed) (i : Nat) : (a.extract i a.size).toList = a.toList.drop i := by
  rw [Array.toList_extract]
  show List.take (a.size - i) (a.toList.drop i) = _
  rw [List.take_of_length_le]
  rw [List.length_drop, Array.length_toList]
  exact Nat.le_refl _
theorem loDone_perm {a b out : Array Keyed} {ia ib : Nat} (h : PL a b out ia ib) : (loDone a b out ia ib).toList.Perm (a.toList ++ b.toList) := by
  unfold loDone
  rw [Array.toList_append, Array.toList_append, ext_all, ext_all, List.append_assoc]
  exact h
theorem loLast_perm {a b out : Array Keyed} {ia ib : Nat} (h : PL a b out ia ib) : (loLast a b out ia ib).toList.Perm (a.toList ++ b.toList) := by
  unfold loLast
  rw [Array.toList_append, Array.toList_append, ext_all, ext_all, List.append_assoc]
  exact (List.perm_append_comm.append_left _).trans h
theorem PL.pushA {a b out : Array Keyed} {ia ib : Nat} (h : PL a b out ia ib) (hi : ia < a.size) : PL a b (out.push a[ia]) (ia + 1) ib := by
  unfold PL at h ⊢
  rw [List.drop_eq_getElem_cons (by simpa using hi)] at h
  rw [Array.toList_push, List.append_assoc]
  simpa using h
theorem PL.pushB {a b out : Array Keyed} {ia ib : Nat} (h : PL a b out ia ib) (hi : ib < b.size) : PL a b (out.push b[ib]) ia (ib + 1) := by
  unfold PL at h ⊢
  rw [List.drop_eq_getElem_cons (l := b.toList) (by simpa using hi)] at h
  rw [Array.toList_push, List.append_assoc]
  refine List.Perm.trans ?_ h
  have := mid_perm out.toList [b[ib]] (a.toList.drop ia) (b.toList.drop (ib + 1))
  simpa using this
theorem drop_ext (a : Array Keyed) (i k : Nat) : (a.extract i (i + k)).toList ++ a.toList.drop (i + k) = a.toList.drop i := by
  rw [Array.toList_extract]
  show List.take (i + k - i) (a.toList.drop i) ++ _ = _
  rw [Nat.add_sub_cancel_left, ← List.drop_drop, List.take_append_drop]
theorem PL.manyA {a b out : Array Keyed} {ia ib : Nat} (h : PL a b out ia ib) (k : Nat) : PL a b (out ++ a.extract ia (ia + k)) (ia + k) ib := by
  unfold PL at h ⊢
  rw [← drop_ext a ia k] at h
  rw [Array.toList_append, List.append_assoc, ← List.append_assoc (a.extract ia (ia + k)).toList]
  exact h
theorem PL.manyB {a b out : Array Keyed} {ia ib : Nat} (h : PL a b out ia ib) (k : Nat) : PL a b (out ++ b.extract ib (ib + k)) ia (ib + k) := by
  unfold PL at h ⊢
  rw [← drop_ext b ib k] at h
  rw [Array.toList_append, List.append_assoc]
  exact (mid_perm _ _ _ _).trans h
def Sm (st st' : SortSt) : Prop := kindOf st' = kindOf st ∧ arrOf st' = arrOf st ∧ pendingOf st' = pendingOf st ∧ failedOf st' = failedOf st
theorem wpS_setGal {st : SortSt} {g : Nat} {Q : Unit → SortSt → Prop} (h : Q () (setGal st g)) : wpS (model prog w) A E s (setMinGallop' g) Q st := by
  rw [setMinGallop'_eq]
  exact wpS_modify h
theorem wpS_mergeLo {a b : Array Keyed} {st : SortSt} {Q : Array Keyed → SortSt → Prop} (hc : CmpOk prog w A s κ X) (hk : kindOf st = κ) (ha : AllX X a) (hb : AllX X b) (ha0 : 0 < a.size) (hb0 : 0 < b.size)
    (h : ∀ m st', Sm st st' → m.toList.Perm (a.toList ++ b.toList) → Q m st') : wpS (model prog w) A E s (mergeLo' a b) Q st := by
  rw [mergeLo'_eq]
  dsimp only
  have p0 : PL a b #[b[0]] 0 1 := by
    have : PL a b (#[] : Array Keyed) 0 0 := by
      unfold PL
      simp
    simpa using this.pushB hb0
  refine wpS_bind (wpS_lift (wpAny_rule ⟨rfl, wpS_bind (wpS_elem hb0 ?_)⟩))
  by_cases n1 : (1 == b.size) = true
  · rw [if_pos n1]
    exact wpS_pure (h _ _ ⟨rfl, rfl, rfl, rfl⟩ (loDone_perm p0))
  rw [if_neg n1]
  by_cases n2 : (0 + 1 == a.size) = true
  · rw [if_pos n2]
    exact wpS_pure (h _ _ ⟨rfl, rfl, rfl, rfl⟩ (loLast_perm p0))
  rw [if_neg n2]
  have n1 : ¬ 1 = b.size := fun e => n1 (by rw [← e]; rfl)
  have n2 : ¬ 1 = a.size := fun e => n2 (by rw [← e]; rfl)
  refine wpS_bind (wpS_get (wpS_bind (wpS_mono (wpS_forRange (I := fun x c st' => Sm st st' ∧ c.1 = none ∧ PL a b c.2.1 c.2.2.1 c.2.2.2.1 ∧ c.2.2.1 + 1 < a.size ∧ c.2.2.2.1 < b.size ∧ x + 1 ≤ c.2.2.1 + c.2.2.2.1)
    (Q := fun c st' => Sm st st' ∧ ∃ m, c.1 = some m ∧ m.toList.Perm (a.toList ++ b.toList)) ?_ ?_ ⟨⟨rfl, rfl, rfl, rfl⟩, rfl, p0, by dsimp only; omega, by dsimp only; omega, Nat.le_refl _⟩) ?_)))
  · rintro x ⟨r, out, ia, ib, mg⟩ st1 _ hx ⟨hS, hr, hP, h1, h2, h3⟩
    dsimp only at hr hP h1 h2 h3 ⊢
    refine wpS_bind (wpS_mono (wpS_forRange (I := fun y c st' => Sm st st' ∧ c.1 = none ∧ PL a b c.2.1 c.2.2.1 c.2.2.2.1 ∧ c.2.2.1 + 1 < a.size ∧ c.2.2.2.1 < b.size ∧ x + 1 + min y 1 ≤ c.2.2.1 + c.2.2.2.1)
      (Q := fun c st' => Sm st st' ∧ ((∃ m, c.1 = some m ∧ m.toList.Perm (a.toList ++ b.toList)) ∨ (c.1 = none ∧ PL a b c.2.1 c.2.2.1 c.2.2.2.1 ∧ c.2.2.1 + 1 < a.size ∧ c.2.2.2.1 < b.size ∧ x + 2 ≤ c.2.2.1 + c.2.2.2.1))) ?_ ?_ ⟨hS, rfl, hP, h1, h2, by simpa using h3⟩) ?_)
    · clear hP h1 h2 h3 hS
      rintro y ⟨r, out, ia, ib, ac, bc⟩ st2 _ _ ⟨hS, hr, hP, h1, h2, h3⟩
      dsimp only at hr hP h1 h2 h3 ⊢
      refine wpS_bind (wpS_elem h2 (wpS_bind (wpS_elem (by omega) (wpS_bind (wpS_ltX hc (hS.1.trans hk) (hb.at h2) (ha.at (by omega)) fun c => ?_)))))
      cases c
      · simp only [Bool.false_eq_true, if_false]
        refine wpS_bind (wpS_elem (by omega) ?_)
        have hP' := hP.pushA (show ia < a.size by omega)
        split
        · exact wpS_pure ⟨hS, .inl ⟨_, rfl, loLast_perm hP'⟩⟩
        · rename_i hne
          simp only [beq_iff_eq] at hne
          split
          · exact wpS_pure ⟨hS, .inr ⟨rfl, hP', by dsimp only; omega, h2, by dsimp only; omega⟩⟩
          · exact wpS_pure ⟨hS, rfl, hP', by dsimp only; omega, h2, by dsimp only; omega⟩
      · simp only [if_true]
        refine wpS_bind (wpS_elem h2 ?_)
        have hP' := hP.pushB h2
        split
        · exact wpS_pure ⟨hS, .inl ⟨_, rfl, loDone_perm hP'⟩⟩
        · rename_i hne
          simp only [beq_iff_eq] at hne
          split
          · exact wpS_pure ⟨hS, .inr ⟨rfl, hP', h1, by dsimp only; omega, by dsimp only; omega⟩⟩
          · exact wpS_pure ⟨hS, rfl, hP', h1, by dsimp only; omega, by dsimp only; omega⟩
    · rintro c st2 ⟨hS, hr, hP, h1, h2, h3⟩
      exact ⟨hS, .inr ⟨hr, hP, h1, h2, by omega⟩⟩
    · clear hP h1 h2 h3 hS
      rintro ⟨r, out, ia, ib, ac, bc⟩ st2 ⟨hS, ⟨m, hr, hm⟩ | ⟨hr, hP, h1, h2, h3⟩⟩
      · dsimp only at hr ⊢
        subst hr
        exact wpS_pure ⟨hS, m, rfl, hm⟩
      dsimp only at hr hP h1 h2 h3 ⊢
      subst hr
      dsimp only
      refine wpS_bind (wpS_lift (wpAny_rule ⟨rfl, ?_⟩))
      refine wpS_bind (wpS_mono (wpS_forRange (I := fun y c st' => Sm st st' ∧ c.1 = none ∧ PL a b c.2.1 c.2.2.1 c.2.2.2.1 ∧ c.2.2.1 + 1 < a.size ∧ c.2.2.2.1 < b.size ∧ x + 2 ≤ c.2.2.1 + c.2.2.2.1)
        (Q := fun c st' => Sm st st' ∧ ((∃ m, c.1 = some m ∧ m.toList.Perm (a.toList ++ b.toList)) ∨ (c.1 = none ∧ PL a b c.2.1 c.2.2.1 c.2.2.2.1 ∧ c.2.2.1 + 1 < a.size ∧ c.2.2.2.1 < b.size ∧ x + 2 ≤ c.2.2.1 + c.2.2.2.1))) ?_ (fun c st2 z => ⟨z.1, .inr z.2⟩) ⟨hS, rfl, hP, h1, h2, h3⟩) ?_)
      · clear hP h1 h2 h3 hS
        rintro y ⟨r, out, ia, ib, mg, ac, bc⟩ st2 _ _ ⟨hS, hr, hP, h1, h2, h3⟩
        dsimp only at hr hP h1 h2 h3 ⊢
        by_cases cg : mg > 1
        · rw [if_pos cg]
          refine wpS_bind (wpS_setGal ?_)
          refine wpS_bind (wpS_elem h2 (wpS_bind (wpS_gallop hc (hS.1.trans hk) (hb.at h2) ha (by omega) (by omega) fun k hkk => ?_)))
          have hP1 := hP.manyA k
          dsimp only
          by_cases c0 : k > 0
          · rw [if_pos c0]
            by_cases c1 : (ia + k + 1 == a.size) = true
            · rw [if_pos c1]
              exact wpS_pure ⟨hS, .inl ⟨_, rfl, loLast_perm hP1⟩⟩
            rw [if_neg c1]
            have c1 : ¬ ia + k + 1 = a.size := fun e => c1 (by rw [e]; exact beq_self_eq_true _)
            by_cases c7 : (ia + k == a.size) = true
            · rw [if_pos c7]
              exact wpS_pure ⟨hS, .inl ⟨_, rfl, loDone_perm hP1⟩⟩
            rw [if_neg c7]
            have c7 : ¬ ia + k = a.size := fun e => c7 (by rw [e]; exact beq_self_eq_true _)
            refine wpS_bind (wpS_elem h2 ?_)
            have hP2 := hP1.pushB h2
            by_cases c2 : (ib + 1 == b.size) = true
            · rw [if_pos c2]
              exact wpS_pure ⟨hS, .inl ⟨_, rfl, loDone_perm hP2⟩⟩
            rw [if_neg c2]
            have c2 : ¬ ib + 1 = b.size := fun e => c2 (by rw [e]; exact beq_self_eq_true _)
            refine wpS_bind (wpS_elem (by omega) (wpS_bind (wpS_gallop hc (hS.1.trans hk) (ha.at (by omega)) hb (by omega) (by omega) fun k2 hk2 => ?_)))
            dsimp only
            have hP3 := hP2.manyB k2
            by_cases c3 : k2 > 0
            · rw [if_pos c3]
              by_cases c4 : (ib + 1 + k2 == b.size) = true
              · rw [if_pos c4]
                exact wpS_pure ⟨hS, .inl ⟨_, rfl, loDone_perm hP3⟩⟩
              rw [if_neg c4]
              have c4 : ¬ ib + 1 + k2 = b.size := fun e => c4 (by rw [e]; exact beq_self_eq_true _)
              refine wpS_bind (wpS_elem (by omega) ?_)
              have hP4 := hP3.pushA (show ia + k < a.size by omega)
              by_cases c5 : (ia + k + 1 + 1 == a.size) = true
              · rw [if_pos c5]
                exact wpS_pure ⟨hS, .inl ⟨_, rfl, loLast_perm hP4⟩⟩
              rw [if_neg c5]
              have c5 : ¬ ia + k + 1 + 1 = a.size := fun e => c5 (by rw [e]; exact beq_self_eq_true _)
              split
              · exact wpS_pure ⟨hS, .inr ⟨rfl, hP4, by dsimp only; omega, by dsimp only; omega, by dsimp only; omega⟩⟩
              · exact wpS_pure ⟨hS, rfl, hP4, by dsimp only; omega, by dsimp only; omega, by dsimp only; omega⟩
            rw [if_neg c3]
            refine wpS_bind (wpS_elem (by omega) ?_)
            have hP4 := hP2.pushA (show ia + k < a.size by omega)
            by_cases c5 : (ia + k + 1 + 1 == a.size) = true
            · rw [if_pos c5]
              exact wpS_pure ⟨hS, .inl ⟨_, rfl, loLast_perm hP4⟩⟩
            rw [if_neg c5]
            have c5 : ¬ ia + k + 1 + 1 = a.size := fun e => c5 (by rw [e]; exact beq_self_eq_true _)
            split
            · exact wpS_pure ⟨hS, .inr ⟨rfl, hP4, by dsimp only; omega, by dsimp only; omega, by dsimp only; omega⟩⟩
            · exact wpS_pure ⟨hS, rfl, hP4, by dsimp only; omega, by dsimp only; omega, by dsimp only; omega⟩
          rw [if_neg c0]
          refine wpS_bind (wpS_elem h2 ?_)
          have hP2 := hP.pushB h2
          by_cases c2 : (ib + 1 == b.size) = true
          · rw [if_pos c2]
            exact wpS_pure ⟨hS, .inl ⟨_, rfl, loDone_perm hP2⟩⟩
          rw [if_neg c2]
          have c2 : ¬ ib + 1 = b.size := fun e => c2 (by rw [e]; exact beq_self_eq_true _)
          refine wpS_bind (wpS_elem (by omega) (wpS_bind (wpS_gallop hc (hS.1.trans hk) (ha.at (by omega)) hb (by omega) (by omega) fun k2 hk2 => ?_)))
          dsimp only
          have hP3 := hP2.manyB k2
          by_cases c3 : k2 > 0
          · rw [if_pos c3]
            by_cases c4 : (ib + 1 + k2 == b.size) = true
            · rw [if_pos c4]
              exact wpS_pure ⟨hS, .inl ⟨_, rfl, loDone_perm hP3⟩⟩
            rw [if_neg c4]
            have c4 : ¬ ib + 1 + k2 = b.size := fun e => c4 (by rw [e]; exact beq_self_eq_true _)
            refine wpS_bind (wpS_elem (by omega) ?_)
            have hP4 := hP3.pushA (show ia < a.size by omega)
            by_cases c5 : (ia + 1 + 1 == a.size) = true
            · rw [if_pos c5]
              exact wpS_pure ⟨hS, .inl ⟨_, rfl, loLast_perm hP4⟩⟩
            rw [if_neg c5]
            have c5 : ¬ ia + 1 + 1 = a.size := fun e => c5 (by rw [e]; exact beq_self_eq_true _)
            split
            · exact wpS_pure ⟨hS, .inr ⟨rfl, hP4, by dsimp only; omega, by dsimp only; omega, by dsimp only; omega⟩⟩
            · exact wpS_pure ⟨hS, rfl, hP4, by dsimp only; omega, by dsimp only; omega, by dsimp only; omega⟩
          rw [if_neg c3]
          refine wpS_bind (wpS_elem (by omega) ?_)
          have hP4 := hP2.pushA (show ia < a.size by omega)
          by_cases c5 : (ia + 1 + 1 == a.size) = true
          · rw [if_pos c5]
            exact wpS_pure ⟨hS, .inl ⟨_, rfl, loLast_perm hP4⟩⟩
          rw [if_neg c5]
          have c5 : ¬ ia + 1 + 1 = a.size := fun e => c5 (by rw [e]; exact beq_self_eq_true _)
          split
          · exact wpS_pure ⟨hS, .inr ⟨rfl, hP4, by dsimp only; omega, by dsimp only; omega, by dsimp only; omega⟩⟩
          · exact wpS_pure ⟨hS, rfl, hP4, by dsimp only; omega, by dsimp only; omega, by dsimp only; omega⟩
        · rw [if_neg cg]
          refine wpS_bind (wpS_setGal ?_)
          refine wpS_bind (wpS_elem h2 (wpS_bind (wpS_gallop hc (hS.1.trans hk) (hb.at h2) ha (by omega) (by omega) fun k hkk => ?_)))
          have hP1 := hP.manyA k
          dsimp only
          by_cases c0 : k > 0
          · rw [if_pos c0]
            by_cases c1 : (ia + k + 1 == a.size) = true
            · rw [if_pos c1]
              exact wpS_pure ⟨hS, .inl ⟨_, rfl, loLast_perm hP1⟩⟩
            rw [if_neg c1]
            have c1 : ¬ ia + k + 1 = a.size := fun e => c1 (by rw [e]; exact beq_self_eq_true _)
            by_cases c7 : (ia + k == a.size) = true
            · rw [if_pos c7]
              exact wpS_pure ⟨hS, .inl ⟨_, rfl, loDone_perm hP1⟩⟩
            rw [if_neg c7]
            have c7 : ¬ ia + k = a.size := fun e => c7 (by rw [e]; exact beq_self_eq_true _)
            refine wpS_bind (wpS_elem h2 ?_)
            have hP2 := hP1.pushB h2
            by_cases c2 : (ib + 1 == b.size) = true
            · rw [if_pos c2]
              exact wpS_pure ⟨hS, .inl ⟨_, rfl, loDone_perm hP2⟩⟩
            rw [if_neg c2]
            have c2 : ¬ ib + 1 = b.size := fun e => c2 (by rw [e]; exact beq_self_eq_true _)
            refine wpS_bind (wpS_elem (by omega) (wpS_bind (wpS_gallop hc (hS.1.trans hk) (ha.at (by omega)) hb (by omega) (by omega) fun k2 hk2 => ?_)))
            dsimp only
            have hP3 := hP2.manyB k2
            by_cases c3 : k2 > 0
            · rw [if_pos c3]
              by_cases c4 : (ib + 1 + k2 == b.size) = true
              · rw [if_pos c4]
                exact wpS_pure ⟨hS, .inl ⟨_, rfl, loDone_perm hP3⟩⟩
              rw [if_neg c4]
              have c4 : ¬ ib + 1 + k2 = b.size := fun e => c4 (by rw [e]; exact beq_self_eq_true _)
              refine wpS_bind (wpS_elem (by omega) ?_)
              have hP4 := hP3.pushA (show ia + k < a.size by omega)
              by_cases c5 : (ia + k + 1 + 1 == a.size) = true
              · rw [if_pos c5]
                exact wpS_pure ⟨hS, .inl ⟨_, rfl, loLast_perm hP4⟩⟩
              rw [if_neg c5]
              have c5 : ¬ ia + k + 1 + 1 = a.size := fun e => c5 (by rw [e]; exact beq_self_eq_true _)
              split
              · exact wpS_pure ⟨hS, .inr ⟨rfl, hP4, by dsimp only; omega, by dsimp only; omega, by dsimp only; omega⟩⟩
              · exact wpS_pure ⟨hS, rfl, hP4, by dsimp only; omega, by dsimp only; omega, by dsimp only; omega⟩
            rw [if_neg c3]
            refine wpS_bind (wpS_elem (by omega) ?_)
            have hP4 := hP2.pushA (show ia + k < a.size by omega)
            by_cases c5 : (ia + k + 1 + 1 == a.size) = true
            · rw [if_pos c5]
              exact wpS_pure ⟨hS, .inl ⟨_, rfl, loLast_perm hP4⟩⟩
            rw [if_neg c5]
            have c5 : ¬ ia + k + 1 + 1 = a.size := fun e => c5 (by rw [e]; exact beq_self_eq_true _)
            split
            · exact wpS_pure ⟨hS, .inr ⟨rfl, hP4, by dsimp only; omega, by dsimp only; omega, by dsimp only; omega⟩⟩
            · exact wpS_pure ⟨hS, rfl, hP4, by dsimp only; omega, by dsimp only; omega, by dsimp only; omega⟩
          rw [if_neg c0]
          refine wpS_bind (wpS_elem h2 ?_)
          have hP2 := hP.pushB h2
          by_cases c2 : (ib + 1 == b.size) = true
          · rw [if_pos c2]
            exact wpS_pure ⟨hS, .inl ⟨_, rfl, loDone_perm hP2⟩⟩
          rw [if_neg c2]
          have c2 : ¬ ib + 1 = b.size := fun e => c2 (by rw [e]; exact beq_self_eq_true _)
          refine wpS_bind (wpS_elem (by omega) (wpS_bind (wpS_gallop hc (hS.1.trans hk) (ha.at (by omega)) hb (by omega) (by omega) fun k2 hk2 => ?_)))
          dsimp only
          have hP3 := hP2.manyB k2
          by_cases c3 : k2 > 0
          · rw [if_pos c3]
            by_cases c4 : (ib + 1 + k2 == b.size) = true
            · rw [if_pos c4]
              exact wpS_pure ⟨hS, .inl ⟨_, rfl, loDone_perm hP3⟩⟩
            rw [if_neg c4]
            have c4 : ¬ ib + 1 + k2 = b.size := fun e => c4 (by rw [e]; exact beq_self_eq_true _)
            refine wpS_bind (wpS_elem (by omega) ?_)
            have hP4 := hP3.pushA (show ia < a.size by omega)
            by_cases c5 : (ia + 1 + 1 == a.size) = true
            · rw [if_pos c5]
              exact wpS_pure ⟨hS, .inl ⟨_, rfl, loLast_perm hP4⟩⟩
            rw [if_neg c5]
            have c5 : ¬ ia + 1 + 1 = a.size := fun e => c5 (by rw [e]; exact beq_self_eq_true _)
            split
            · exact wpS_pure ⟨hS, .inr ⟨rfl, hP4, by dsimp only; omega, by dsimp only; omega, by dsimp only; omega⟩⟩
            · exact wpS_pure ⟨hS, rfl, hP4, by dsimp only; omega, by dsimp only; omega, by dsimp only; omega⟩
          rw [if_neg c3]
          refine wpS_bind (wpS_elem (by omega) ?_)
          have hP4 := hP2.pushA (show ia < a.size by omega)
          by_cases c5 : (ia + 1 + 1 == a.size) = true
          · rw [if_pos c5]
            exact wpS_pure ⟨hS, .inl ⟨_, rfl, loLast_perm hP4⟩⟩
          rw [if_neg c5]
          have c5 : ¬ ia + 1 + 1 = a.size := fun e => c5 (by rw [e]; exact beq_self_eq_true _)
          split
          · exact wpS_pure ⟨hS, .inr ⟨rfl, hP4, by dsimp only; omega, by dsimp only; omega, by dsimp only; omega⟩⟩
          · exact wpS_pure ⟨hS, rfl, hP4, by dsimp only; omega, by dsimp only; omega, by dsimp only; omega⟩
      · clear hP h1 h2 h3 hS
        rintro ⟨r, out, ia, ib, mg2, ac, bc⟩ st2 ⟨hS, ⟨m, hr, hm⟩ | ⟨hr, hP, h1, h2, h3⟩⟩
        · dsimp only at hr ⊢
          subst hr
          exact wpS_pure ⟨hS, m, rfl, hm⟩
        dsimp only at hr hP h1 h2 h3 ⊢
        subst hr
        dsimp only
        exact wpS_bind (wpS_setGal (wpS_pure ⟨hS, rfl, hP, h1, h2, h3⟩))
  · rintro ⟨r, out, ia, ib, mg⟩ st1 ⟨hS, hr, hP, h1, h2, h3⟩
    dsimp only at h1 h2 h3
    omega
  · rintro ⟨r, out, ia, ib, mg⟩ st1 ⟨hS, m, hr, hm⟩
    dsimp only at hr ⊢
    subst hr
    exact wpS_pure (h m st1 hS hm)
def PH (a b out : Array Keyed) (na nb : Nat) : Prop := (a.toList.take na ++ (b.toList.take nb ++ out.toList.reverse)).Perm (a.toList ++ b.toList)
theorem ext_to (a : Array Keyed) (i : Nat) : (a.extract 0 i).toList = a.toList.take i := by
  rw [Array.toList_extract]
  rfl
theorem hiDone_perm {a b out : Array Keyed} {na nb : Nat} (h : PH a b out na nb) : (hiDone a b out na nb).toList.Perm (a.toList ++ b.toList) := by
  unfold hiDone
  rw [Array.toList_append, Array.toList_append, ext_to, ext_to, List.append_assoc, Array.toList_reverse]
  exact h
theorem hiFirst_perm {a b out : Array Keyed} {na nb : Nat} (h : PH a b out na nb) : (hiFirst a b out na nb).toList.Perm (a.toList ++ b.toList) := by
  unfold hiFirst
  rw [Array.toList_append, Array.toList_append, ext_to, ext_to, List.append_assoc, Array.toList_reverse]
  exact (mid_perm [] _ _ _).trans h
theorem take_one {l : List Keyed} {n : Nat} (h : n - 1 < l.length) (hn : 1 ≤ n) : l.take n = l.take (n - 1) ++ [l[n - 1]] := by
  have := List.take_add_one (l := l) (i := n - 1)
  rw [show n - 1 + 1 = n by omega, List.getElem?_eq_getElem h] at this
  exact this
theorem PH.pushA {a b out : Array Keyed} {na nb : Nat} (h : PH a b out na nb) (hi : na - 1 < a.size) (hn : 1 ≤ na) : PH a b (out.push a[na - 1]) (na - 1) nb := by
  unfold PH at h ⊢
  rw [take_one (by simpa using hi) hn, List.append_assoc] at h
  rw [Array.toList_push, List.reverse_append]
  refine List.Perm.trans ?_ h
  have := mid_perm (a.toList.take (na - 1)) (b.toList.take nb) [a[na - 1]] out.toList.reverse
  simpa using this
theorem PH.pushB {a b out : Array Keyed} {na nb : Nat} (h : PH a b out na nb) (hi : nb - 1 < b.size) (hn : 1 ≤ nb) : PH a b (out.push b[nb - 1]) na (nb - 1) := by
  unfold PH at h ⊢
  rw [take_one (l := b.toList) (by simpa using hi) hn, List.append_assoc] at h
  rw [Array.toList_push, List.reverse_append]
  simpa using h
theorem take_ext (a : Array Keyed) {i n : Nat} (h : i ≤ n) : a.toList.take n = a.toList.take i ++ (a.extract i n).toList := by
  rw [Array.toList_extract]
  show _ = _ ++ List.take (n - i) (a.toList.drop i)
  have := List.take_add (l := a.toList) (i := i) (j := n - i)
  rw [show i + (n - i) = n by omega] at this
  exact this
theorem PH.manyA {a b out : Array Keyed} {na nb : Nat} (h : PH a b out na nb) (k : Nat) (hk : k ≤ na) : PH a b (out ++ (a.extract k na).reverse) k nb := by
  unfold PH at h ⊢
  rw [take_ext a hk, List.append_assoc] at h
  rw [Array.toList_append, Array.toList_reverse, List.reverse_append, List.reverse_reverse]
  exact (mid_perm _ _ _ _).trans h
theorem PH.manyB {a b out : Array Keyed} {na nb : Nat} (h : PH a b out na nb) (k : Nat) (hk : k ≤ nb) : PH a b (out ++ (b.extract k nb).reverse) na k := by
  unfold PH at h ⊢
  rw [take_ext b hk, List.append_assoc] at h
  rw [Array.toList_append, Array.toList_reverse, List.reverse_append, List.reverse_reverse]
  exact h
theorem wpS_mergeHi {a b : Array Keyed} {st : SortSt} {Q : Array Keyed → SortSt → Prop} (hc : CmpOk prog w A s κ X) (hk : kindOf st = κ) (ha : AllX X a) (hb : AllX X b) (ha0 : 0 < a.size) (hb0 : 0 < b.size)
    (h : ∀ m st', Sm st st' → m.toList.Perm (a.toList ++ b.toList) → Q m st') : wpS (model prog w) A E s (mergeHi' a b) Q st := by
  rw [mergeHi'_eq]
  dsimp only
  have p0 : PH a b #[a[a.size - 1]] (a.size - 1) b.size := by
    have : PH a b (#[] : Array Keyed) a.size b.size := by
      unfold PH
      simp [← Array.length_toList]
    simpa using this.pushA (show a.size - 1 < a.size by omega) (by omega)
  refine wpS_bind (wpS_lift (wpAny_rule ⟨rfl, wpS_bind (wpS_elem (show a.size - 1 < a.size by omega) ?_)⟩))
  by_cases n1 : (a.size - 1 == 0) = true
  · rw [if_pos n1]
    exact wpS_pure (h _ _ ⟨rfl, rfl, rfl, rfl⟩ (hiDone_perm p0))
  rw [if_neg n1]
  by_cases n2 : (b.size == 1) = true
  · rw [if_pos n2]
    exact wpS_pure (h _ _ ⟨rfl, rfl, rfl, rfl⟩ (hiFirst_perm p0))
  rw [if_neg n2]
  have n1 : ¬ a.size - 1 = 0 := fun e => n1 (by rw [e]; rfl)
  have n2 : ¬ b.size = 1 := fun e => n2 (by rw [e]; rfl)
  refine wpS_bind (wpS_get (wpS_bind (wpS_mono (wpS_forRange (I := fun x c st' => Sm st st' ∧ c.1 = none ∧ PH a b c.2.2.2.1 c.2.1 c.2.2.1 ∧ 1 ≤ c.2.1 ∧ 2 ≤ c.2.2.1 ∧ c.2.1 ≤ a.size ∧ c.2.2.1 ≤ b.size ∧ c.2.1 + c.2.2.1 + (x + 1) ≤ a.size + b.size)
    (Q := fun c st' => Sm st st' ∧ ∃ m, c.1 = some m ∧ m.toList.Perm (a.toList ++ b.toList)) ?_ ?_ ⟨⟨rfl, rfl, rfl, rfl⟩, rfl, p0, by dsimp only; omega, by dsimp only; omega, by dsimp only; omega, by dsimp only; omega, by dsimp only; omega⟩) ?_)))
  · rintro x ⟨r, na, nb, out, mg⟩ st1 _ hx ⟨hS, hr, hP, h1, h2, h4, h5, h3⟩
    dsimp only at hr hP h1 h2 h3 h4 h5 ⊢
    refine wpS_bind (wpS_mono (wpS_forRange (I := fun y c st' => Sm st st' ∧ c.1 = none ∧ PH a b c.2.2.2.1 c.2.1 c.2.2.1 ∧ 1 ≤ c.2.1 ∧ 2 ≤ c.2.2.1 ∧ c.2.1 ≤ a.size ∧ c.2.2.1 ≤ b.size ∧ c.2.1 + c.2.2.1 + (x + 1 + min y 1) ≤ a.size + b.size)
      (Q := fun c st' => Sm st st' ∧ ((∃ m, c.1 = some m ∧ m.toList.Perm (a.toList ++ b.toList)) ∨ (c.1 = none ∧ PH a b c.2.2.2.1 c.2.1 c.2.2.1 ∧ 1 ≤ c.2.1 ∧ 2 ≤ c.2.2.1 ∧ c.2.1 ≤ a.size ∧ c.2.2.1 ≤ b.size ∧ c.2.1 + c.2.2.1 + (x + 2) ≤ a.size + b.size))) ?_ ?_ ⟨hS, rfl, hP, h1, h2, h4, h5, by simpa using h3⟩) ?_)
    · clear hP h1 h2 h3 h4 h5 hS
      rintro y ⟨r, na, nb, out, ac, bc⟩ st2 _ _ ⟨hS, hr, hP, h1, h2, h4, h5, h3⟩
      dsimp only at hr hP h1 h2 h3 h4 h5 ⊢
      refine wpS_bind (wpS_elem (by omega) (wpS_bind (wpS_elem (by omega) (wpS_bind (wpS_ltX hc (hS.1.trans hk) (hb.at (by omega)) (ha.at (by omega)) fun c => ?_)))))
      cases c
      · simp only [Bool.false_eq_true, if_false]
        refine wpS_bind (wpS_elem (by omega) ?_)
        have hP' := hP.pushB (show nb - 1 < b.size by omega) (by omega)
        by_cases c1 : (nb - 1 == 1) = true
        · rw [if_pos c1]
          exact wpS_pure ⟨hS, .inl ⟨_, rfl, hiFirst_perm hP'⟩⟩
        rw [if_neg c1]
        have c1 : ¬ nb - 1 = 1 := fun e => c1 (by rw [e]; rfl)
        split
        · exact wpS_pure ⟨hS, .inr ⟨rfl, hP', by dsimp only; omega, by dsimp only; omega, by dsimp only; omega, by dsimp only; omega, by dsimp only; omega⟩⟩
        · exact wpS_pure ⟨hS, rfl, hP', by dsimp only; omega, by dsimp only; omega, by dsimp only; omega, by dsimp only; omega, by dsimp only; omega⟩
      · simp only [if_true]
        refine wpS_bind (wpS_elem (by omega) ?_)
        have hP' := hP.pushA (show na - 1 < a.size by omega) (by omega)
        by_cases c1 : (na - 1 == 0) = true
        · rw [if_pos c1]
          exact wpS_pure ⟨hS, .inl ⟨_, rfl, hiDone_perm hP'⟩⟩
        rw [if_neg c1]
        have c1 : ¬ na - 1 = 0 := fun e => c1 (by rw [e]; rfl)
        split
        · exact wpS_pure ⟨hS, .inr ⟨rfl, hP', by dsimp only; omega, by dsimp only; omega, by dsimp only; omega, by dsimp only; omega, by dsimp only; omega⟩⟩
        · exact wpS_pure ⟨hS, rfl, hP', by dsimp only; omega, by dsimp only; omega, by dsimp only; omega, by dsimp only; omega, by dsimp only; omega⟩
    · rintro c st2 ⟨hS, hr, hP, h1, h2, h4, h5, h3⟩
      exact ⟨hS, .inr ⟨hr, hP, h1, h2, h4, h5, by omega⟩⟩
    · clear hP h1 h2 h3 h4 h5 hS
      rintro ⟨r, na, nb, out, ac, bc⟩ st2 ⟨hS, ⟨m, hr, hm⟩ | ⟨hr, hP, h1, h2, h4, h5, h3⟩⟩
      · dsimp only at hr ⊢
        subst hr
        exact wpS_pure ⟨hS, m, rfl, hm⟩
      dsimp only at hr hP h1 h2 h3 h4 h5 ⊢
      subst hr
      dsimp only
      refine wpS_bind (wpS_lift (wpAny_rule ⟨rfl, ?_⟩))
      refine wpS_bind (wpS_mono (wpS_forRange (I := fun y c st' => Sm st st' ∧ c.1 = none ∧ PH a b c.2.2.2.1 c.2.1 c.2.2.1 ∧ 1 ≤ c.2.1 ∧ 2 ≤ c.2.2.1 ∧ c.2.1 ≤ a.size ∧ c.2.2.1 ≤ b.size ∧ c.2.1 + c.2.2.1 + (x + 2) ≤ a.size + b.size)
        (Q := fun c st' => Sm st st' ∧ ((∃ m, c.1 = some m ∧ m.toList.Perm (a.toList ++ b.toList)) ∨ (c.1 = none ∧ PH a b c.2.2.2.1 c.2.1 c.2.2.1 ∧ 1 ≤ c.2.1 ∧ 2 ≤ c.2.2.1 ∧ c.2.1 ≤ a.size ∧ c.2.2.1 ≤ b.size ∧ c.2.1 + c.2.2.1 + (x + 2) ≤ a.size + b.size))) ?_ (fun c st2 z => ⟨z.1, .inr z.2⟩) ⟨hS, rfl, hP, h1, h2, h4, h5, h3⟩) ?_)
      · clear hP h1 h2 h3 h4 h5 hS
        rintro y ⟨r, na, nb, out, mg, ac, bc⟩ st2 _ _ ⟨hS, hr, hP, h1, h2, h4, h5, h3⟩
        dsimp only at hr hP h1 h2 h3 h4 h5 ⊢
        by_cases cg : mg > 1
        · rw [if_pos cg]
          refine wpS_bind (wpS_setGal ?_)
          refine wpS_bind (wpS_elem (by omega) (wpS_bind (wpS_gallop hc (hS.1.trans hk) (hb.at (by omega)) ha (by omega) (by omega) fun k hkk => ?_)))
          have hP1 := hP.manyA k (by omega)
          dsimp only
          by_cases c0 : na - k > 0
          · rw [if_pos c0]
            by_cases c1 : (k == 0) = true
            · rw [if_pos c1]
              exact wpS_pure ⟨hS, .inl ⟨_, rfl, hiDone_perm hP1⟩⟩
            rw [if_neg c1]
            have c1 : ¬ k = 0 := fun e => c1 (by rw [e]; rfl)
            refine wpS_bind (wpS_elem (by omega) ?_)
            have hP2 := hP1.pushB (show nb - 1 < b.size by omega) (by omega)
            by_cases c2 : (nb - 1 == 1) = true
            · rw [if_pos c2]
              exact wpS_pure ⟨hS, .inl ⟨_, rfl, hiFirst_perm hP2⟩⟩
            rw [if_neg c2]
            have c2 : ¬ nb - 1 = 1 := fun e => c2 (by rw [e]; rfl)
            refine wpS_bind (wpS_elem (by omega) (wpS_bind (wpS_gallop hc (hS.1.trans hk) (ha.at (by omega)) hb (by omega) (by omega) fun k2 hk2 => ?_)))
            dsimp only
            have hP3 := hP2.manyB k2 (by omega)
            by_cases c3 : nb - 1 - k2 > 0
            · rw [if_pos c3]
              by_cases c4 : (k2 == 1) = true
              · rw [if_pos c4]
                exact wpS_pure ⟨hS, .inl ⟨_, rfl, hiFirst_perm hP3⟩⟩
              rw [if_neg c4]
              have c4 : ¬ k2 = 1 := fun e => c4 (by rw [e]; rfl)
              by_cases c8 : (k2 == 0) = true
              · rw [if_pos c8]
                exact wpS_pure ⟨hS, .inl ⟨_, rfl, hiDone_perm hP3⟩⟩
              rw [if_neg c8]
              have c8 : ¬ k2 = 0 := fun e => c8 (by rw [e]; rfl)
              refine wpS_bind (wpS_elem (by omega) ?_)
              have hP4 := hP3.pushA (show k - 1 < a.size by omega) (by omega)
              by_cases c5 : (k - 1 == 0) = true
              · rw [if_pos c5]
                exact wpS_pure ⟨hS, .inl ⟨_, rfl, hiDone_perm hP4⟩⟩
              rw [if_neg c5]
              have c5 : ¬ k - 1 = 0 := fun e => c5 (by rw [e]; rfl)
              split
              · exact wpS_pure ⟨hS, .inr ⟨rfl, hP4, by dsimp only; omega, by dsimp only; omega, by dsimp only; omega, by dsimp only; omega, by dsimp only; omega⟩⟩
              · exact wpS_pure ⟨hS, rfl, hP4, by dsimp only; omega, by dsimp only; omega, by dsimp only; omega, by dsimp only; omega, by dsimp only; omega⟩
            rw [if_neg c3]
            refine wpS_bind (wpS_elem (by omega) ?_)
            have hP4 := hP2.pushA (show k - 1 < a.size by omega) (by omega)
            by_cases c5 : (k - 1 == 0) = true
            · rw [if_pos c5]
              exact wpS_pure ⟨hS, .inl ⟨_, rfl, hiDone_perm hP4⟩⟩
            rw [if_neg c5]
            have c5 : ¬ k - 1 = 0 := fun e => c5 (by rw [e]; rfl)
            split
            · exact wpS_pure ⟨hS, .inr ⟨rfl, hP4, by dsimp only; omega, by dsimp only; omega, by dsimp only; omega, by dsimp only; omega, by dsimp only; omega⟩⟩
            · exact wpS_pure ⟨hS, rfl, hP4, by dsimp only; omega, by dsimp only; omega, by dsimp only; omega, by dsimp only; omega, by dsimp only; omega⟩
          rw [if_neg c0]
          refine wpS_bind (wpS_elem (by omega) ?_)
          have hP2 := hP.pushB (show nb - 1 < b.size by omega) (by omega)
          by_cases c2 : (nb - 1 == 1) = true
          · rw [if_pos c2]
            exact wpS_pure ⟨hS, .inl ⟨_, rfl, hiFirst_perm hP2⟩⟩
          rw [if_neg c2]
          have c2 : ¬ nb - 1 = 1 := fun e => c2 (by rw [e]; rfl)
          refine wpS_bind (wpS_elem (by omega) (wpS_bind (wpS_gallop hc (hS.1.trans hk) (ha.at (by omega)) hb (by omega) (by omega) fun k2 hk2 => ?_)))
          dsimp only
          have hP3 := hP2.manyB k2 (by omega)
          by_cases c3 : nb - 1 - k2 > 0
          · rw [if_pos c3]
            by_cases c4 : (k2 == 1) = true
            · rw [if_pos c4]
              exact wpS_pure ⟨hS, .inl ⟨_, rfl, hiFirst_perm hP3⟩⟩
            rw [if_neg c4]
            have c4 : ¬ k2 = 1 := fun e => c4 (by rw [e]; rfl)
            by_cases c8 : (k2 == 0) = true
            · rw [if_pos c8]
              exact wpS_pure ⟨hS, .inl ⟨_, rfl, hiDone_perm hP3⟩⟩
            rw [if_neg c8]
            have c8 : ¬ k2 = 0 := fun e => c8 (by rw [e]; rfl)
            refine wpS_bind (wpS_elem (by omega) ?_)
            have hP4 := hP3.pushA (show na - 1 < a.size by omega) (by omega)
            by_cases c5 : (na - 1 == 0) = true
            · rw [if_pos c5]
              exact wpS_pure ⟨hS, .inl ⟨_, rfl, hiDone_perm hP4⟩⟩
            rw [if_neg c5]
            have c5 : ¬ na - 1 = 0 := fun e => c5 (by rw [e]; rfl)
            split
            · exact wpS_pure ⟨hS, .inr ⟨rfl, hP4, by dsimp only; omega, by dsimp only; omega, by dsimp only; omega, by dsimp only; omega, by dsimp only; omega⟩⟩
            · exact wpS_pure ⟨hS, rfl, hP4, by dsimp only; omega, by dsimp only; omega, by dsimp only; omega, by dsimp only; omega, by dsimp only; omega⟩
          rw [if_neg c3]
          refine wpS_bind (wpS_elem (by omega) ?_)
          have hP4 := hP2.pushA (show na - 1 < a.size by omega) (by omega)
          by_cases c5 : (na - 1 == 0) = true
          · rw [if_pos c5]
            exact wpS_pure ⟨hS, .inl ⟨_, rfl, hiDone_perm hP4⟩⟩
          rw [if_neg c5]
          have c5 : ¬ na - 1 = 0 := fun e => c5 (by rw [e]; rfl)
          split
          · exact wpS_pure ⟨hS, .inr ⟨rfl, hP4, by dsimp only; omega, by dsimp only; omega, by dsimp only; omega, by dsimp only; omega, by dsimp only; omega⟩⟩
          · exact wpS_pure ⟨hS, rfl, hP4, by dsimp only; omega, by dsimp only; omega, by dsimp only; omega, by dsimp only; omega, by dsimp only; omega⟩
        · rw [if_neg cg]
          refine wpS_bind (wpS_setGal ?_)
          refine wpS_bind (wpS_elem (by omega) (wpS_bind (wpS_gallop hc (hS.1.trans hk) (hb.at (by omega)) ha (by omega) (by omega) fun k hkk => ?_)))
          have hP1 := hP.manyA k (by omega)
          dsimp only
          by_cases c0 : na - k > 0
          · rw [if_pos c0]
            by_cases c1 : (k == 0) = true
            · rw [if_pos c1]
              exact wpS_pure ⟨hS, .inl ⟨_, rfl, hiDone_perm hP1⟩⟩
            rw [if_neg c1]
            have c1 : ¬ k = 0 := fun e => c1 (by rw [e]; rfl)
            refine wpS_bind (wpS_elem (by omega) ?_)
            have hP2 := hP1.pushB (show nb - 1 < b.size by omega) (by omega)
            by_cases c2 : (nb - 1 == 1) = true
            · rw [if_pos c2]
              exact wpS_pure ⟨hS, .inl ⟨_, rfl, hiFirst_perm hP2⟩⟩
            rw [if_neg c2]
            have c2 : ¬ nb - 1 = 1 := fun e => c2 (by rw [e]; rfl)
            refine wpS_bind (wpS_elem (by omega) (wpS_bind (wpS_gallop hc (hS.1.trans hk) (ha.at (by omega)) hb (by omega) (by omega) fun k2 hk2 => ?_)))
            dsimp only
            have hP3 := hP2.manyB k2 (by omega)
            by_cases c3 : nb - 1 - k2 > 0
            · rw [if_pos c3]
              by_cases c4 : (k2 == 1) = true
              · rw [if_pos c4]
                exact wpS_pure ⟨hS, .inl ⟨_, rfl, hiFirst_perm hP3⟩⟩
              rw [if_neg c4]
              have c4 : ¬ k2 = 1 := fun e => c4 (by rw [e]; rfl)
              by_cases c8 : (k2 == 0) = true
              · rw [if_pos c8]
                exact wpS_pure ⟨hS, .inl ⟨_, rfl, hiDone_perm hP3⟩⟩
              rw [if_neg c8]
              have c8 : ¬ k2 = 0 := fun e => c8 (by rw [e]; rfl)
              refine wpS_bind (wpS_elem (by omega) ?_)
              have hP4 := hP3.pushA (show k - 1 < a.size by omega) (by omega)
              by_cases c5 : (k - 1 == 0) = true
              · rw [if_pos c5]
                exact wpS_pure ⟨hS, .inl ⟨_, rfl, hiDone_perm hP4⟩⟩
              rw [if_neg c5]
              have c5 : ¬ k - 1 = 0 := fun e => c5 (by rw [e]; rfl)
              split
              · exact wpS_pure ⟨hS, .inr ⟨rfl, hP4, by dsimp only; omega, by dsimp only; omega, by dsimp only; omega, by dsimp only; omega, by dsimp only; omega⟩⟩
              · exact wpS_pure ⟨hS, rfl, hP4, by dsimp only; omega, by dsimp only; omega, by dsimp only; omega, by dsimp only; omega, by dsimp only; omega⟩
            rw [if_neg c3]
            refine wpS_bind (wpS_elem (by omega) ?_)
            have hP4 := hP2.pushA (show k - 1 < a.size by omega) (by omega)
            by_cases c5 : (k - 1 == 0) = true
            · rw [if_pos c5]
              exact wpS_pure ⟨hS, .inl ⟨_, rfl, hiDone_perm hP4⟩⟩
            rw [if_neg c5]
            have c5 : ¬ k - 1 = 0 := fun e => c5 (by rw [e]; rfl)
            split
            · exact wpS_pure ⟨hS, .inr ⟨rfl, hP4, by dsimp only; omega, by dsimp only; omega, by dsimp only; omega, by dsimp only; omega, by dsimp only; omega⟩⟩
            · exact wpS_pure ⟨hS, rfl, hP4, by dsimp only; omega, by dsimp only; omega, by dsimp only; omega, by dsimp only; omega, by dsimp only; omega⟩
          rw [if_neg c0]
          refine wpS_bind (wpS_elem (by omega) ?_)
          have hP2 := hP.pushB (show nb - 1 < b.size by omega) (by omega)
          by_cases c2 : (nb - 1 == 1) = true
          · rw [if_pos c2]
            exact wpS_pure ⟨hS, .inl ⟨_, rfl, hiFirst_perm hP2⟩⟩
          rw [if_neg c2]
          have c2 : ¬ nb - 1 = 1 := fun e => c2 (by rw [e]; rfl)
          refine wpS_bind (wpS_elem (by omega) (wpS_bind (wpS_gallop hc (hS.1.trans hk) (ha.at (by omega)) hb (by omega) (by omega) fun k2 hk2 => ?_)))
          dsimp only
          have hP3 := hP2.manyB k2 (by omega)
          by_cases c3 : nb - 1 - k2 > 0
          · rw [if_pos c3]
            by_cases c4 : (k2 == 1) = true
            · rw [if_pos c4]
              exact wpS_pure ⟨hS, .inl ⟨_, rfl, hiFirst_perm hP3⟩⟩
            rw [if_neg c4]
            have c4 : ¬ k2 = 1 := fun e => c4 (by rw [e]; rfl)
            by_cases c8 : (k2 == 0) = true
            · rw [if_pos c8]
              exact wpS_pure ⟨hS, .inl ⟨_, rfl, hiDone_perm hP3⟩⟩
            rw [if_neg c8]
            have c8 : ¬ k2 = 0 := fun e => c8 (by rw [e]; rfl)
            refine wpS_bind (wpS_elem (by omega) ?_)
            have hP4 := hP3.pushA (show na - 1 < a.size by omega) (by omega)
            by_cases c5 : (na - 1 == 0) = true
            · rw [if_pos c5]
              exact wpS_pure ⟨hS, .inl ⟨_, rfl, hiDone_perm hP4⟩⟩
            rw [if_neg c5]
            have c5 : ¬ na - 1 = 0 := fun e => c5 (by rw [e]; rfl)
            split
            · exact wpS_pure ⟨hS, .inr ⟨rfl, hP4, by dsimp only; omega, by dsimp only; omega, by dsimp only; omega, by dsimp only; omega, by dsimp only; omega⟩⟩
            · exact wpS_pure ⟨hS, rfl, hP4, by dsimp only; omega, by dsimp only; omega, by dsimp only; omega, by dsimp only; omega, by dsimp only; omega⟩
          rw [if_neg c3]
          refine wpS_bind (wpS_elem (by omega) ?_)
          have hP4 := hP2.pushA (show na - 1 < a.size by omega) (by omega)
          by_cases c5 : (na - 1 == 0) = true
          · rw [if_pos c5]
            exact wpS_pure ⟨hS, .inl ⟨_, rfl, hiDone_perm hP4⟩⟩
          rw [if_neg c5]
          have c5 : ¬ na - 1 = 0 := fun e => c5 (by rw [e]; rfl)
          split
          · exact wpS_pure ⟨hS, .inr ⟨rfl, hP4, by dsimp only; omega, by dsimp only; omega, by dsimp only; omega, by dsimp only; omega, by dsimp only; omega⟩⟩
          · exact wpS_pure ⟨hS, rfl, hP4, by dsimp only; omega, by dsimp only; omega, by dsimp only; omega, by dsimp only; omega, by dsimp only; omega⟩
      · clear hP h1 h2 h3 h4 h5 hS
        rintro ⟨r, na, nb, out, mg2, ac, bc⟩ st2 ⟨hS, ⟨m, hr, hm⟩ | ⟨hr, hP, h1, h2, h4, h5, h3⟩⟩
        · dsimp only at hr ⊢
          subst hr
          exact wpS_pure ⟨hS, m, rfl, hm⟩
        dsimp only at hr hP h1 h2 h3 h4 h5 ⊢
        subst hr
        dsimp only
        exact wpS_bind (wpS_setGal (wpS_pure ⟨hS, rfl, hP, h1, h2, h4, h5, h3⟩))
  · rintro ⟨r, na, nb, out, mg⟩ st1 ⟨hS, hr, hP, h1, h2, h4, h5, h3⟩
    dsimp only at h1 h2 h3
    omega
  · rintro ⟨r, na, nb, out, mg⟩ st1 ⟨hS, m, hr, hm⟩
    dsimp only at hr ⊢
    subst hr
    exact wpS_pure (h m st1 hS hm)
theorem wpS_set {σ : Type} {M : Model} {st st1 : σ} {Q : PUnit → σ → Prop} (h : Q ⟨⟩ st1) : wpS M A E s (set st1 : StateT σ Sem PUnit) Q st := by
  unfold wpS; rw [StateT.run_set]; exact wpAny_pure ⟨rfl, h⟩
def Chn : Nat → List (Nat × Nat × Nat) → Nat → Prop
  | a, [], b => a = b
  | a, (u, n, _) :: r, b => u = a ∧ 1 ≤ n ∧ Chn (a + n) r b
theorem Chn.le : ∀ {l : List (Nat × Nat × Nat)} {a b : Nat}, Chn a l b → a ≤ b
  | [], _, _, h => Nat.le_of_eq h
  | (u, n, _) :: r, a, b, h => Nat.le_trans (Nat.le_add_right a n) h.2.2.le
theorem Chn.two : ∀ {l : List (Nat × Nat × Nat)} {a b i : Nat} {x y : Nat × Nat × Nat}, Chn a l b → (l[i]? : Option (Nat × Nat × Nat)) = some x → (l[i + 1]? : Option (Nat × Nat × Nat)) = some y →
    y.1 = x.1 + x.2.1 ∧ 1 ≤ x.2.1 ∧ 1 ≤ y.2.1 ∧ y.1 + y.2.1 ≤ b ∧ Chn a ((l.set i (x.1, x.2.1 + y.2.1, x.2.2)).eraseIdx (i + 1)) b
  | [], _, _, _, _, _, _, h, _ => by simp at h
  | [z], a, b, 0, x, y, hc, h1, h2 => by simp at h2
  | (u, n, p) :: (u2, n2, p2) :: r, a, b, 0, x, y, hc, h1, h2 => by
    simp only [List.getElem?_cons_zero, List.getElem?_cons_succ, Option.some.injEq] at h1 h2
    subst h1 h2
    obtain ⟨rfl, k1, rfl, k2, k3⟩ := hc
    refine ⟨rfl, k1, k2, k3.le, ?_⟩
    show Chn u ((u, n + n2, p) :: r) b
    exact ⟨rfl, by omega, by rw [← Nat.add_assoc]; exact k3⟩
  | (u, n, p) :: r, a, b, i + 1, x, y, hc, h1, h2 => by
    simp only [List.getElem?_cons_succ] at h1 h2
    obtain ⟨k0, k1, k2⟩ := hc
    obtain ⟨q1, q2, q3, q4, q5⟩ := k2.two h1 h2
    exact ⟨q1, q2, q3, q4, k0, k1, q5⟩
theorem Chn.snoc : ∀ {l : List (Nat × Nat × Nat)} {a b n p : Nat}, Chn a l b → 1 ≤ n → Chn a (l ++ [(b, n, p)]) (b + n)
  | [], _, _, _, _, h, hn => by cases h; exact ⟨rfl, hn, rfl⟩
  | (u, m, q) :: r, a, b, n, p, h, hn => ⟨h.1, h.2.1, h.2.2.snoc hn⟩
theorem Chn.last : ∀ {l : List (Nat × Nat × Nat)} {a b : Nat} (f : Nat → Nat) (j : Nat), Chn a l b → Chn a (l.modify j fun x => (x.1, x.2.1, f x.2.2)) b
  | [], _, _, _, j, h => by cases j <;> exact h
  | (u, m, q) :: r, a, b, f, 0, h => h
  | (u, m, q) :: r, a, b, f, j + 1, h => ⟨h.1, h.2.1, h.2.2.last f j⟩
theorem fold_set (sa : Nat) : ∀ (l : List Keyed) (j : Nat) (xs : Array Keyed), sa + j + l.length ≤ xs.size →
    ((l.zipIdx j).foldl (fun (a : Array Keyed) (x : Keyed × Nat) => a.setIfInBounds (sa + x.2) x.1) xs).toList = xs.toList.take (sa + j) ++ (l ++ xs.toList.drop (sa + j + l.length))
  | [], j, xs, _ => by simp
  | p :: l, j, xs, h => by
    rw [List.zipIdx_cons, List.foldl_cons, fold_set sa l (j + 1) _ (by rw [Array.size_setIfInBounds]; simp at h ⊢; omega), Array.toList_setIfInBounds]
    have hj : sa + j < xs.toList.length := by simp at h ⊢; omega
    rw [List.drop_set_of_lt (by omega), show sa + (j + 1) = (sa + j) + 1 by omega, List.take_succ_eq_append_getElem (by rw [List.length_set]; exact hj), List.take_set_of_le (Nat.le_refl _), List.getElem_set_self, List.append_assoc, List.length_cons, show sa + j + 1 + l.length = sa + j + (l.length + 1) by omega]
    rfl
def SI (a₀ : Array Keyed) (κ : SortKind) (lo : Nat) (st : SortSt) : Prop := (arrOf st).Perm a₀ ∧ kindOf st = κ ∧ failedOf st = none ∧ Chn 0 (pendingOf st).toList lo
theorem wpS_mergeAt {a₀ : Array Keyed} {lo i : Nat} {st : SortSt} {Q : Bool → SortSt → Prop} (hc : CmpOk prog w A s κ X) (ha : AllX X a₀) (hI : SI a₀ κ lo st) (hlo : lo ≤ a₀.size) (hi : i + 1 < (pendingOf st).size)
    (h : ∀ st', SI a₀ κ lo st' → Q true st') : wpS (model prog w) A E s (mergeAt' i) Q st := by
  obtain ⟨hp, hk, hf, hch⟩ := hI
  rw [mergeAt'_eq]
  refine wpS_bind (wpS_get ?_)
  obtain ⟨⟨sa, na, p⟩, e1⟩ : ∃ x, (pendingOf st)[i]? = some x := ⟨_, getElem?_pos (pendingOf st) i (by omega)⟩
  obtain ⟨⟨sb, nb, q⟩, e2⟩ : ∃ x, (pendingOf st)[i + 1]? = some x := ⟨_, getElem?_pos (pendingOf st) (i + 1) hi⟩
  rw [e1, e2]
  dsimp only
  obtain ⟨k1, k2, k3, k4, k5⟩ := hch.two (i := i) (by rw [Array.getElem?_toList]; exact e1) (by rw [Array.getElem?_toList]; exact e2)
  dsimp only at k1 k2 k3 k4 k5
  have hsz : (arrOf st).size = a₀.size := hp.size_eq
  have hax : AllX X (arrOf st) := ha.perm hp
  refine wpS_bind (wpS_set ?_)
  have hk1 : kindOf (setPending st (((pendingOf st).setIfInBounds i (sa, na + nb, p)).eraseIdxIfInBounds (i + 1))) = κ := hk
  have hS1 : SI a₀ κ lo (setPending st (((pendingOf st).setIfInBounds i (sa, na + nb, p)).eraseIdxIfInBounds (i + 1))) := by
    refine ⟨hp, hk, hf, ?_⟩
    show Chn 0 (((pendingOf st).setIfInBounds i (sa, na + nb, p)).eraseIdxIfInBounds (i + 1)).toList lo
    rw [Array.toList_eraseIdxIfInBounds, Array.toList_setIfInBounds]
    exact k5
  have hA1 : arrOf (setPending st (((pendingOf st).setIfInBounds i (sa, na + nb, p)).eraseIdxIfInBounds (i + 1))) = arrOf st := rfl
  generalize setPending st (((pendingOf st).setIfInBounds i (sa, na + nb, p)).eraseIdxIfInBounds (i + 1)) = st1 at hk1 hS1 hA1
  refine wpS_bind (wpS_elem (by omega) (wpS_bind (wpS_gallop hc hk1 (hax.at (by omega)) hax (by omega) (by omega) fun k hkk => ?_)))
  dsimp only
  by_cases c1 : (na - k == 0) = true
  · rw [if_pos c1]
    exact wpS_pure (h _ hS1)
  rw [if_neg c1]
  have c1 : ¬ na - k = 0 := fun e => c1 (by rw [e]; rfl)
  refine wpS_bind (wpS_elem (by omega) (wpS_bind (wpS_gallop hc hk1 (hax.at (by omega)) hax (by omega) (by omega) fun nb' hnb' => ?_)))
  dsimp only
  by_cases c2 : (nb' == 0) = true
  · rw [if_pos c2]
    exact wpS_pure (h _ hS1)
  rw [if_neg c2]
  have c2 : ¬ nb' = 0 := fun e => c2 (by rw [e]; rfl)
  have hx : ((arrOf st).extract (sa + k) sb).size = na - k := by
    rw [Array.size_extract]
    omega
  have hy : ((arrOf st).extract sb (sb + nb')).size = nb' := by
    rw [Array.size_extract]
    omega
  have fin : ∀ (m : Array Keyed) (st2 : SortSt), Sm st1 st2 → m.toList.Perm (((arrOf st).extract (sa + k) sb).toList ++ ((arrOf st).extract sb (sb + nb')).toList) →
      wpS (model prog w) A E s (do
        modify fun s => setArr s (m.toList.zipIdx.foldl (fun (a : Array Keyed) (x : Keyed × Nat) => a.setIfInBounds (sa + k + x.2) x.1) (arrOf s))
        return (failedOf (← get)).isNone) Q st2 := by
    intro m st2 hS hm
    refine wpS_bind (wpS_modify (wpS_bind (wpS_get (wpS_pure ?_))))
    have e : (failedOf (setArr st2 (m.toList.zipIdx.foldl (fun (a : Array Keyed) (x : Keyed × Nat) => a.setIfInBounds (sa + k + x.2) x.1) (arrOf st2)))).isNone = true := by
      show (failedOf st2).isNone = true
      rw [hS.2.2.2, hS1.2.2.1]
      rfl
    rw [e]
    refine h _ ⟨?_, hS.1.trans hk1, hS.2.2.2.trans hS1.2.2.1, by show Chn 0 (pendingOf st2).toList lo; rw [hS.2.2.1]; exact hS1.2.2.2⟩
    show (m.toList.zipIdx.foldl (fun (a : Array Keyed) (x : Keyed × Nat) => a.setIfInBounds (sa + k + x.2) x.1) (arrOf st2)).Perm a₀
    refine Array.Perm.trans ?_ hp
    rw [hS.2.1, hA1]
    have hml : m.toList.length = (na - k) + nb' := by
      rw [hm.length_eq, List.length_append, Array.length_toList, Array.length_toList, hx, hy]
    refine Array.perm_iff_toList_perm.mpr ?_
    rw [fold_set (sa + k) m.toList 0 _ (by omega)]
    have e3 : (arrOf st).toList = (arrOf st).toList.take (sa + k) ++ ((((arrOf st).extract (sa + k) sb).toList ++ ((arrOf st).extract sb (sb + nb')).toList) ++ (arrOf st).toList.drop (sb + nb')) := by
      have d1 := drop_ext (arrOf st) sb nb'
      have d2 := drop_ext (arrOf st) (sa + k) (na - k)
      rw [show sa + k + (na - k) = sb by omega] at d2
      rw [List.append_assoc, d1, d2, List.take_append_drop]
    conv => rhs; rw [e3]
    rw [show sa + k + 0 = sa + k from rfl, show sa + k + m.toList.length = sb + nb' by omega]
    exact (hm.append_right _).append_left _
  split
  · refine wpS_bind (wpS_mergeLo hc hk1 (hax.extract _ _) (hax.extract _ _) (by omega) (by omega) fin)
  · refine wpS_bind (wpS_mergeHi hc hk1 (hax.extract _ _) (hax.extract _ _) (by omega) (by omega) fin)
def Kp (st st' : SortSt) : Prop := kindOf st' = kindOf st ∧ (arrOf st').Perm (arrOf st) ∧ pendingOf st' = pendingOf st ∧ failedOf st' = failedOf st
theorem Kp.rfl' (st : SortSt) : Kp st st := ⟨rfl, Array.Perm.refl _, rfl, rfl⟩
theorem Kp.arr {st st' : SortSt} (h : Kp st st') {xs : Array Keyed} (hp : xs.Perm (arrOf st')) : Kp st (setArr st' xs) := ⟨h.1, hp.trans h.2.1, h.2.2.1, h.2.2.2⟩
theorem Kp.size {st st' : SortSt} (h : Kp st st') : (arrOf st').size = (arrOf st).size := h.2.1.size_eq
theorem wpS_binarySortX {st : SortSt} {lo n ok : Nat} {Q : Bool → SortSt → Prop} (hc : CmpOk prog w A s κ X) (hk : kindOf st = κ) (ha : AllX X (arrOf st)) (hn : lo + n ≤ (arrOf st).size)
    (h : ∀ st', Kp st st' → Q true st') : wpS (model prog w) A E s (binarySort' lo n ok) Q st := by
  rw [binarySort'_eq]
  refine wpS_bind (wpS_mono (wpS_forRange (I := fun k c st' => c = (none, ()) ∧ Kp st st') (Q := fun c st' => c = (none, ()) ∧ Kp st st') ?_ (fun _ _ z => z) ⟨rfl, Kp.rfl' st⟩) ?_)
  · rintro k c st1 _ hkn ⟨rfl, hK⟩
    refine wpS_bind (wpS_mono (wpS_forRange (I := fun x c st'' => st'' = st1 ∧ ∃ l r, c = (none, l, r) ∧ r ≤ k) (Q := fun c st'' => st'' = st1 ∧ ∃ l r, c = (none, l, r) ∧ r ≤ k) ?_ (fun _ _ z => z) ⟨rfl, 0, k, rfl, Nat.le_refl _⟩) ?_)
    · rintro x c st2 _ _ ⟨rfl, l, r, rfl, hr⟩
      dsimp only
      by_cases hge : l ≥ r
      · rw [if_pos hge]
        exact wpS_pure ⟨rfl, l, r, rfl, hr⟩
      rw [if_neg hge]
      have hs := hK.size
      refine wpS_bind (wpS_ltAtX hc (hK.1.trans hk) (ha.perm hK.2.1) (by omega) (by omega) fun b => ?_)
      cases b
      · simp only [Bool.false_eq_true, if_false]
        exact wpS_pure ⟨rfl, _, r, rfl, hr⟩
      · simp only [if_true]
        exact wpS_pure ⟨rfl, l, _, rfl, by omega⟩
    · rintro c st2 ⟨rfl, l, r, rfl, hr⟩
      show wpS _ _ _ _ (do moveDown' (lo + k) (lo + l); pure (ForInStep.yield (none, ()))) _ _
      rw [moveDown'_eq]
      exact wpS_bind (wpS_modify (wpS_pure ⟨rfl, hK.arr (bubble_perm _ _ _)⟩))
  · rintro c st1 ⟨rfl, hK⟩
    exact wpS_pure (h st1 hK)
theorem wpS_revX {st st1 : SortSt} {i j : Nat} {Q : Unit → SortSt → Prop} (hK : Kp st st1) (h : ∀ st', Kp st st' → Q () st') : wpS (model prog w) A E s (reverseSlice' i j) Q st1 :=
  wpS_reverse (h _ (hK.arr (mirror_perm _ _ _ _)))
theorem wpS_countRunX {st : SortSt} {lo nrem : Nat} {Q : Option Nat → SortSt → Prop} (hc : CmpOk prog w A s κ X) (hk : kindOf st = κ) (ha : AllX X (arrOf st)) (hn : lo + nrem ≤ (arrOf st).size) (h1 : 1 ≤ nrem)
    (h : ∀ m st', Kp st st' → 1 ≤ m → m ≤ nrem → Q (some m) st') : wpS (model prog w) A E s (countRun' lo nrem) Q st := by
  rw [countRun'_eq]
  dsimp only
  have lt : ∀ {st1 : SortSt} {i j : Nat} {Q : Option Bool → SortSt → Prop}, Kp st st1 → i < lo + nrem → j < lo + nrem → (∀ b, Q (some b) st1) → wpS (model prog w) A E s (ltAt' i j) Q st1 := by
    intro st1 i j Q hK hi hj hq
    have hs := hK.size
    exact wpS_ltAtX hc (hK.1.trans hk) (ha.perm hK.2.1) (by omega) (by omega) hq
  refine wpS_bind (wpS_mono (wpS_forRange (I := fun x c st' => st' = st ∧ c = (none, x)) (Q := fun c st' => st' = st ∧ ∃ n, c = (none, n) ∧ 1 ≤ n ∧ n ≤ nrem) ?_ ?_ ⟨rfl, rfl⟩) ?_)
  · rintro x c st1 hx1 hx2 ⟨rfl, rfl⟩
    dsimp only
    refine wpS_bind (lt (Kp.rfl' _) (by omega) (by omega) fun b => ?_)
    cases b
    · exact wpS_pure ⟨rfl, rfl⟩
    · exact wpS_pure ⟨rfl, x, rfl, hx1, by omega⟩
  · rintro c st1 ⟨rfl, rfl⟩
    exact ⟨rfl, _, rfl, by omega, by omega⟩
  rintro c st1 ⟨rfl, n, rfl, hn1, hn2⟩
  dsimp only
  by_cases c1 : (n == nrem) = true
  · rw [if_pos c1]
    exact wpS_pure (h n _ (Kp.rfl' _) hn1 hn2)
  rw [if_neg c1]
  have c1 : ¬ n = nrem := fun e => c1 (by rw [e]; exact beq_self_eq_true _)
  have desc : ∀ st2, Kp st1 st2 → ∀ Z : StateT SortSt Sem (Option Nat), Z = (do
      rule "list.sort.descending-run"
      let mut n := n + 1
      let mut neq := 0
      for _ in [n:nrem] do
        let some smaller ← ltAt' (lo + n) (lo + n - 1) | return none
        if smaller then
          if neq > 0 then reverseSlice' (lo + n - (neq + 1)) (lo + n)
          neq := 0
        else
          let some larger ← ltAt' (lo + n - 1) (lo + n) | return none
          if larger then break
          neq := neq + 1
        n := n + 1
      if neq > 0 then reverseSlice' (lo + n - (neq + 1)) (lo + n)
      reverseSlice' lo (lo + n)
      for _ in [n:nrem] do
        let some smaller ← ltAt' (lo + n) (lo + n - 1) | return none
        if smaller then break
        n := n + 1
      return some n) → wpS (model prog w) A E s Z Q st2 := by
    rintro st2 hK2 Z rfl
    dsimp only
    refine wpS_bind (wpS_lift (wpAny_rule ⟨rfl, ?_⟩))
    refine wpS_bind (wpS_mono (wpS_forRange (I := fun x c st' => Kp st1 st' ∧ ∃ q, c = (none, x, q)) (Q := fun c st' => Kp st1 st' ∧ ∃ m q, c = (none, m, q) ∧ 1 ≤ m ∧ m ≤ nrem) ?_ ?_ ⟨hK2, 0, rfl⟩) ?_)
    · rintro x c st3 hx1 hx2 ⟨hK3, q, rfl⟩
      dsimp only
      refine wpS_bind (lt hK3 (by omega) (by omega) fun b => ?_)
      cases b
      · simp only [Bool.false_eq_true, if_false]
        refine wpS_bind (lt hK3 (by omega) (by omega) fun b => ?_)
        cases b
        · exact wpS_pure ⟨hK3, _, rfl⟩
        · exact wpS_pure ⟨hK3, x, q, rfl, by omega, by omega⟩
      · simp only [if_true]
        by_cases hq : q > 0
        · rw [if_pos hq]
          exact wpS_bind (wpS_revX hK3 fun st4 hK4 => wpS_pure ⟨hK4, _, rfl⟩)
        · rw [if_neg hq]
          exact wpS_pure ⟨hK3, _, rfl⟩
    · rintro c st3 ⟨hK3, q, rfl⟩
      exact ⟨hK3, _, q, rfl, by omega, by omega⟩
    rintro c st3 ⟨hK3, m, q, rfl, hm1, hm2⟩
    dsimp only
    have fin : ∀ st4, Kp st1 st4 → ∀ Z : StateT SortSt Sem (Option Nat), Z = (do
        reverseSlice' lo (lo + m)
        let mut n := m
        for _ in [n:nrem] do
          let some smaller ← ltAt' (lo + n) (lo + n - 1) | return none
          if smaller then break
          n := n + 1
        return some n) → wpS (model prog w) A E s Z Q st4 := by
      rintro st4 hK4 Z rfl
      refine wpS_bind (wpS_revX hK4 fun st5 hK5 => ?_)
      refine wpS_bind (wpS_mono (wpS_forRange (I := fun x c st' => st' = st5 ∧ c = (none, x)) (Q := fun c st' => st' = st5 ∧ ∃ n, c = (none, n) ∧ 1 ≤ n ∧ n ≤ nrem) ?_ ?_ ⟨rfl, rfl⟩) ?_)
      · rintro x c st6 hx1 hx2 ⟨rfl, rfl⟩
        dsimp only
        refine wpS_bind (lt hK5 (by omega) (by omega) fun b => ?_)
        cases b
        · exact wpS_pure ⟨rfl, rfl⟩
        · exact wpS_pure ⟨rfl, x, rfl, by omega, by omega⟩
      · rintro c st6 ⟨rfl, rfl⟩
        exact ⟨rfl, _, rfl, by omega, by omega⟩
      rintro c st6 ⟨rfl, n', rfl, hn1, hn2⟩
      exact wpS_pure (h n' _ hK5 hn1 hn2)
    by_cases hq : q > 0
    · rw [if_pos hq]
      exact wpS_bind (wpS_revX hK3 fun st4 hK4 => fin st4 hK4 _ rfl)
    · rw [if_neg hq]
      exact fin st3 hK3 _ rfl
  by_cases c2 : n > 1
  · rw [if_pos c2]
    refine wpS_bind (lt (Kp.rfl' _) (by omega) (by omega) fun b => ?_)
    cases b
    · simp only [Bool.false_eq_true, if_false]
      exact wpS_bind (wpS_revX (Kp.rfl' _) fun st2 hK2 => desc st2 hK2 _ rfl)
    · simp only [if_true]
      exact wpS_pure (h n _ (Kp.rfl' _) hn1 hn2)
  · rw [if_neg c2]
    exact desc _ (Kp.rfl' _) _ rfl
theorem SI.kp {a₀ : Array Keyed} {lo : Nat} {st st' : SortSt} (h : SI a₀ κ lo st) (hK : Kp st st') : SI a₀ κ lo st' := by
  obtain ⟨h1, h2, h3, h4⟩ := h
  exact ⟨hK.2.1.trans h1, hK.1.trans h2, hK.2.2.2.trans h3, by rw [hK.2.2.1]; exact h4⟩
theorem ite_lt {P : Prop} [Decidable P] {a b n : Nat} (h1 : a + 1 < n) (h2 : b + 1 < n) : (if P then a else b) + 1 < n := by
  split <;> assumption
theorem wpS_sortRunsX {a₀ : Array Keyed} {st : SortSt} {Q : Unit → SortSt → Prop} (hc : CmpOk prog w A s κ X) (ha : AllX X a₀) (hI : SI a₀ κ 0 st)
    (h : ∀ st', (arrOf st').Perm a₀ → failedOf st' = none → Q () st') : wpS (model prog w) A E s sortRuns' Q st := by
  rw [sortRuns'_eq]
  refine wpS_bind (wpS_get ?_)
  dsimp only
  have hsz : (arrOf st).size = a₀.size := hI.1.size_eq
  rw [hsz]
  generalize minRun' a₀.size a₀.size 0 = mr
  refine wpS_bind (wpS_mono (wpS_forRange (I := fun x c st' => c.1 = none ∧ c.2 ≤ a₀.size ∧ SI a₀ κ c.2 st') (Q := fun c st' => c.1 = none ∧ c.2 ≤ a₀.size ∧ SI a₀ κ c.2 st') ?_ (fun _ _ z => z) ⟨rfl, Nat.zero_le _, hI⟩) ?_)
  · rintro x ⟨r, lo⟩ st1 _ _ ⟨hr, hlo, h1⟩
    dsimp only at hr hlo h1 ⊢
    subst hr
    by_cases c0 : lo ≥ a₀.size
    · rw [if_pos c0]
      exact wpS_pure ⟨rfl, hlo, h1⟩
    rw [if_neg c0]
    have hs1 : (arrOf st1).size = a₀.size := h1.1.size_eq
    refine wpS_bind (wpS_countRunX hc h1.2.1 (ha.perm h1.1) (by omega) (by omega) fun m st2 hK2 hm1 hm2 => ?_)
    dsimp only
    have h2 := h1.kp hK2
    by_cases c1 : m < mr
    · rw [if_pos c1]
      refine wpS_bind (wpS_lift (wpAny_rule ⟨rfl, ?_⟩))
      have hs2 : (arrOf st2).size = a₀.size := h2.1.size_eq
      refine wpS_bind (wpS_binarySortX hc h2.2.1 (ha.perm h2.1) (by omega) fun st3 hK3 => ?_)
      simp only [Bool.not_true, Bool.false_eq_true, if_false]
      have psh : ∀ st4, SI a₀ κ lo st4 → SI a₀ κ (lo + min (a₀.size - lo) mr) (setPending st4 ((pendingOf st4).push (lo, min (a₀.size - lo) mr, 0))) := fun st4 h4 => by
        refine ⟨h4.1, h4.2.1, h4.2.2.1, ?_⟩
        show Chn 0 ((pendingOf st4).push (lo, min (a₀.size - lo) mr, 0)).toList (lo + min (a₀.size - lo) mr)
        rw [Array.toList_push]
        exact h4.2.2.2.snoc (by omega)
      refine wpS_bind (wpS_get ?_)
      cases hb : (pendingOf st3).back? with
      | none =>
        dsimp only
        exact wpS_bind (wpS_modify (wpS_pure ⟨rfl, by dsimp only; omega, psh st3 (h2.kp hK3)⟩))
      | some bk =>
        obtain ⟨s1, n1, p1⟩ := bk
        dsimp only
        generalize power' a₀.size (2 * s1 + n1) (2 * s1 + n1 + n1 + min (a₀.size - lo) mr) a₀.size = pw
        refine wpS_bind (wpS_mono (wpS_forRange (I := fun _ c st' => c = (none, ()) ∧ SI a₀ κ lo st') (Q := fun c st' => c = (none, ()) ∧ SI a₀ κ lo st') ?_ (fun _ _ z => z) ⟨rfl, (h2.kp hK3)⟩) ?_)
        · rintro y c st4 _ _ ⟨rfl, h4⟩
          refine wpS_bind (wpS_get ?_)
          by_cases c1 : (pendingOf st4).size > 1
          · rw [if_pos c1, getElem?_pos (pendingOf st4) ((pendingOf st4).size - 2) (by omega)]
            generalize (pendingOf st4)[(pendingOf st4).size - 2]'_ = o
            obtain ⟨o1, o2, older⟩ := o
            dsimp only
            by_cases c2 : older ≤ pw
            · rw [if_pos c2]
              exact wpS_pure ⟨rfl, h4⟩
            rw [if_neg c2]
            refine wpS_bind (wpS_mergeAt hc ha h4 hlo (by omega) fun st5 h5 => ?_)
            exact wpS_pure ⟨rfl, h5⟩
          · rw [if_neg c1]
            exact wpS_pure ⟨rfl, h4⟩
        · rintro c st4 ⟨rfl, h4⟩
          have h5 : SI a₀ κ lo (setPending st4 ((pendingOf st4).modify ((pendingOf st4).size - 1) fun (st, len, _) => (st, len, pw))) := by
            refine ⟨h4.1, h4.2.1, h4.2.2.1, ?_⟩
            show Chn 0 ((pendingOf st4).modify ((pendingOf st4).size - 1) fun (st, len, _) => (st, len, pw)).toList lo
            rw [Array.toList_modify]
            exact h4.2.2.2.last (fun _ => pw) _
          exact wpS_bind (wpS_modify (wpS_bind (wpS_modify (wpS_pure ⟨rfl, by dsimp only; omega, psh _ h5⟩))))
    · rw [if_neg c1]
      have psh : ∀ st4, SI a₀ κ lo st4 → SI a₀ κ (lo + m) (setPending st4 ((pendingOf st4).push (lo, m, 0))) := fun st4 h4 => by
        refine ⟨h4.1, h4.2.1, h4.2.2.1, ?_⟩
        show Chn 0 ((pendingOf st4).push (lo, m, 0)).toList (lo + m)
        rw [Array.toList_push]
        exact h4.2.2.2.snoc hm1
      refine wpS_bind (wpS_get ?_)
      cases hb : (pendingOf st2).back? with
      | none =>
        dsimp only
        exact wpS_bind (wpS_modify (wpS_pure ⟨rfl, by dsimp only; omega, psh st2 h2⟩))
      | some bk =>
        obtain ⟨s1, n1, p1⟩ := bk
        dsimp only
        generalize power' a₀.size (2 * s1 + n1) (2 * s1 + n1 + n1 + m) a₀.size = pw
        refine wpS_bind (wpS_mono (wpS_forRange (I := fun _ c st' => c = (none, ()) ∧ SI a₀ κ lo st') (Q := fun c st' => c = (none, ()) ∧ SI a₀ κ lo st') ?_ (fun _ _ z => z) ⟨rfl, h2⟩) ?_)
        · rintro y c st4 _ _ ⟨rfl, h4⟩
          refine wpS_bind (wpS_get ?_)
          by_cases c1 : (pendingOf st4).size > 1
          · rw [if_pos c1, getElem?_pos (pendingOf st4) ((pendingOf st4).size - 2) (by omega)]
            generalize (pendingOf st4)[(pendingOf st4).size - 2]'_ = o
            obtain ⟨o1, o2, older⟩ := o
            dsimp only
            by_cases c2 : older ≤ pw
            · rw [if_pos c2]
              exact wpS_pure ⟨rfl, h4⟩
            rw [if_neg c2]
            refine wpS_bind (wpS_mergeAt hc ha h4 hlo (by omega) fun st5 h5 => ?_)
            exact wpS_pure ⟨rfl, h5⟩
          · rw [if_neg c1]
            exact wpS_pure ⟨rfl, h4⟩
        · rintro c st4 ⟨rfl, h4⟩
          have h5 : SI a₀ κ lo (setPending st4 ((pendingOf st4).modify ((pendingOf st4).size - 1) fun (st, len, _) => (st, len, pw))) := by
            refine ⟨h4.1, h4.2.1, h4.2.2.1, ?_⟩
            show Chn 0 ((pendingOf st4).modify ((pendingOf st4).size - 1) fun (st, len, _) => (st, len, pw)).toList lo
            rw [Array.toList_modify]
            exact h4.2.2.2.last (fun _ => pw) _
          exact wpS_bind (wpS_modify (wpS_bind (wpS_modify (wpS_pure ⟨rfl, by dsimp only; omega, psh _ h5⟩))))
  · rintro ⟨r, lo⟩ st1 ⟨hr, hlo, h1⟩
    dsimp only at hr hlo h1 ⊢
    subst hr
    dsimp only
    refine wpS_bind (wpS_mono (wpS_forRange (I := fun _ c st' => c = (none, ()) ∧ SI a₀ κ lo st') (Q := fun c st' => c = (none, ()) ∧ SI a₀ κ lo st') ?_ (fun _ _ z => z) ⟨rfl, h1⟩) ?_)
    · rintro y c st4 _ _ ⟨rfl, h4⟩
      refine wpS_bind (wpS_get ?_)
      by_cases c1 : (pendingOf st4).size ≤ 1
      · rw [if_pos c1]
        exact wpS_pure ⟨rfl, h4⟩
      rw [if_neg c1]
      refine wpS_bind (wpS_mergeAt hc ha h4 hlo ?_ fun st5 h5 => ?_)
      · exact ite_lt (by omega) (by omega)
      · exact wpS_pure ⟨rfl, h5⟩
    · rintro c st4 ⟨rfl, h4⟩
      exact wpS_pure (h _ h4.1 h4.2.2.1)
end
end PyProof.Rows
set_option Elab.async false
set_option linter.all false
set_option maxRecDepth 100000
set_option maxHeartbeats 4000000
namespace L2
open PySem PySem.Spec PyProof.Rows
section
variable {P : Program} {w : World} {A : Around} {E : Value → Shared → Prop} {s : Shared}
theorem set_len_slot : Slot "set" "__len__" "set.__len__" :=
  .of (owner := "set") (n := "__len__") (by rw [typeLookup_type, builtinLookup_eq_fast]; kernel_rfl) (by decide +kernel) (by decide +kernel) (by decide +kernel)
    (by first | exact .inl (by decide +kernel) | exact .inr (by decide +kernel)) (by rw [isSubtype_type]; kernel_rfl)
theorem sub_set_set : isSubtype (.type "set") (.type "set") = pure true := by rw [isSubtype_type]; kernel_rfl
theorem split_len : splitId "set.__len__" = some ("set", "__len__") := by kernel_rfl
theorem hint_set {a : Addr} {Q : Bool → Shared → Prop} (T : s.TypeIs (.ref a) "set") (h : Q false s) : wpAny (model P w) A (Builtin.List.listLengthHint (.ref a)) Q E s := by
  unfold Builtin.List.listLengthHint
  refine wpAny_bind (wpAny_specialOf T set_len_slot.lookup ?_)
  dsimp only
  rw [split_len]
  dsimp only
  refine wpAny_bind (wpAny_isInstance (T := "set") (b := true) T sub_set_set ?_)
  simp only [Bool.not_true, Bool.false_eq_true, if_false]
  rw [if_pos (by first | rfl | decide +kernel | kernel_rfl)]
  refine wpAny_bind (wpAny_typeOf T ?_)
  exact wpAny_pure h
theorem collect_set {a : Addr} {o : Obj} {es : Array (Int × Value)} {ep : Nat} {t : SetTable} {Q : List Value → Shared → Prop} (hA : A.handled = none) (ho : s.heap.get? a = some o) (hex : o.ExactSet) (hd : o.data = .set es ep t) (hf : t.fits es.size = true) (hpl : t.plain = false) (h2 : 2 ≤ es.size) (hsz : es.size ≤ sizeLine)
    (hQ : ∀ (h' : Heap) (tk : Nat) d (vs : List Value), vs.Perm (es.toList.map (·.2)) → s.toks ≤ tk → s.heap.objs.size < h'.objs.size → (∀ b o, b < s.heap.objs.size → s.heap.get? b = some o → h'.get? b = some o) → Q vs { s with heap := h', toks := tk, drawn := d }) : wpAny (model P w) A (collect (.ref a)) Q E s := by
  have T : s.TypeIs (.ref a) "set" := ⟨o, ho, hex.1⟩
  have hlt : a < s.heap.objs.size := Heap.lt_size ho
  unfold collect
  refine wpAny_bind (wpAny_runValue (codeAny_builtin F.entry_proto_collect ?_))
  rw [Around.under_plainId F.plain_proto_collect _]
  show wpAny _ A.in1 (newList [] >>= fun l => again (.builtin "list.__iadd__" ⟨[l, .ref a], []⟩)) _ _ s
  refine wpAny_bind (wpAny_newObj_type ?_)
  refine wpAny_pure ⟨plainId_quiet F.plain_list_iadd _, codeAny_builtin F.entry_list_iadd ?_⟩
  rw [Around.under_plainId F.plain_list_iadd _]
  show wpAny _ A.in1 (Builtin.List.listExtendWith (.ref s.heap.objs.size) (.ref a) (.ref s.heap.objs.size)) _ _ { s with heap := s.heap.push (seqObj "list" #[] 0) }
  unfold Builtin.List.listExtendWith
  have ho1 : (s.heap.push (seqObj "list" #[] 0)).get? a = some o := Heap.get?_push_of_some _ ho
  have hs1 : (s.heap.push (seqObj "list" #[] 0)).objs.size = s.heap.objs.size + 1 := Heap.size_push _ _
  refine wpAny_bind (wpAny_typeOf (T := "set") ⟨o, ho1, hex.1⟩ ?_)
  have q1 : Builtin.List.listSameRef (.ref s.heap.objs.size) (.ref a) = false := by
    have : s.heap.objs.size ≠ a := Nat.ne_of_gt hlt
    simp [Builtin.List.listSameRef, this]
  have q2 : (Value.type "set" == Value.type "list") = false := by decide
  have q3 : (Value.type "set" == Value.type "tuple") = false := by decide
  simp only [q1, q2, q3, Bool.or_false, Bool.false_eq_true, if_false]
  refine wpAny_bind (iter_set (s := { s with heap := s.heap.push (seqObj "list" #[] 0) }) ho1 hex hd hf hpl h2 hsz (fun hT => ?_) (fun hT ys d hp => ?_))
  · have hneI : a ≠ (s.heap.push (seqObj "list" #[] 0)).objs.size := by
      rw [hs1]
      exact Nat.ne_of_lt (Nat.lt_succ_of_lt hlt)
    refine wpAny_bind (wpAny_holding (hint_set (s := { s with heap := (s.heap.push (seqObj "list" #[] 0)).push (itO a (rawInt 0) 0 es.size ep), drawn := s.drawn }) ⟨o, Heap.get?_push_of_some _ ho1, hex.1⟩ ?_))
    rw [if_pos (by first | rfl | decide +kernel | kernel_rfl)]
    refine wpAny_bind (wpAny_rule ?_)
    have hS₁ : ((s.heap.push (seqObj "list" #[] 0)).push (itO a (rawInt 0) 0 es.size ep)).get? s.heap.objs.size = some (seqObj "list" #[] 0) := Heap.get?_push_of_some _ (Heap.get?_push_size _ rfl)
    refine wpAny_bind ?_
    show wpAny _ A.in1 (updateSeq s.heap.objs.size (·.push .none) >>= fun _ => updateSeq s.heap.objs.size (·.pop)) _ _ { s with heap := (s.heap.push (seqObj "list" #[] 0)).push (itO a (rawInt 0) 0 es.size ep), drawn := s.drawn }
    refine wpAny_bind (wpAny_updateSeq hS₁ rfl ?_)
    have hS₂ := Heap.get?_update_self (Obj.mapSeq (·.push Value.none)) hS₁ rfl
    refine wpAny_updateSeq (s := { s with heap := ((s.heap.push (seqObj "list" #[] 0)).push (itO a (rawInt 0) 0 es.size ep)).update s.heap.objs.size (Obj.mapSeq (·.push Value.none)), drawn := s.drawn }) hS₂ rfl ?_
    have hS₃ := Heap.get?_update_self (Obj.mapSeq (·.pop)) hS₂ rfl
    have oth : ∀ b o, b ≠ s.heap.objs.size → ((s.heap.push (seqObj "list" #[] 0)).push (itO a (rawInt 0) 0 es.size ep)).get? b = some o →
        ((((s.heap.push (seqObj "list" #[] 0)).push (itO a (rawInt 0) 0 es.size ep)).update s.heap.objs.size (Obj.mapSeq (·.push Value.none))).update s.heap.objs.size (Obj.mapSeq (·.pop))).get? b = some o :=
      fun b o hb e => (Heap.get?_update_other _ _ (Ne.symm hb)).trans ((Heap.get?_update_other _ _ (Ne.symm hb)).trans e)
    have hW := walk_text (P := P) (A := A.in1) (by simp [hA]) hT (s.heap.push (seqObj "list" #[] 0)).objs.size a hneI hd hf
    refine wpAny_pure ⟨plainId_quiet F.plain_extend_loop _, codeAny_extend_loopS hW.toS hsz _ (by rw [hs1]; simp only [List.mem_cons, List.not_mem_nil, or_false, not_or]; exact ⟨Nat.ne_of_lt (Nat.lt_succ_self _), Nat.ne_of_gt hlt⟩) _ es.size 0 { s with heap := (((s.heap.push (seqObj "list" #[] 0)).push (itO a (rawInt 0) 0 es.size ep)).update s.heap.objs.size (Obj.mapSeq (·.push Value.none))).update s.heap.objs.size (Obj.mapSeq (·.pop)), drawn := s.drawn } _ _ rfl (Nat.zero_le _)
      ⟨oth _ _ (by rw [hs1]; exact Nat.succ_ne_self _) (Heap.get?_push_size _ rfl), oth _ _ (Nat.ne_of_lt hlt) (Heap.get?_push_of_some _ ho1)⟩ hS₃ (ItemsOf.nil _) fun s' acc' c' hm hS' hacc => ?_⟩
    show wpAny _ A (load s.heap.objs.size >>= _) _ _ s'
    refine wpAny_bind (wpAny_load hS' ?_)
    obtain ⟨h', g', d', tk', os'⟩ := s'
    have z1 : g' = s.gens := hm.gens
    have z2 : d' = s.drawn := hm.drawn
    have z3 : os' = s.os := hm.os
    subst z1 z2 z3
    refine wpAny_pure (hQ h' tk' _ _ ?_ hm.toks (Heap.lt_size hS') fun b o' hb e => hm.heap b o' (fun z => ?_) (oth b o' (Nat.ne_of_lt hb) ?_))
    · refine List.Perm.trans (List.Perm.of_eq ?_) ((pick_perm (w.params.setOrder a ep) es).map (·.2))
      have hl : (pickOrder (w.params.setOrder a ep) es).size = es.size := by
        rw [← Array.length_toList, (pick_perm _ es).length_eq, Array.length_toList]
      apply List.ext_getElem
      · rw [Array.length_toList, List.length_map, Array.length_toList, hacc.1, hl]
      · intro i q1 q2
        rw [Array.length_toList] at q1
        obtain ⟨x, hx, hv⟩ := hacc.2 i acc'[i] (getElem?_pos acc' i q1)
        rw [Array.getElem_toList, hv, List.getElem_map, Array.getElem_toList]
        obtain ⟨_, e⟩ := Array.getElem?_eq_some_iff.mp hx
        rw [e]
    · rcases List.mem_cons.mp z with z | z
      · exact Nat.ne_of_lt hb z
      · have z := List.mem_singleton.mp z
        rw [z] at hb
        exact absurd hb (by rw [hs1]; exact Nat.not_lt.mpr (by exact Nat.le_succ _))
    · exact Heap.get?_push_of_some _ (Heap.get?_push_of_some _ e)
  · have hneI : a ≠ (s.heap.push (seqObj "list" #[] 0)).objs.size + 1 := by
      rw [hs1]
      exact Nat.ne_of_lt (Nat.lt_succ_of_lt (Nat.lt_succ_of_lt hlt))
    have hs2 : ((s.heap.push (seqObj "list" #[] 0)).push (seqObj "tuple" (ys.map fun (i : Nat) => rawInt i).toArray 0)).objs.size = (s.heap.push (seqObj "list" #[] 0)).objs.size + 1 := Heap.size_push _ _
    have gI : (((s.heap.push (seqObj "list" #[] 0)).push (seqObj "tuple" (ys.map fun (i : Nat) => rawInt i).toArray 0)).push (itO a (.ref (s.heap.push (seqObj "list" #[] 0)).objs.size) 0 es.size ep)).get? ((s.heap.push (seqObj "list" #[] 0)).objs.size + 1) = some (itO a (.ref (s.heap.push (seqObj "list" #[] 0)).objs.size) 0 es.size ep) := by
      rw [← hs2]
      exact Heap.get?_push_size _ rfl
    refine wpAny_bind (wpAny_holding (hint_set (s := { s with heap := ((s.heap.push (seqObj "list" #[] 0)).push (seqObj "tuple" (ys.map fun (i : Nat) => rawInt i).toArray 0)).push (itO a (.ref (s.heap.push (seqObj "list" #[] 0)).objs.size) 0 es.size ep), drawn := d }) ⟨o, Heap.get?_push_of_some _ (Heap.get?_push_of_some _ ho1), hex.1⟩ ?_))
    rw [if_pos (by first | rfl | decide +kernel | kernel_rfl)]
    refine wpAny_bind (wpAny_rule ?_)
    have hS₁ : (((s.heap.push (seqObj "list" #[] 0)).push (seqObj "tuple" (ys.map fun (i : Nat) => rawInt i).toArray 0)).push (itO a (.ref (s.heap.push (seqObj "list" #[] 0)).objs.size) 0 es.size ep)).get? s.heap.objs.size = some (seqObj "list" #[] 0) := Heap.get?_push_of_some _ (Heap.get?_push_of_some _ (Heap.get?_push_size _ rfl))
    refine wpAny_bind ?_
    show wpAny _ A.in1 (updateSeq s.heap.objs.size (·.push .none) >>= fun _ => updateSeq s.heap.objs.size (·.pop)) _ _ { s with heap := ((s.heap.push (seqObj "list" #[] 0)).push (seqObj "tuple" (ys.map fun (i : Nat) => rawInt i).toArray 0)).push (itO a (.ref (s.heap.push (seqObj "list" #[] 0)).objs.size) 0 es.size ep), drawn := d }
    refine wpAny_bind (wpAny_updateSeq hS₁ rfl ?_)
    have hS₂ := Heap.get?_update_self (Obj.mapSeq (·.push Value.none)) hS₁ rfl
    refine wpAny_updateSeq (s := { s with heap := (((s.heap.push (seqObj "list" #[] 0)).push (seqObj "tuple" (ys.map fun (i : Nat) => rawInt i).toArray 0)).push (itO a (.ref (s.heap.push (seqObj "list" #[] 0)).objs.size) 0 es.size ep)).update s.heap.objs.size (Obj.mapSeq (·.push Value.none)), drawn := d }) hS₂ rfl ?_
    have hS₃ := Heap.get?_update_self (Obj.mapSeq (·.pop)) hS₂ rfl
    have oth : ∀ b o, b ≠ s.heap.objs.size → (((s.heap.push (seqObj "list" #[] 0)).push (seqObj "tuple" (ys.map fun (i : Nat) => rawInt i).toArray 0)).push (itO a (.ref (s.heap.push (seqObj "list" #[] 0)).objs.size) 0 es.size ep)).get? b = some o →
        (((((s.heap.push (seqObj "list" #[] 0)).push (seqObj "tuple" (ys.map fun (i : Nat) => rawInt i).toArray 0)).push (itO a (.ref (s.heap.push (seqObj "list" #[] 0)).objs.size) 0 es.size ep)).update s.heap.objs.size (Obj.mapSeq (·.push Value.none))).update s.heap.objs.size (Obj.mapSeq (·.pop))).get? b = some o :=
      fun b o hb e => (Heap.get?_update_other _ _ (Ne.symm hb)).trans ((Heap.get?_update_other _ _ (Ne.symm hb)).trans e)
    have hW := walk_drawn (P := P) (w := w) (A := A.in1) (by simp [hA]) ((s.heap.push (seqObj "list" #[] 0)).objs.size + 1) a (s.heap.push (seqObj "list" #[] 0)).objs.size hneI (Nat.ne_of_lt (Nat.lt_succ_self _)) hd hf hp
    refine wpAny_pure ⟨plainId_quiet F.plain_extend_loop _, codeAny_extend_loopS hW.toS hsz _ (by rw [hs1]; simp only [List.mem_cons, List.not_mem_nil, or_false, not_or]; exact ⟨Nat.ne_of_lt (Nat.lt_succ_of_lt (Nat.lt_succ_self _)), Nat.ne_of_gt hlt, Nat.ne_of_lt (Nat.lt_succ_self _)⟩) _ es.size 0 { s with heap := ((((s.heap.push (seqObj "list" #[] 0)).push (seqObj "tuple" (ys.map fun (i : Nat) => rawInt i).toArray 0)).push (itO a (.ref (s.heap.push (seqObj "list" #[] 0)).objs.size) 0 es.size ep)).update s.heap.objs.size (Obj.mapSeq (·.push Value.none))).update s.heap.objs.size (Obj.mapSeq (·.pop)), drawn := d } _ _ rfl (Nat.zero_le _)
      ⟨oth _ _ (by rw [hs1]; exact Nat.ne_of_gt (Nat.lt_succ_of_lt (Nat.lt_succ_self _))) gI, oth _ _ (Nat.ne_of_lt hlt) (Heap.get?_push_of_some _ (Heap.get?_push_of_some _ ho1)), oth _ _ (by rw [hs1]; exact Nat.succ_ne_self _) (Heap.get?_push_of_some _ (Heap.get?_push_size _ rfl))⟩ hS₃ (ItemsOf.nil _) fun s' acc' c' hm hS' hacc => ?_⟩
    show wpAny _ A (load s.heap.objs.size >>= _) _ _ s'
    refine wpAny_bind (wpAny_load hS' ?_)
    obtain ⟨h', g', d', tk', os'⟩ := s'
    have z1 : g' = s.gens := hm.gens
    have z2 : d' = d := hm.drawn
    have z3 : os' = s.os := hm.os
    subst z1 z2 z3
    refine wpAny_pure (hQ h' tk' _ _ ?_ hm.toks (Heap.lt_size hS') fun b o' hb e => hm.heap b o' (fun z => ?_) (oth b o' (Nat.ne_of_lt hb) ?_))
    · have hyl : ys.length = es.size := by rw [hp.length_eq, List.length_range]
      have e0 : acc'.toList = (ys.filterMap (es[·]?)).map (·.2) := by
        apply List.ext_getElem?
        intro i
        rw [List.getElem?_map, Tb.fm_get es ys (fun y hy => List.mem_range.mp (hp.mem_iff.mp hy))]
        by_cases q1 : i < acc'.size
        · have e1 := getElem?_pos acc' i q1
          obtain ⟨y, x, hy, hx, hv⟩ := hacc.2 i acc'[i] e1
          have e2 : acc'.toList[i]? = some acc'[i] := by rw [Array.getElem?_toList]; exact e1
          rw [e2, hy, Option.bind_some, hx, hv]
          rfl
        · have e2 : acc'.toList[i]? = none := List.getElem?_eq_none (by rw [Array.length_toList]; omega)
          rw [e2, List.getElem?_eq_none (by rw [hyl, ← hacc.1]; omega)]
          rfl
      rw [e0]
      refine List.Perm.map _ ?_
      have e3 : (List.range es.size).filterMap (es[·]?) = es.toList := by
        apply List.ext_getElem?
        intro n
        have e4 : es.toList[n]? = es[n]? := Array.getElem?_toList
        rw [e4, Tb.fm_get es _ (fun i hi => List.mem_range.mp hi)]
        by_cases hn : n < es.size
        · rw [List.getElem?_range hn]
          rfl
        · have e5 : (List.range es.size)[n]? = none := List.getElem?_eq_none (by rw [List.length_range]; omega)
          rw [e5, Array.getElem?_eq_none (by omega)]
          rfl
      rw [← e3]
      exact hp.filterMap _
    · rcases List.mem_cons.mp z with z | z
      · exact Nat.ne_of_lt hb z
      · have z := List.mem_singleton.mp z
        rw [z] at hb
        exact absurd hb (by rw [hs1]; exact Nat.not_lt.mpr (by exact Nat.le_succ_of_le (Nat.le_succ _)))
    · exact Heap.get?_push_of_some _ (Heap.get?_push_of_some _ (Heap.get?_push_of_some _ e))
end
end L2
set_option Elab.async false
set_option linter.all false
set_option maxRecDepth 100000
set_option maxHeartbeats 4000000
namespace L2
open PySem PySem.Spec PyProof.Rows
def Shp (k : List Key) : Prop := ∃ (a : Int) (d : Str) (b : Int) (z : Str), k = [.inl a, .inr d, .inl b, .inr z]
section
variable {P : Program} {w : World} {A : Around} {E : Value → Shared → Prop} {s : Shared}
theorem key_int {i : Int} {v : Value} (h : (mixKind P w).is (.inl i) v = true) : ∃ t, v = .int i t := by
  rcases keyIs_shape (show keyIs (.inl i) v = true from h) with ⟨j, t, e, rfl⟩ | ⟨y, t, e, rfl⟩
  · cases e; exact ⟨t, rfl⟩
  · cases e
theorem key_str {x : Str} {v : Value} (h : (mixKind P w).is (.inr x) v = true) : ∃ t, v = .str x t := by
  rcases keyIs_shape (show keyIs (.inr x) v = true from h) with ⟨j, t, e, rfl⟩ | ⟨y, t, e, rfl⟩
  · cases e
  · cases e; exact ⟨t, rfl⟩
theorem shp_items {h : Heap} {k : List Key} {b : Addr} (hs : Shp k) (hk : IsTupleKey (mixKind P w) h k b) : ∃ o xs n i1 t1 x1 t2 i2 t3 x2 t4, h.get? b = some o ∧ o.cls = .type "tuple" ∧ o.data = .seq xs n ∧ xs.toList = [.int i1 t1, .str x1 t2, .int i2 t3, .str x2 t4] := by
  obtain ⟨a, d, c, z, rfl⟩ := hs
  obtain ⟨o, xs, n, ho, hc, hd, hi⟩ := hk
  generalize hv : xs.toList = vs at hi
  cases hi with
  | cons q1 r1 =>
    cases r1 with
    | cons q2 r2 =>
      cases r2 with
      | cons q3 r3 =>
        cases r3 with
        | cons q4 r4 =>
          cases r4
          obtain ⟨t1, rfl⟩ := key_int q1
          obtain ⟨t2, rfl⟩ := key_str q2
          obtain ⟨t3, rfl⟩ := key_int q3
          obtain ⟨t4, rfl⟩ := key_str q4
          exact ⟨o, xs, n, a, t1, d, t2, c, t3, z, t4, ho, hc, hd, hv⟩
theorem cmp_ways {x y : Addr} {k1 k2 : List Key} {Q : Bool → Shared → Prop} (s1 : Shp k1) (s2 : Shp k2) (h1 : IsTupleKey (mixKind P w) s.heap k1 x) (h2 : IsTupleKey (mixKind P w) s.heap k2 y) (h : ∀ b, Q b s) : wpAny (model P w) A (keyLt' (tuples' true) (.ref x) (.ref y)) Q E s := by
  obtain ⟨o, xs, n, i1, t1, x1, t2, i2, t3, x2, t4, ho, _, hd, hv⟩ := shp_items s1 h1
  obtain ⟨o', ys, n', j1, u1, y1, u2, j2, u3, y2, u4, ho', _, hd', hv'⟩ := shp_items s2 h2
  refine W.kat_lt ho hd ho' hd' ?_
  rw [hv, hv']
  have one : ∀ {e : Bool} {p q : Value} {r : List (Value × Value)} {i : Nat} {fin : Bool}, (∀ b, Q b s) → W.KatLex P w A true fin Q r (i + 1) s → wpAny (model P w) A (oneLt' (true && i == 0) p q) Q (fun _ _ => False) s → W.KatGo P w A true fin Q p q r i e s := by
    intro e p q r i fin _ a b
    cases e
    · exact W.kat_no b
    · exact W.kat_yes a
  refine W.kat_cons (wpAny_eqBool_int (one h ?_ (oneLt_int (h _))))
  refine W.kat_cons (wpAny_eqBool_str (one h ?_ (W.kat_one _ _ ?_)))
  · refine W.kat_cons (wpAny_eqBool_int (one h ?_ (W.kat_one _ _ ?_)))
    · refine W.kat_cons (wpAny_eqBool_str (one h ?_ (W.kat_one _ _ ?_)))
      · exact W.kat_nil (h _)
      · exact PySem.P.lt_str (h _)
    · exact PyProof.Rows.lt_int (h _)
  · exact PySem.P.lt_str (h _)
def WaysIn (P : Program) (w : World) (h : Heap) (vs : List Value) : Prop := ∀ v ∈ vs, ∃ b k, v = .ref b ∧ Shp k ∧ IsTupleKey (mixKind P w) h k b
theorem ways_tups {h : Heap} : ∀ {vs : List Value}, WaysIn P w h vs → ∃ fs : List Value, W.KatTups h vs fs ∧ fs.length = vs.length ∧ ∀ v ∈ fs, ∃ i t, v = .int i t
  | [], _ => ⟨[], W.KatTups.nil, rfl, fun v hv => by cases hv⟩
  | v :: vs, hw => by
    obtain ⟨fs, h1, h2, h3⟩ := ways_tups (vs := vs) fun u hu => hw u (List.mem_cons_of_mem _ hu)
    obtain ⟨b, k, rfl, hs, hk⟩ := hw v List.mem_cons_self
    obtain ⟨o, xs, n, i1, t1, x1, t2, i2, t3, x2, t4, ho, hc, hd, hv⟩ := shp_items hs hk
    refine ⟨.int i1 t1 :: fs, W.KatTups.cons ho hc hd (by rw [← Array.getElem?_toList, hv]; rfl) h1, by rw [List.length_cons, List.length_cons, h2], fun u hu => ?_⟩
    rcases List.mem_cons.mp hu with rfl | hu
    · exact ⟨_, _, rfl⟩
    · exact h3 u hu
theorem kind_ways {vs : List Value} {Q : SortKind → Shared → Prop} (hw : WaysIn P w s.heap vs) (hne : 0 < vs.length) (h : Q (tuples' true) s) : wpAny (model P w) A (keyKind' vs.toArray) Q E s := by
  obtain ⟨fs, h1, h2, h3⟩ := ways_tups hw
  refine W.kat_kind (T := .type "int") h1 (by omega) (fun v hv => ?_) (by decide) ?_
  · obtain ⟨i, t, rfl⟩ := h3 v hv
    exact fun A Q E s k q => wpAny_typeOf (typeIs_int s i t) q
  · exact h
theorem list_sort_perm {a : Addr} {vs : List Value} {n : Nat} {R : PySem.Fin → Shared → Prop} (ho : s.heap.get? a = some (seqObj "list" vs.toArray n)) (hw : WaysIn P w s.heap vs) (h2 : 2 ≤ vs.length) (hsz : vs.length ≤ 100000)
    (h : ∀ out : Array Value, out.toList.Perm vs → R (.done (.ret .none)) { s with heap := sortedHeap s.heap a vs out }) :
    wpAny (model P w) A (Builtin.«list.sort» ⟨[.ref a], []⟩) R E s := by
  rw [list_sort_plain]
  have hline : vs.length ≤ sizeLine := Nat.le_trans hsz (by decide)
  have ha : a < s.heap.objs.size := Heap.lt_size ho
  refine wpAny_bind (listItems_at ho rfl ?_)
  refine wpAny_bind (listUpdate_at ho rfl ?_ (by rw [List.size_toArray]; exact hline) (Nat.zero_le _))
  obtain ⟨e1, ho1⟩ : ∃ e1, (s.heap.update a (Obj.mapSeq fun _ => #[])).get? a = some (seqObj "list" #[] e1) := ⟨_, get?_update_seq ho (fun _ => #[])⟩
  refine wpAny_bind (seqEpoch_at ho1 rfl ?_)
  refine wpAny_bind (wpAny_newTuple ?_ (by rw [List.toList_toArray]; exact hline))
  refine wpAny_bind (wpAny_newList ?_)
  refine wpAny_holding ?_
  have ho6 : (((s.heap.update a (Obj.mapSeq fun _ => #[])).push (seqObj "tuple" vs.toArray 0)).push (seqObj "list" #[] 0)).get? a = some (seqObj "list" #[] e1) := by
    rw [Heap.get?_push_ne _ _ _ (by rw [size_push', Heap.size_update]; exact Nat.ne_of_lt (Nat.lt_succ_of_lt ha)), Heap.get?_push_ne _ _ _ (by rw [Heap.size_update]; exact Nat.ne_of_lt ha)]
    exact ho1
  have hw6 : WaysIn P w (((s.heap.update a (Obj.mapSeq fun _ => #[])).push (seqObj "tuple" vs.toArray 0)).push (seqObj "list" #[] 0)) vs := fun v hv => by
    obtain ⟨b, k, rfl, hs, o, xs, m, hb, hc, hd, hi⟩ := hw v hv
    refine ⟨b, k, rfl, hs, o, xs, m, ?_, hc, hd, hi⟩
    have hne : a ≠ b := by
      rintro rfl
      rw [ho] at hb
      cases hb
      exact absurd (show Value.type "list" = Value.type "tuple" from hc) (by decide)
    exact Heap.get?_push_of_some _ (Heap.get?_push_of_some _ ((Heap.get?_update_other _ _ hne).trans hb))
  show wpAny (model P w) A _ R E { s with heap := ((s.heap.update a (Obj.mapSeq fun _ => #[])).push (seqObj "tuple" vs.toArray 0)).push (seqObj "list" #[] 0) }
  dsimp only
  have hsz' : vs.toArray.size = vs.length := by simp
  rw [if_neg (by rw [hsz']; omega), if_neg (by rw [hsz']; omega)]
  refine wpAny_bind (kind_ways (s := { s with heap := ((s.heap.update a (Obj.mapSeq fun _ => #[])).push (seqObj "tuple" vs.toArray 0)).push (seqObj "list" #[] 0) }) hw6 (by omega) ?_)
  have hX : AllX (fun p : Keyed => p.1 ∈ vs) (pairsOf vs) := fun p hp => by
    rw [pairsOf_toList] at hp
    exact (List.of_mem_zip hp).1
  refine wpAny_bind (wpAny_mono (wpS_sortRunsX (prog := P) (w := w) (A := A) (E := E) (s := { s with heap := ((s.heap.update a (Obj.mapSeq fun _ => #[])).push (seqObj "tuple" vs.toArray 0)).push (seqObj "list" #[] 0) }) (κ := tuples' true) (X := fun p : Keyed => p.1 ∈ vs) (a₀ := pairsOf vs) (st := SortSt.mk' (tuples' true) (vs.toArray.zip vs.toArray) #[] 7 none)
    (Q := fun _ st' => (arrOf st').Perm (pairsOf vs) ∧ failedOf st' = none) (fun x y hx hy Q' E' hq => ?_) hX ⟨Array.Perm.refl _, rfl, rfl, rfl⟩ fun st' a1 a2 => ⟨a1, a2⟩) ?_ fun _ _ e => e)
  · obtain ⟨b1, k1, e1, s1, q1⟩ := hw6 _ hx
    obtain ⟨b2, k2, e2, s2, q2⟩ := hw6 _ hy
    rw [e1, e2]
    exact cmp_ways s1 s2 q1 q2 hq
  · rintro ⟨⟨⟩, st'⟩ s' ⟨rfl, hp, hf⟩
    dsimp only
    refine wpAny_bind (seqEpoch_at ho6 rfl ?_)
    have hpm : ((arrOf st').map (·.2)).toList.Perm vs := by
      rw [Array.toList_map]
      refine ((Array.perm_iff_toList_perm.mp hp).map _).trans ?_
      rw [pairsOf_toList]
      refine List.Perm.of_eq ?_
      exact List.map_snd_zip (Nat.le_refl _)
    refine wpAny_bind (listUpdate_at ho6 rfl ?_ (hsz2 := by rw [← Array.length_toList, hpm.length_eq]; exact Nat.le_succ_of_le hline))
    rw [hf]
    simp only [bne_self_eq_false, Bool.false_eq_true, if_false]
    exact wpAny_pure (h _ hpm)
theorem map_perm {α β : Type} {f : α → β} {l m : List β} (h : l.Perm m) : ∀ {es : List α}, es.map f = l → ∃ es', es.Perm es' ∧ es'.map f = m := by
  induction h with
  | nil => intro es e; exact ⟨es, .refl _, e⟩
  | cons x _ ih =>
    intro es e
    cases es with
    | nil => cases e
    | cons y es =>
      rw [List.map_cons] at e
      obtain ⟨e1, e2⟩ := List.cons.inj e
      obtain ⟨es', h1, h2⟩ := ih e2
      exact ⟨y :: es', h1.cons y, by rw [List.map_cons, h2, e1]⟩
  | swap x y l =>
    intro es e
    match es, e with
    | a :: b :: r, e =>
      simp only [List.map_cons, List.cons.injEq] at e
      obtain ⟨rfl, rfl, rfl⟩ := e
      exact ⟨b :: a :: r, .swap _ _ _, rfl⟩
  | trans _ _ ih1 ih2 =>
    intro es e
    obtain ⟨es1, h1, h2⟩ := ih1 e
    obtain ⟨es2, h3, h4⟩ := ih2 h2
    exact ⟨es2, h1.trans h3, h4⟩
open Classical in
theorem perm_by {α : Type} {D ds : List α} (hd : D.Nodup) (hs : ∀ k ∈ D, k ∈ ds) (hl : ds.length = D.length) : ds.Perm D := by
  induction D generalizing ds with
  | nil =>
    rw [List.length_nil, List.length_eq_zero_iff] at hl
    subst hl
    exact .refl _
  | cons d D ih =>
    have hm := hs d List.mem_cons_self
    have p1 := List.perm_cons_erase hm
    have hd' := List.nodup_cons.mp hd
    refine p1.trans ((ih hd'.2 (fun k hk => ?_) ?_).cons d)
    · refine (List.mem_erase_of_ne ?_).mpr (hs k (List.mem_cons_of_mem _ hk))
      rintro rfl
      exact hd'.1 hk
    · rw [List.length_erase_of_mem hm, hl]
      rfl
theorem part_keys {B : Addr → List Key → Prop} {h : Heap} {D : List (List Key)} : ∀ {es : List (Int × Value)}, (∀ e ∈ es, ∃ b k, e = (tupleKeyHash (mixKind P w) k, Value.ref b) ∧ k ∈ D ∧ IsTupleKey (mixKind P w) h k b ∧ B b k) → ∃ (bs : List Addr) (ds : List (List Key)), es.map (·.2) = bs.map Value.ref ∧ bs.length = ds.length ∧ es.length = bs.length ∧ (∀ k ∈ ds, k ∈ D) ∧ (∀ (i : Nat) b k, bs[i]? = some b → ds[i]? = some k → IsTupleKey (mixKind P w) h k b ∧ B b k) ∧ (∀ b, Value.ref b ∈ es.map (·.2) → ∃ (i : Nat), bs[i]? = some b)
  | [], _ => ⟨[], [], rfl, rfl, rfl, fun k hk => (by cases hk), fun i b k e => (by simp at e), fun b hb => (by cases hb)⟩
  | e :: es, hall => by
    obtain ⟨bs, ds, h1, h2, h3, h4, h5, h6⟩ := part_keys (es := es) fun x hx => hall x (List.mem_cons_of_mem _ hx)
    obtain ⟨b, k, rfl, hk, hkb, hBb⟩ := hall e List.mem_cons_self
    refine ⟨b :: bs, k :: ds, by rw [List.map_cons, List.map_cons, h1], by rw [List.length_cons, List.length_cons, h2], by rw [List.length_cons, List.length_cons, h3], fun x hx => ?_, fun i b' k' e1 e2 => ?_, fun b' hb' => ?_⟩
    · rcases List.mem_cons.mp hx with rfl | hx
      · exact hk
      · exact h4 x hx
    · cases i with
      | zero =>
        cases e1
        cases e2
        exact ⟨hkb, hBb⟩
      | succ i => exact h5 i b' k' e1 e2
    · rw [List.map_cons] at hb'
      rcases List.mem_cons.mp hb' with z | z
      · cases z
        exact ⟨0, rfl⟩
      · obtain ⟨i, hi⟩ := h6 b' z
        exact ⟨i + 1, hi⟩
theorem key_inj {h : Heap} {b : Addr} {k1 k2 : List Key} (h1 : IsTupleKey (mixKind P w) h k1 b) (h2 : IsTupleKey (mixKind P w) h k2 b) : k1 = k2 := by
  obtain ⟨o1, i1, n1, z1, _, z2, z3⟩ := h1
  obtain ⟨o2, i2, n2, y1, _, y2, y3⟩ := h2
  rw [z1] at y1
  cases y1
  rw [z2] at y2
  cases y2
  exact z3.inj y3
theorem sorted_set {B : Addr → List Key → Prop} {a : Addr} {D : List (List Key)} {Q : Value → Shared → Prop} (hA : A.handled = none) (hS : SetT P w B s.heap a D) (hD : ∀ k ∈ D, Shp k) (h2 : 2 ≤ D.length) (hsz : D.length < 1401)
    (h : ∀ (h' : Heap) (tk : Nat) d (l : Addr) (bs : List Addr) (ds : List (List Key)), s.heap.objs.size ≤ l → (∃ e, h'.get? l = some (seqObj "list" (bs.map Value.ref).toArray e)) → ds.Perm D → bs.length = ds.length → (∀ (i : Nat) b k, bs[i]? = some b → ds[i]? = some k → IsTupleKey (mixKind P w) s.heap k b ∧ B b k) → s.toks ≤ tk →
      (∀ b o, b < s.heap.objs.size → s.heap.get? b = some o → h'.get? b = some o) → Q (.ref l) { s with heap := h', toks := tk, drawn := d }) :
    wpAny (model P w) A (call (.builtin "sorted") [.ref a]) Q E s := by
  obtain ⟨hnd, o, es, ep, t, ho, hex, hd, hdm, hm, hfull, hlen, hT, hall, hin, hpl⟩ := id hS
  have hp : t.place.size = es.size := by rw [hT.len, Array.size_map]
  have hf : t.fits es.size = true := by
    simp only [SetTable.fits, Bool.and_eq_true, beq_iff_eq, decide_eq_true_eq]
    refine ⟨hp, ?_⟩
    unfold SetTable.fill
    rw [hdm, hp]
    have : es.size ≤ t.mask := by omega
    simpa using this
  have hplain : t.plain = false := by
    rcases hpl (fun k hk => by obtain ⟨x, d, c, z, rfl⟩ := hD k hk; exact ⟨d, by simp⟩) with e | e
    · rw [e] at h2; simp at h2
    · exact e
  refine Calls.call_function_entry kind_sorted plain_sorted entry_sorted (args_sorted1 _) ?_
  unfold Builtin.«sorted»
  refine wpAny_bind (m := checkCount "sorted" 1 1 _) (wpAny_pure ?_)
  refine wpAny_bind (collect_set (by simp [hA]) ho hex hd hf hplain (by omega) (Nat.le_trans (show es.size ≤ 10000 by omega) (by decide)) fun h1 tk d vs hvp htk hsz1 hk1 => ?_)
  have hvl : vs.length = es.size := by rw [hvp.length_eq, List.length_map, Array.length_toList]
  have hline : vs.length ≤ sizeLine := Nat.le_trans (show vs.length ≤ 10000 by omega) (by decide)
  refine wpAny_bind (wpAny_newList ?_ hline)
  have hoL : (h1.push (seqObj "list" vs.toArray 0)).get? h1.objs.size = some (seqObj "list" vs.toArray 0) := Heap.get?_push_size _ rfl
  have hkey1 : ∀ k b, IsTupleKey (mixKind P w) s.heap k b → IsTupleKey (mixKind P w) (h1.push (seqObj "list" vs.toArray 0)) k b := fun k b ⟨o', is, n, q1, q2, q3, q4⟩ => ⟨o', is, n, Heap.get?_push_of_some _ (hk1 b o' (Heap.lt_size q1) q1), q2, q3, q4⟩
  have hw : WaysIn P w (h1.push (seqObj "list" vs.toArray 0)) vs := fun v hv => by
    obtain ⟨e, he, rfl⟩ := List.mem_map.mp (hvp.mem_iff.mp hv)
    obtain ⟨b, k, rfl, hk, hkb, _⟩ := hall e he
    exact ⟨b, k, rfl, hD k hk, hkey1 k b hkb⟩
  refine wpAny_bind (wpAny_holding (wpAny_call_entry slot_list_sort ⟨_, hoL, rfl⟩ entry_list_sort (list_sort_perm (s := { s with heap := h1.push (seqObj "list" vs.toArray 0), toks := tk, drawn := d }) hoL hw (by omega) (by omega) fun out hpo => ⟨_, rfl, ?_⟩) (args_list_sort _)))
  refine wpAny_pure ⟨_, rfl, ?_⟩
  obtain ⟨es', he1, he2⟩ := map_perm (hvp.symm.trans hpo.symm) (es := es.toList) rfl
  obtain ⟨bs, ds, p1, p2, p3, p4, p5, p6⟩ := part_keys (P := P) (w := w) (B := B) (h := s.heap) (D := D) (es := es') fun e he => hall e (he1.mem_iff.mpr he)
  have hout : out = (bs.map Value.ref).toArray := by
    rw [← p1, he2]
  have hdl : ds.length = D.length := by rw [← p2, ← p3, ← he1.length_eq, Array.length_toList, hlen]
  refine h _ tk d h1.objs.size bs ds (Nat.le_of_lt hsz1) ?_ (perm_by hnd (fun k hk => ?_) hdl) p2 p5 htk fun b o' hb e => ?_
  · have hne1 : h1.objs.size ≠ (h1.push (seqObj "list" vs.toArray 0)).objs.size := by
      rw [size_push']
      exact Nat.ne_of_lt (Nat.lt_succ_self _)
    obtain ⟨e1, q1⟩ : ∃ e1, ((h1.push (seqObj "list" vs.toArray 0)).update h1.objs.size (Obj.mapSeq fun _ => #[])).get? h1.objs.size = some (seqObj "list" #[] e1) := ⟨_, get?_update_seq hoL (fun _ => #[])⟩
    have q2 : (((((h1.push (seqObj "list" vs.toArray 0)).update h1.objs.size (Obj.mapSeq fun _ => #[])).push (seqObj "tuple" vs.toArray 0)).push (seqObj "list" #[] 0))).get? h1.objs.size = some (seqObj "list" #[] e1) := Heap.get?_push_of_some _ (Heap.get?_push_of_some _ q1)
    have q3 := get?_update_seq q2 (fun _ => out)
    subst hout
    exact ⟨_, q3⟩
  · obtain ⟨b, hb, hkb⟩ := hin k hk
    obtain ⟨i, hi⟩ := p6 b (List.mem_map.mpr ⟨_, he1.mem_iff.mp hb, rfl⟩)
    have hil : i < ds.length := by
      rw [← p2]
      exact (List.getElem?_eq_some_iff.mp hi).1
    have := (p5 i b _ hi (List.getElem?_eq_getElem hil)).1
    rw [key_inj hkb this]
    exact List.getElem_mem hil
  · have hb1 : b < h1.objs.size := Nat.lt_trans hb hsz1
    have e1 := hk1 b o' hb e
    unfold sortedHeap
    refine (Heap.get?_update_other _ _ (Nat.ne_of_gt hb1)).trans (Heap.get?_push_of_some _ (Heap.get?_push_of_some _ ((Heap.get?_update_other _ _ (Nat.ne_of_gt hb1)).trans (Heap.get?_push_of_some _ e1))))
end
end L2
set_option Elab.async false
set_option linter.all false
set_option maxRecDepth 100000
set_option maxHeartbeats 4000000
namespace L2
open PySem PySem.Spec PyProof.Rows
abbrev enS (P : Program) (w : World) (x : Addr × List Key) : Int × Value := (tupleKeyHash (mixKind P w) x.2, .ref x.1)
def SetO (P : Program) (w : World) (h : Heap) (a : Addr) (L : List (Addr × List Key)) : Prop := ∃ o es ep t, h.get? a = some o ∧ o.ExactSet ∧ o.data = .set es ep t ∧ t.dummies = #[] ∧ Tb.Mask t.mask ∧ es.size * 5 < t.mask * 3 ∧ Tb.TOk t.mask t.place (es.map (·.1)) ∧ es.toList = L.map (enS P w) ∧ ((∀ x ∈ L, ∃ z, Sum.inr z ∈ x.2) → L = [] ∨ t.plain = false)
def setK (P : Program) (w : World) (a : Addr) (L : List (Addr × List Key)) : HO := .ext fun h => SetO P w h a L
section
variable {P : Program} {w : World}
theorem part_zip {h : Heap} {B : Addr → List Key → Prop} {D : List (List Key)} : ∀ {es : List (Int × Value)}, (∀ e ∈ es, ∃ b k, e = (tupleKeyHash (mixKind P w) k, Value.ref b) ∧ k ∈ D ∧ IsTupleKey (mixKind P w) h k b ∧ B b k) → ∃ L : List (Addr × List Key), es = L.map (enS P w) ∧ ∀ x ∈ L, x.2 ∈ D ∧ IsTupleKey (mixKind P w) h x.2 x.1 ∧ B x.1 x.2
  | [], _ => ⟨[], rfl, fun x hx => by cases hx⟩
  | e :: es, hall => by
    obtain ⟨L, h1, h2⟩ := part_zip (es := es) fun x hx => hall x (List.mem_cons_of_mem _ hx)
    obtain ⟨b, k, rfl, hk, hkb, hBb⟩ := hall e List.mem_cons_self
    refine ⟨(b, k) :: L, by rw [h1]; rfl, fun x hx => ?_⟩
    rcases List.mem_cons.mp hx with rfl | hx
    · exact ⟨hk, hkb, hBb⟩
    · exact h2 x hx
theorem SetT.obj {B : Addr → List Key → Prop} {h : Heap} {a : Addr} {D : List (List Key)} (hS : SetT P w B h a D) : ∃ L, SetO P w h a L ∧ (L.map (·.2)).Perm D ∧ ∀ x ∈ L, B x.1 x.2 := by
  obtain ⟨hnd, o, es, ep, t, ho, hex, hd, hdm, hm, hfull, hlen, hT, hall, hin, hpl⟩ := hS
  obtain ⟨L, h1, h2⟩ := part_zip hall
  have hl : L.length = D.length := by
    rw [← hlen, ← Array.length_toList, h1, List.length_map]
  refine ⟨L, ⟨o, es, ep, t, ho, hex, hd, hdm, hm, hfull, hT, h1, fun hx => ?_⟩, perm_by hnd (fun k hk => ?_) (by rw [List.length_map, hl]), fun x hx => (h2 x hx).2.2⟩
  · have hx' : ∀ k ∈ D, ∃ z, Sum.inr z ∈ k := fun k hk => by
      obtain ⟨b, hb, hkb⟩ := hin k hk
      rw [h1] at hb
      obtain ⟨x, hx', e⟩ := List.mem_map.mp hb
      have e2 : Value.ref x.1 = Value.ref b := congrArg Prod.snd e
      cases e2
      rw [key_inj hkb (h2 x hx').2.1]
      exact hx x hx'
    rcases hpl hx' with e | e
    · subst e
      rw [List.length_nil, List.length_eq_zero_iff] at hl
      exact .inl hl
    · exact .inr e
  · obtain ⟨b, hb, hkb⟩ := hin k hk
    rw [h1] at hb
    obtain ⟨x, hx', e⟩ := List.mem_map.mp hb
    have e2 : Value.ref x.1 = Value.ref b := congrArg Prod.snd e
    cases e2
    rw [key_inj hkb (h2 x hx').2.1]
    exact List.mem_map.mpr ⟨x, hx', rfl⟩
theorem SetO.set {B : Addr → List Key → Prop} {h : Heap} {a : Addr} {L : List (Addr × List Key)} (hS : SetO P w h a L) (hnd : (L.map (·.2)).Nodup) (hk : ∀ x ∈ L, IsTupleKey (mixKind P w) h x.2 x.1 ∧ B x.1 x.2) : SetT P w B h a (L.map (·.2)) := by
  obtain ⟨o, es, ep, t, ho, hex, hd, hdm, hm, hfull, hT, h1, hpl⟩ := hS
  refine ⟨hnd, o, es, ep, t, ho, hex, hd, hdm, hm, hfull, ?_, hT, fun e he => ?_, fun k hk' => ?_, fun hx => ?_⟩
  · rw [← Array.length_toList, h1, List.length_map, List.length_map]
  · rw [h1] at he
    obtain ⟨x, hx, rfl⟩ := List.mem_map.mp he
    exact ⟨x.1, x.2, rfl, List.mem_map.mpr ⟨x, hx, rfl⟩, hk x hx⟩
  · obtain ⟨x, hx, rfl⟩ := List.mem_map.mp hk'
    exact ⟨x.1, by rw [h1]; exact List.mem_map.mpr ⟨x, hx, rfl⟩, (hk x hx).1⟩
  · rcases hpl (fun x hx' => hx x.2 (List.mem_map.mpr ⟨x, hx', rfl⟩)) with e | e
    · exact .inl (by rw [e]; rfl)
    · exact .inr e
theorem setK_ok {H : Hp} {h : Heap} {a : Addr} {L : List (Addr × List Key)} (S : SetO P w h a L) : ObjOk P w H h a (setK P w a L) := by
  refine ⟨S, ?_, fun h1 h2 z k => ?_⟩
  · obtain ⟨o, es, ep, t, ho, _⟩ := S
    exact ⟨o, ho⟩
  · obtain ⟨o', es', ep', t', ho', r⟩ := z
    exact ⟨o', es', ep', t', k _ ho', r⟩
end
section
variable {X : Cx} {pins : List (Addr × Obj)} {σ : St} {H : Hp} {s : Shared}
theorem Inv.dr (I : Inv X pins σ H s) (d : Drawn) : Inv X pins σ H { s with drawn := d } := ⟨I.ok, I.os, I.bare, I.base, I.loc, I.cell, I.free, I.freeC, I.pin, I.hok, I.len⟩
theorem vals_refK : ∀ {bs : List Addr} {us : List Value}, Vals (bs.map V.ref) us → us = bs.map Value.ref
  | [], _, .nil => rfl
  | b :: bs, _, .cons r t => by
    rw [List.map_cons, ← vals_refK (bs := bs) t]
    exact congrArg (· :: _) r
theorem tup_key (I : Inv X pins σ H s) {b : Addr} {k : List Key} (e : H b = some (.tup (k.map kV))) : IsTupleKey (mixKind X.prog X.w) s.heap k b := by
  obtain ⟨_, is, rk, o, ho, hc, n, hd⟩ := I.hok b _ e
  exact ⟨o, _, n, ho, hc, hd, items_are rk⟩
def KeysAt (H : Hp) (bs : List Addr) (kk : List (List Key)) : Prop := bs.length = kk.length ∧ ∀ (j : Nat) (b : Addr) (k : List Key), bs[j]? = some b → kk[j]? = some k → H b = some (.tup (k.map kV))
theorem KeysAt.ext {H H' : Hp} {bs : List Addr} {kk : List (List Key)} (e : Ext H H') (h : KeysAt H bs kk) : KeysAt H' bs kk := ⟨h.1, fun j b k e1 e2 => e _ _ (h.2 j b k e1 e2)⟩
end
section
variable {X : Cx}
def rSetD (P : Program) (w : World) : List V → Hp → VK → Prop := fun xs H Q => ∃ p bs kk, xs = [.ref p] ∧ (H p = some (.tup (bs.map V.ref)) ∨ H p = some (.lst (bs.map V.ref))) ∧ KeysAt H bs kk ∧ kk.length < 1400 ∧
  ∀ l L, H l = none → (L.map Prod.snd).Nodup → (∀ k, k ∈ L.map Prod.snd ↔ k ∈ kk) → (∀ x ∈ L, H x.1 = some (.tup (x.2.map kV))) → Q (.ref l) (upd H l (setK P w l L))
theorem call_setD {k : Nat} (hr : Room k X.A) : CallR X (.type "set") (rSetD X.prog X.w) := by
  intro pins s σ H xs us Q I r h
  obtain ⟨p, bs, kk, rfl, hp, ⟨h2, h3⟩, hz, q⟩ := h
  obtain ⟨u, rfl, rx⟩ := vals1 r
  cases rx
  have hu := hr.units
  have hA := hr.hd
  have keys : ∀ (j : Nat) (b : Addr) (k : List Key), bs[j]? = some b → kk[j]? = some k → IsTupleKey (mixKind X.prog X.w) s.heap k b := fun j b k e1 e2 => tup_key I (h3 j b k e1 e2)
  have fin : ∀ (h' : Heap) (tk : Nat) (D : List (List Key)), SetMade X.prog X.w s bs kk D h' → ∃ v H', Inv X pins σ H' { s with heap := h', toks := tk } ∧ RelV v (.ref s.heap.objs.size) ∧ Q v H' := fun h' tk D hm => by
    obtain ⟨hS, hD, hk⟩ := hm
    obtain ⟨L, hO, hLp, hLB⟩ := hS.obj
    have hfr := I.hok.fresh (Nat.le_refl _)
    refine ⟨.ref s.heap.objs.size, _, I.laid (t' := tk) (fun b o e => hk b o (Heap.lt_size e) e) (Nat.le_refl _) (setK_ok hO), rfl, q _ L hfr (hLp.nodup_iff.mpr hS.1) (fun k => (hLp.mem_iff.trans (hD k))) fun x hx => ?_⟩
    obtain ⟨j, e1, e2⟩ := hLB x hx
    exact h3 j _ _ e1 e2
  rcases hp with hp | hp
  · obtain ⟨_, its, rv, gt⟩ := I.hok p _ hp
    have ei := vals_refK rv
    subst ei
    refine set_of_tuple (kk := kk) (bs := bs) hA (by omega) (show s.heap.IsTuple p _ from gt) rfl (by simp [h2]) (by simp [h2]; exact hz) keys fin
  · obtain ⟨_, its, n, rv, gt⟩ := I.hok p _ hp
    have ei := vals_refK rv
    subst ei
    refine set_of_list (kk := kk) (bs := bs) hA (by omega) (show s.heap.IsList p _ from ⟨_, gt, rfl, n, rfl⟩) rfl (by simp [h2]) (by simp [h2]; exact hz) keys fin
def rLenSD (P : Program) (w : World) : List V → Hp → VK → Prop := fun xs H Q => ∃ p L, xs = [.ref p] ∧ H p = some (setK P w p L) ∧ L.length < 1400 ∧ Q (.int L.length) H
theorem call_lenSD : CallR X (.builtin "len") (rLenSD X.prog X.w) := by
  intro pins s σ H xs us Q I r h
  obtain ⟨p, L, rfl, hp, hn, q⟩ := h
  obtain ⟨u, rfl, rx⟩ := vals1 r
  cases rx
  obtain ⟨⟨o, es, ep, t, ho, hex, hd, hdm, hm, hfull, hT, hel, _⟩, _⟩ := I.hok p _ hp
  have hpl : t.place.size = es.size := by rw [hT.len, Array.size_map]
  have hs : es.size = L.length := by rw [← Array.length_toList, hel, List.length_map]
  have hf : t.fits es.size = true := by
    simp only [SetTable.fits, Bool.and_eq_true, beq_iff_eq, decide_eq_true_eq]
    refine ⟨hpl, ?_⟩
    unfold SetTable.fill
    rw [hdm, hpl]
    have : es.size ≤ t.mask := by omega
    simpa using this
  refine call_len_set ho hex hd hf (by omega) ⟨.int L.length, H, I.tok _, ⟨s.toks + 1, by rw [hs]⟩, q⟩
def rSortD (P : Program) (w : World) : List V → Hp → VK → Prop := fun xs H Q => ∃ p L, xs = [.ref p] ∧ H p = some (setK P w p L) ∧ (L.map Prod.snd).Nodup ∧ (∀ x ∈ L, Shp x.2 ∧ H x.1 = some (.tup (x.2.map kV))) ∧ 2 ≤ L.length ∧ L.length < 1401 ∧
  ∀ l bs ds, H l = none → ds.Perm (L.map Prod.snd) → KeysAt H bs ds → Q (.ref l) (upd H l (.lst (bs.map V.ref)))
theorem call_sortD {k : Nat} (hr : Room k X.A) : CallR X (.builtin "sorted") (rSortD X.prog X.w) := by
  intro pins s σ H xs us Q I r h
  obtain ⟨p, L, rfl, hp, hnd, hL, hl2, hl3, q⟩ := h
  obtain ⟨u, rfl, rx⟩ := vals1 r
  cases rx
  have hA := hr.hd
  obtain ⟨hO, _⟩ := I.hok p _ hp
  have hS := SetO.set (B := fun b k => H b = some (.tup (k.map kV))) (show SetO X.prog X.w s.heap p L from hO) hnd fun x hx => ⟨tup_key I (hL x hx).2, (hL x hx).2⟩
  refine sorted_set hA hS (fun k hk => ?_) (by rw [List.length_map]; exact hl2) (by rw [List.length_map]; exact hl3) fun h' tk d l bs ds hle hlst hdp hbl hkeys htk hk => ?_
  · obtain ⟨x, hx, rfl⟩ := List.mem_map.mp hk
    exact (hL x hx).1
  · have hfr := I.hok.fresh hle
    refine ⟨.ref l, _, ((I.dr d).laid (t' := tk) (o := .lst (bs.map V.ref)) (fun b o e => hk b o (Heap.lt_size e) e) hle ?_), rfl, q l bs ds hfr hdp ⟨hbl, fun j b k e1 e2 => (hkeys j b k e1 e2).2⟩⟩
    obtain ⟨e, he⟩ := hlst
    have hbd : bs.length ≤ 10000 := by
      rw [hbl, hdp.length_eq, List.length_map]
      omega
    refine ⟨by rw [List.length_map]; exact Nat.le_trans hbd (by decide), bs.map Value.ref, e, ?_, he⟩
    clear hbl hkeys hdp he hbd
    induction bs with
    | nil => exact .nil
    | cons b bs ih => exact .cons rfl ih
end
end L2
set_option Elab.async false
set_option linter.all false
set_option maxRecDepth 100000
set_option maxHeartbeats 4000000
namespace L2
open PySem PySem.Spec PyProof.Rows
section
variable {X : Cx} {pins : List (Addr × Obj)} {σ : St} {H : Hp} {s : Shared}
end
open AutoSeq1 (wpAny_loadPart') in
section
variable {K : PySem.W.Frag} {σ : St} {H : Hp} {Q : VK}
end
section
variable {X : Cx}
def rInD (neg : Bool) : R2 := fun x y H Q => ∃ n p xs d ds, RepD H n x d ∧ y = .ref p ∧ H p = some (.lst xs) ∧ Paired (RepD H n) xs ds ∧ n ≤ 50 ∧ Q (.bl (if neg then !(ds.any fun e => PyData.eqv e d) else ds.any fun e => PyData.eqv e d)) H
theorem op_inD {k : Nat} (hr : Room k X.A) : OpR X (compareOp .In) (rInD false) := by
  intro pins s σ H x y v u Q I rx ry h
  obtain ⟨n, p, xs, d, ds, h1, rfl, h2, h3, hn, q⟩ := h
  have h4 : RepD H (n + 1) (.ref p) (.list ds) := .inr ⟨p, xs, ds, rfl, .inr ⟨h2, rfl⟩, h3⟩
  obtain ⟨as, ra⟩ := RepD.reads I n h1 rx
  obtain ⟨bs, rb⟩ := RepD.reads I (n + 1) h4 ry
  have l1 := RepD.lay n h1
  have l2 := lay_all (fun {x d} => RepD.lay (H := H) n) h3
  have hu := hr.units
  have hm : min (PyData.depthAll ds) d.depth ≤ 50 := Nat.le_trans (Nat.min_le_right _ _) (Nat.le_trans l1.2 hn)
  exact SeqAt.in_list_reads rb ra l2.1 l1.1 (by omega) ⟨.bl _, H, I, rfl, q⟩
theorem op_notInD {k : Nat} (hr : Room k X.A) : OpR X (compareOp .NotIn) (rInD true) := by
  intro pins s σ H x y v u Q I rx ry h
  obtain ⟨n, p, xs, d, ds, h1, rfl, h2, h3, hn, q⟩ := h
  have h4 : RepD H (n + 1) (.ref p) (.list ds) := .inr ⟨p, xs, ds, rfl, .inr ⟨h2, rfl⟩, h3⟩
  obtain ⟨as, ra⟩ := RepD.reads I n h1 rx
  obtain ⟨bs, rb⟩ := RepD.reads I (n + 1) h4 ry
  have l1 := RepD.lay n h1
  have l2 := lay_all (fun {x d} => RepD.lay (H := H) n) h3
  have hu := hr.units
  have hm : min (PyData.depthAll ds) d.depth ≤ 50 := Nat.le_trans (Nat.min_le_right _ _) (Nat.le_trans l1.2 hn)
  exact SeqAt.notIn_list_reads rb ra l2.1 l1.1 (by omega) ⟨.bl _, H, I, rfl, q⟩
theorem rd_inD {neg : Bool} {n : Nat} {x : V} {p : Addr} {xs : List V} {d : PyData} {ds : List PyData} {H : Hp} {Q : VK} (h1 : RepD H n x d) (h2 : H p = some (.lst xs)) (h3 : Paired (RepD H n) xs ds) (hn : n ≤ 50) (q : Q (.bl (if neg then !(ds.any fun e => PyData.eqv e d) else ds.any fun e => PyData.eqv e d)) H) : rInD neg x (.ref p) H Q :=
  ⟨n, p, xs, d, ds, h1, rfl, h2, h3, hn, q⟩
end
end L2
set_option Elab.async false
set_option linter.all false
set_option maxRecDepth 100000
set_option maxHeartbeats 4000000
namespace L2
open PySem PySem.Spec PyProof.Rows
abbrev Row3 := Str × Tok × Value
def gdE (w : World) (e : Row3) : DictEntry := ⟨PyData.keyHash w.params e.1, .str e.1 e.2.1, e.2.2⟩
def gdO (w : World) (l : List Row3) (ep : Nat) : Obj := { cls := .type "dict", dict := none, data := .dict (l.map (gdE w)).toArray ep, slots := #[] }
structure GDict (w : World) (K : PySem.W.Frag) (a : Addr) (kvs : List (Key × V)) : Prop where
  has : ∃ l ep, K.lookup a = some (gdO w l ep) ∧ KV kvs (l.map fun e => ((Sum.inr e.1 : Key), e.2.2))
  nd : (kvs.map (·.1)).Nodup
  sm : (a == sysModules) = false
theorem gd_pairs {P : Program} {w : World} : ∀ l : List Row3, Pairs (mixKind P w) (l.map (gdE w)) (l.map fun e => ((Sum.inr e.1 : Key), e.2.2))
  | [] => .nil
  | e :: l => .cons (mixKind_str P w e.1 e.2.1) rfl (gd_pairs l)
theorem gd_keys {P : Program} {w : World} (l : List Row3) : KeysOf (mixKind P w) (l.map (gdE w)).toArray := fun e he => by
  have he' : e ∈ l.map (gdE w) := by simpa using he
  obtain ⟨x, _, rfl⟩ := List.mem_map.mp he'
  exact ⟨.inr x.1, mixKind_str P w x.1 x.2.1, rfl⟩
theorem GDict.at {X : Cx} {pins : List (Addr × Obj)} {σ : St} {H : Hp} {s : Shared} {a : Addr} {kvs : List (Key × V)} (D : GDict X.w X.K a kvs) (I : Inv X pins σ H s) : ∃ vs, KV kvs vs ∧ s.heap.DictOf (mixKind X.prog X.w) a vs := by
  obtain ⟨l, ep, hl, r⟩ := D.has
  refine ⟨_, r, gdO X.w l ep, _, ep, I.kIn _ _ hl, ⟨rfl, rfl, rfl⟩, rfl, gd_keys l, gd_pairs l, ?_⟩
  rw [← r.keys]
  exact D.nd
section
variable {X : Cx} {x : Str} {a : Addr} {kvs : List (Key × V)} {i : Expr} {ty : TE} {p pos : Pos}
def tGIn (neg : Bool) (kvs : List (Key × V)) (ty : TE) : TE := fun σ H Q => ty σ H fun y H1 => ∃ k, y = kV k ∧ Q (.bl (if neg then !(valV kvs k).isSome else (valV kvs k).isSome)) H1
theorem pc_gin (hg : Gl X x) (hm : X.mg x = some (.ref a)) (D : GDict X.w X.K a kvs) (hi : PE X i ty) (hd : (x == ("__debug__" : Str)) = false := by decide) : PC X .In i (.Name x p) (tGIn false kvs ty) := by
  intro pins s σ H Q I h
  refine thn (hi pins s σ H _ I h) fun iv s1 ⟨y, H1, I1, ry, k, ey, q⟩ => ld_glob I1 hg hm ?_ hd
  subst ey
  obtain ⟨vs, rel, dd⟩ := D.at I1
  refine wpAny_in_of (kV_is ry) D.sm dd.mapOf ?_
  rw [← (rel.val k).isSome_eq]
  exact ⟨.bl (valV kvs k).isSome, H1, I1.tok _, rfl, q⟩
theorem rd_gin {neg : Bool} {σ : St} {H : Hp} {Q : VK} (h : ty σ H fun y H1 => ∃ k, y = kV k ∧ Q (.bl (if neg then !(valV kvs k).isSome else (valV kvs k).isSome)) H1) : tGIn neg kvs ty σ H Q := h
def rLeS : R2 := fun x y H Q => ∃ a b, x = .str a ∧ y = .str b ∧ Q (.bl (!decide (b.cps.toList < a.cps.toList))) H
theorem op_leS : OpR X (compareOp .LtE) rLeS := by
  intro pins s σ H x y v u Q I rx ry h
  obtain ⟨a, b, rfl, rfl, q⟩ := h
  obtain ⟨t, rfl⟩ := rx
  obtain ⟨t', rfl⟩ := ry
  exact PySem.P.le_str ⟨.bl _, H, I, rfl, q⟩
theorem rd_leS {a b : Str} {H : Hp} {Q : VK} (h : Q (.bl (!decide (b.cps.toList < a.cps.toList))) H) : rLeS (.str a) (.str b) H Q := ⟨a, b, rfl, rfl, h⟩
theorem fm_congr {α β : Type} {f g : α → Option β} : ∀ {l : List α}, (∀ x ∈ l, f x = g x) → l.filterMap f = l.filterMap g
  | [], _ => rfl
  | x :: l, h => by
    rw [List.filterMap_cons, List.filterMap_cons, h x List.mem_cons_self, fm_congr fun y hy => h y (List.mem_cons_of_mem _ hy)]
theorem pick_back (n : Nat) (xs : List Value) (h : xs.length = n) : (List.range n).filterMap (fun i : Nat => xs[((n : Int) - 1 + (i : Int) * (-1)).toNat]?) = xs.reverse := by
  refine List.ext_getElem? fun i => ?_
  have e : (List.range n).filterMap (fun i : Nat => xs[((n : Int) - 1 + (i : Int) * (-1)).toNat]?) = (List.range n).map (fun i : Nat => xs.reverse.getD i .none) := by
    rw [← List.filterMap_eq_map]
    refine fm_congr fun i hi => ?_
    have hi := List.mem_range.mp hi
    have : ((n : Int) - 1 + (i : Int) * (-1)).toNat = n - 1 - i := by omega
    rw [this, Function.comp_apply, List.getD_eq_getElem?_getD, List.getElem?_reverse (by omega), h, List.getElem?_eq_getElem (show n - 1 - i < xs.length by omega)]
    rfl
  rw [e, List.getElem?_map]
  by_cases hi : i < n
  · rw [List.getElem?_eq_getElem (by simpa using hi), List.getElem?_eq_getElem (by simpa [h] using hi)]
    simp [List.getD_eq_getElem?_getD, h, hi]
  · rw [List.getElem?_eq_none (by simpa using hi), List.getElem?_eq_none (by simpa [h] using hi)]
    rfl
theorem slicePick_back (its : List Value) : slicePick its.toArray none none (some (-1)) = its.reverse.toArray := by
  unfold slicePick
  have e : sliceBounds none none (some (-1)) its.toArray.size = ((its.length : Int) - 1, -1, -1) := by
    unfold sliceBounds
    simp
  rw [e]
  refine congrArg List.toArray ?_
  rw [← pick_back its.length its rfl]
  unfold sliceRange
  simp only
  rw [if_neg (by decide), List.filterMap_map]
  have el : (if (its.length : Int) - 1 > -1 then ((its.length : Int) - 1 - -1 - -1 - 1) / - -1 else 0).toNat = its.length := by
    rw [show (- -1 : Int) = 1 by decide, Int.ediv_one]
    split <;> omega
  rw [el]
  refine fm_congr fun i hi => ?_
  rw [Function.comp_apply, show (its.length : Int) - 1 + -1 * (i : Int) = (its.length : Int) - 1 + (i : Int) * -1 by omega]
  simp
theorem Vals.rev {xs : List V} {us : List Value} (r : Vals xs us) : Vals xs.reverse us.reverse := by
  induction r with
  | nil => exact .nil
  | cons h t ih =>
    rw [List.reverse_cons, List.reverse_cons]
    exact Vals.append ih (.cons h .nil)
def rRevL (K : PySem.W.Frag) : V → Hp → VK → Prop := fun x H Q => ∃ a xs, x = .ref a ∧ SqL K H a xs ∧ New H (.lst xs.reverse) Q
def tRevL (K : PySem.W.Frag) (te : TE) (ts : TO) : TE := fun σ H Q => te σ H fun x H1 => ts σ H1 fun k H2 => k = some (-1) ∧ rRevL K x H2 Q
theorem pe_revL {e st : Expr} {te : TE} {ts : TO} {p2 : Pos} (K : PySem.W.Frag) (he : PE X e te) (hs : PO X (some st) ts) (hK : X.K = K := by rfl) : PE X (.Subscript e (.Slice none none (some st) p2) pos) (tRevL K te ts) := by
  subst hK
  intro pins s σ H Q I h
  refine Subscript_ (thn (he pins s σ H _ I h) fun v s1 ⟨x, H1, I1, r1, q1⟩ => ?_)
  refine wpAny_Slice ?_
  rw [evalPart_none]
  refine wpAny_pure (wpAny_pure ?_)
  refine thn (hs pins s1 σ H1 _ I1 q1) fun vs s2 ⟨k, H2, I2, pk, q2⟩ => ?_
  obtain ⟨rfl, a, xs, rfl, hx, q⟩ := q2
  cases pk with
  | int i tk =>
  cases r1
  have I3 : Inv X pins σ H2 { s2 with heap := s2.heap.push { cls := .type "slice", data := .fields #[.none, .none, .int (-1) tk] } } := I2.kept (t' := s2.toks) fun b ob q => Heap.get?_push_of_some _ q
  obtain ⟨its, r, ht, hz⟩ := I3.list hx
  have hlen := r.length
  show wpAny (model X.prog X.w) X.A (subscriptTail e (.Slice none none (some st) p2) (.ref a) (.ref s2.heap.objs.size)) (EP X pins σ Q) X.xe { s2 with heap := s2.heap.push { cls := .type "slice", data := .fields #[.none, .none, .int (-1) tk] } }
  refine tail_any (ops := [.ref a, .ref s2.heap.objs.size]) ht.isList.typeIs slot_list_getitem.lookup (wpAny_getItem_list_slice ht.isList (Heap.IsSliceOf.new ..) .none .none (.int (-1) tk) (by decide) ?_ (by rw [List.size_toArray]; omega)) (by with_unfolding_all rfl)
  rw [slicePick_back]
  exact ⟨.ref _, _, I3.laid (t' := s2.toks) (o := .lst xs.reverse) (fun b ob e => Heap.get?_push_of_some _ e) (Nat.le_refl _) ⟨by rw [List.length_reverse]; exact hz, _, 0, r.rev, Heap.get?_push_size _ rfl⟩, rfl, q _ (I3.hok.fresh (Nat.le_refl _))⟩
theorem rd_revL {K : PySem.W.Frag} {te : TE} {ts : TO} {σ : St} {H : Hp} {Q : VK} (h : te σ H fun x H1 => ts σ H1 fun k H2 => k = some (-1) ∧ rRevL K x H2 Q) : tRevL K te ts σ H Q := h
theorem rd_revLL {K : PySem.W.Frag} {H : Hp} {Q : VK} {a : Addr} {xs : List V} (e : SqL K H a xs) (h : New H (.lst xs.reverse) Q) : rRevL K (.ref a) H Q := ⟨a, xs, rfl, e, h⟩
end
end L2
set_option Elab.async false
set_option linter.all false
set_option maxRecDepth 100000
set_option maxHeartbeats 4000000
namespace L2
open PySem PySem.Spec PyProof.Rows
section
variable {prog : Program} {w : World} {A : Around} {E : Value → Shared → Prop} {s : Shared} {r d : Addr}
end
section
variable {X : Cx}
end
end L2
set_option Elab.async false
set_option linter.all false
set_option maxRecDepth 100000
set_option maxHeartbeats 4000000
namespace L2
open PySem PySem.Spec PyProof.Rows
section
variable {X : Cx}
theorem LitE.pe {e : Expr} {te : TE} (h : LitE e te) : PE X e te :=
  LitE.rec (motive_1 := fun e te _ => PE X e te) (motive_2 := fun es ta _ => PA X es ta) pe_non pe_bl pe_int pe_str (fun _ ih => pe_tup ih) pa_nil (fun h _ ih1 ih2 => pa_cons ih1 ih2 (h.star _ _)) h
theorem pa_lit {e : Expr} {te : TE} {es : List Expr} {t : TA} (h : LitE e te) (hr : PA X es t) : PA X (e :: es) (tCons te t) := pa_cons h.pe hr (h.star _ _)
end
end L2
set_option Elab.async false
set_option linter.all false
set_option maxRecDepth 100000
set_option maxHeartbeats 4000000
namespace L2
open PySem PySem.Spec PyProof.Rows
section
variable {X : Cx} {tg : Expr}
end
section
variable {prog : Program} {w : World} {A : Around} {E : Value → Shared → Prop} {s : Shared}
end
section
variable {X : Cx} {tg : Expr}
end
end L2
set_option Elab.async false
set_option linter.all false
set_option maxRecDepth 100000
set_option maxHeartbeats 4000000
namespace L2
open PySem PySem.Spec PyProof.Rows
section
variable {X : Cx}
end
end L2
set_option Elab.async false
set_option linter.all false
set_option maxRecDepth 100000
set_option maxHeartbeats 4000000
namespace L2
open PySem PySem.Spec PyProof.Rows
section
variable {X : Cx}
def rAddW : R2 := fun x y H Q => ∃ a b, x = .str a ∧ y = .str b ∧ a.length ≤ 400 ∧ b.length ≤ 400 ∧ ∀ z : Str, z.length = a.length + b.length → Q (.str z) H
theorem op_addW : OpR X (binaryOp .Add) rAddW := by
  intro pins s σ H x y v u Q I rx ry h
  obtain ⟨a, b, rfl, rfl, ha, hb, q⟩ := h
  exact op_add_str pins s σ H _ _ v u Q I rx ry ⟨a, b, rfl, rfl, by rw [sizeLine_eq]; omega, q _ (by show (a.cps ++ b.cps).size = _; rw [Array.size_append]; rfl)⟩
end
section
variable {X : Cx}
theorem pe_cal0 {x : Str} {k j : Nat} {ps : List Str} {sp : Sp} {p pos : Pos} (C : Cal X.prog X.w X.K X.mg X.base x j ps sp) (hr : Room k X.A) (hjk : j ≤ k := by decide) (hg : Gl X x := by rfl) (hdb : (x == ("__debug__" : Str)) = false := by decide) :
    PE X (.Call (.Name x p) [] [] pos) (tCall sp [] E0 tNil) := by
  obtain ⟨f, fd, hm, hk, hb, F⟩ := C.ex
  exact pe_call0 F (hr.mono hjk) hg hm hk hb .nil pass0 hdb
end
end L2
set_option linter.all false
namespace St
section
variable {b s : Int} {o a : List Int}
end
end St
set_option linter.all false
namespace St
end St
set_option linter.all false
namespace St
end St
set_option linter.all false
namespace St
end St
set_option linter.all false
namespace St
end St
set_option Elab.async false
set_option linter.all false
set_option maxRecDepth 100000
namespace My
open PySem L2 St
set_option maxHeartbeats 4000000
def top (i : Nat) : Stmt := PySem.Challenge.pw_stairrooms_k13_is_house.main.body.getD i (.Pass ⟨0, 0, 0, 0⟩)
local macro_rules | `(tactic| walk_at "cond") => `(tactic| first | decide | omega | (dsimp only; omega) | (unfold CMul; omega) | (unfold CPow; exact ⟨by decide, by decide, by decide⟩) | (dsimp only; exact ⟨by omega, by omega⟩) | exact .inr ⟨by decide, by decide⟩ | exact .inl ⟨by decide, by decide⟩ | (unfold SmallR; omega))
local macro_rules | `(tactic| walk_at "sq") => `(tactic| first | assumption | exact SqL.of (by assumption) | exact SqT.of (by assumption) | exact SqL.of (by solve_by_elim) | exact SqT.of (by solve_by_elim) | solve_by_elim)
local macro_rules | `(tactic| walk_at "rd") => do
  let ts ← ("seq ret retN asg drop ifS next name var c op un CB cons nil ints test B exb not and or andV orV notV ifE yes I0 I U EqI NeI EqB NeB call BM tup lst sl noPart part exi chain comp iL iT i1 i2 i3 for tTru intB max2 min2 sub gcons gnil aug ipI zip rev par par2 lam calV raise fs try bseq bnext bplain bif bcall enum gget gin revL leS disp dget lrev disp1 din dnin dput min3 iS iD bm0 revS".splitOn " ").toArray.mapM fun n =>
    let i := Lean.mkIdent (.mkSimple ("rd_" ++ n))
    if n == "var" || n == "aug" then `(tacticSeq| ((with_reducible apply $i); (exact rfl)))
    else if n == "I" then `(tacticSeq| ((with_reducible apply $i); (walk_at "cond")))
    else `(tacticSeq| with_reducible refine $i ?_)
  `(tactic| repeat (first $[| $ts]* | dsimp only))
structure Blt (mg : Str → Option Value) : Prop where
  len_ : mg "len" = none
  isinstance_ : mg "isinstance" = none
  tuple_ : mg "tuple" = none
  list_ : mg "list" = none
  int_ : mg "int" = none
  bool_ : mg "bool" = none
  range_ : mg "range" = none
  zip_ : mg "zip" = none
  max_ : mg "max" = none
  min_ : mg "min" = none
  abs_ : mg "abs" = none
  all_ : mg "all" = none
  set_ : mg "set" = none
  str_ : mg "str" = none
  sorted_ : mg "sorted" = none
def isInt : V → Bool
  | .int _ => true
  | _ => false
def isStr : V → Bool
  | .str _ => true
  | _ => false
def isTup (H : Hp) : V → Bool
  | .ref p => match H p with
    | some (.tup _) => true
    | _ => false
  | _ => false
theorem kind_whole {H : Hp} {v : V} {n : String} (h : kindV H v n) : ∃ b c, isiB n "int" = some b ∧ isiB n "bool" = some c ∧ (b && !c) = isInt v := by
  cases v with
  | non => cases (show n = "NoneType" from h); exact ⟨_, _, rfl, rfl, rfl⟩
  | bl b => cases (show n = "bool" from h); exact ⟨_, _, rfl, rfl, rfl⟩
  | int i => cases (show n = "int" from h); exact ⟨_, _, rfl, rfl, rfl⟩
  | str z => cases (show n = "str" from h); exact ⟨_, _, rfl, rfl, rfl⟩
  | ref a => rcases h with ⟨rfl, xs, e⟩ | ⟨rfl, xs, e⟩ <;> exact ⟨_, _, rfl, rfl, rfl⟩
  | _ => exact False.elim h
theorem kind_str {H : Hp} {v : V} {n : String} (h : kindV H v n) : isiB n "str" = some (isStr v) := by
  cases v with
  | non => cases (show n = "NoneType" from h); rfl
  | bl b => cases (show n = "bool" from h); rfl
  | int i => cases (show n = "int" from h); rfl
  | str z => cases (show n = "str" from h); rfl
  | ref a => rcases h with ⟨rfl, xs, e⟩ | ⟨rfl, xs, e⟩ <;> rfl
  | _ => exact False.elim h
theorem kind_tuple {H : Hp} {v : V} {n : String} (h : kindV H v n) : isiB n "tuple" = some (isTup H v) := by
  cases v with
  | non => cases (show n = "NoneType" from h); rfl
  | bl b => cases (show n = "bool" from h); rfl
  | int i => cases (show n = "int" from h); rfl
  | str z => cases (show n = "str" from h); rfl
  | ref a => rcases h with ⟨rfl, xs, e⟩ | ⟨rfl, xs, e⟩ <;> (unfold isTup; dsimp only; rw [e]; rfl)
  | _ => exact False.elim h
def Thg (H : Hp) : Nat → V → Prop
  | _, .non => True
  | _, .bl _ => True
  | _, .int _ => True
  | _, .str z => z.length ≤ 1000
  | 0, .ref _ => False
  | n + 1, .ref p => ∃ xs, (H p = some (.tup xs) ∨ H p = some (.lst xs)) ∧ xs.length ≤ 2000 ∧ ∀ x ∈ xs, Thg H n x
  | _, _ => False
theorem Thg.ext {H H' : Hp} (e : Ext H H') : ∀ {n : Nat} {v : V}, Thg H n v → Thg H' n v := by
  intro n
  induction n with
  | zero => intro v h; cases v <;> exact h
  | succ n ih =>
    intro v h
    cases v with
    | ref p =>
      obtain ⟨xs, h1, h2, h3⟩ := h
      exact ⟨xs, h1.imp (e _ _) (e _ _), h2, fun x hx => ih (h3 x hx)⟩
    | _ => exact h
theorem Thg.kind {H : Hp} {n : Nat} {v : V} (h : Thg H n v) : ∃ k, kindV H v k := by
  cases v with
  | non => exact ⟨_, rfl⟩
  | bl b => exact ⟨_, rfl⟩
  | int i => exact ⟨_, rfl⟩
  | str z => exact ⟨_, rfl⟩
  | ref p =>
    cases n with
    | zero => exact h.elim
    | succ n =>
      obtain ⟨xs, h1, _⟩ := h
      rcases h1 with h1 | h1
      · exact ⟨"tuple", .inr ⟨rfl, xs, h1⟩⟩
      · exact ⟨"list", .inl ⟨rfl, xs, h1⟩⟩
  | _ => cases n <;> exact h.elim
theorem isTup_of {H : Hp} {v : V} (h : isTup H v = true) : ∃ p xs, v = .ref p ∧ H p = some (.tup xs) := by
  cases v with
  | ref p =>
    unfold isTup at h
    dsimp only at h
    split at h
    · rename_i xs e
      exact ⟨p, xs, rfl, e⟩
    · cases h
  | _ => cases h
theorem Thg.items {H : Hp} {n : Nat} {p : Addr} {xs : List V} (h : Thg H (n + 1) (.ref p)) (e : H p = some (.tup xs)) : xs.length ≤ 2000 ∧ ∀ x ∈ xs, Thg H n x := by
  obtain ⟨ys, h1, h2, h3⟩ := h
  rcases h1 with h1 | h1 <;> rw [e] at h1 <;> cases h1
  exact ⟨h2, h3⟩
theorem small9 {n : Nat} (h : n ≤ 2000) : n ≤ sizeLine := Nat.le_trans h (by decide)
def sp_is_whole (K : PySem.W.Frag) : Sp := fun vs H Q _ => ∃ v n, vs = [v] ∧ kindV H v n ∧ Q (.bl (isInt v)) H
abbrev s_is_whole : Stmt := top 1
theorem sc_is_whole : FnScope ["thing"] ["thing"] (defScope s_is_whole) := ⟨rfl, rfl, rfl, by decide +kernel, rfl, by decide +kernel, by decide +kernel⟩
theorem ok_is_whole {P : Program} {w : World} {K : PySem.W.Frag} {mg : Str → Option Value} {base : Heap} (D : Dfn K mg "is_whole" s_is_whole ["thing"]) (T : Blt mg) : Cal P w K mg base "is_whole" 1 ["thing"] (sp_is_whole K) := by
  have nd := (sc_is_whole).nd
  refine D.ok sc_is_whole (fun vs H Q E h => ?_) (fun X hX H vs Q E h => ?_)
  · obtain ⟨v, n, rfl, _⟩ := h; rfl
  · obtain ⟨f, cdv, A, outer, s, H0, E0, rfl, hr⟩ := hX
    obtain ⟨v, n, rfl, hk, q⟩ := h
    obtain ⟨b, c, hb, hc, e⟩ := kind_whole hk
    refine ⟨_, (no_implicit_lambda% (pss_one (no_implicit_lambda% (ps_ret (no_implicit_lambda% (pe_and (no_implicit_lambda% (pe_callB call_isi rfl T.isinstance_ PyProof.Rows.boot_isinstance (no_implicit_lambda% (pa_cons (no_implicit_lambda% (pv 0)) (no_implicit_lambda% (pa_cons (no_implicit_lambda% (pe_bltn (v := .ty "int") rfl T.int_ PyProof.Rows.boot_int rfl)) pa_nil)))))) (pe_one (no_implicit_lambda% (pe_not (no_implicit_lambda% (pe_callB call_isi rfl T.isinstance_ PyProof.Rows.boot_isinstance (no_implicit_lambda% (pa_cons (no_implicit_lambda% (pv 0)) (no_implicit_lambda% (pa_cons (no_implicit_lambda% (pe_bltn (v := .ty "bool") rfl T.bool_ PyProof.Rows.boot_bool rfl)) pa_nil))))))))))))))), ?_⟩
    walk_at "rd"
    refine rd_isi hk hb ?_
    walk_at "rd"
    cases b with
    | false => refine iteF ?_; rw [← e] at q; exact q
    | true =>
      refine iteT ?_
      walk_at "rd"
      refine rd_isi hk hc ?_
      walk_at "rd"
      rw [← e] at q; exact q
def roomV (m : Int) : V → Bool
  | .int i => decide (0 ≤ i) && decide (i < m)
  | _ => false
def gd_TURNED : List (Key × V) := [(.inr "up", .str "down"), (.inr "down", .str "up"), (.inr "stay", .str "stay"), (.inr "zero", .str "zero")]
theorem gdk_TURNED {w : World} {K : PySem.W.Frag} {a : Addr} {t1 t2 t3 t4 t5 t6 t7 t8 : Tok} {ep : Nat} (h : K.lookup a = some (gdO w [("up", t1, .str "down" t2), ("down", t3, .str "up" t4), ("stay", t5, .str "stay" t6), ("zero", t7, .str "zero" t8)] ep)) (hs : (a == sysModules) = false) : GDict w K a gd_TURNED :=
  ⟨⟨_, _, h, .cons ⟨rfl, ⟨_, rfl⟩⟩ (.cons ⟨rfl, ⟨_, rfl⟩⟩ (.cons ⟨rfl, ⟨_, rfl⟩⟩ (.cons ⟨rfl, ⟨_, rfl⟩⟩ .nil)))⟩, by decide +kernel, hs⟩
def deedV : V → Bool
  | .str z => (valV gd_TURNED (.inr z)).isSome
  | _ => false
def sign1 (z : Str) : Bool := !decide (z.cps.toList < (Str.ofString "a").cps.toList) && !decide ((Str.ofString "z").cps.toList < z.cps.toList)
def signV : V → Bool
  | .str z => decide (z.length = 1) && sign1 z
  | _ => false
theorem isInt_of {v : V} (h : isInt v = true) : ∃ i, v = .int i := by
  cases v <;> first | exact ⟨_, rfl⟩ | cases h
theorem isStr_of {v : V} (h : isStr v = true) : ∃ z, v = .str z := by
  cases v <;> first | exact ⟨_, rfl⟩ | cases h
theorem room_no {m : Int} {v : V} (h : isInt v = false) : roomV m v = false := by
  cases v <;> first | rfl | cases h
theorem deed_no {v : V} (h : isStr v = false) : deedV v = false := by
  cases v <;> first | rfl | cases h
theorem sign_no {v : V} (h : isStr v = false) : signV v = false := by
  cases v <;> first | rfl | cases h
def sp_is_room (K : PySem.W.Frag) : Sp := fun vs H Q _ => ∃ v m n, vs = [v, .int m] ∧ kindV H v n ∧ Q (.bl (roomV m v)) H
abbrev s_is_room : Stmt := top 6
theorem sc_is_room : FnScope ["thing", "many"] ["thing", "many"] (defScope s_is_room) := ⟨rfl, rfl, rfl, by decide +kernel, rfl, by decide +kernel, by decide +kernel⟩
theorem ok_is_room {P : Program} {w : World} {K : PySem.W.Frag} {mg : Str → Option Value} {base : Heap} (D : Dfn K mg "is_room" s_is_room ["thing", "many"]) (T : Blt mg) (C_is_whole : Cal P w K mg base "is_whole" 1 ["thing"] (sp_is_whole K)) : Cal P w K mg base "is_room" 2 ["thing", "many"] (sp_is_room K) := by
  have nd := (sc_is_room).nd
  refine D.ok sc_is_room (fun vs H Q E h => ?_) (fun X hX H vs Q E h => ?_)
  · obtain ⟨i, m, n, rfl, _⟩ := h; rfl
  · obtain ⟨f, cdv, A, outer, s, H0, E0, rfl, hr⟩ := hX
    obtain ⟨v, m, n, rfl, hk, q⟩ := h
    refine ⟨_, (no_implicit_lambda% (pss_one (no_implicit_lambda% (ps_ret (no_implicit_lambda% (pe_and (no_implicit_lambda% (pe_cal C_is_whole hr (no_implicit_lambda% (pa_cons (no_implicit_lambda% (pv 0)) pa_nil)))) (pe_one (no_implicit_lambda% (pe_chain op_le op_lt pe_int (no_implicit_lambda% (pv 0)) (no_implicit_lambda% (pv 1))))))))))), ?_⟩
    walk_at "rd"
    refine ⟨v, n, rfl, hk, ?_⟩
    refine rd_exb ?_
    cases hv : isInt v with
    | false =>
      refine iteF ?_
      rw [room_no hv] at q
      exact q
    | true =>
      obtain ⟨i, rfl⟩ := isInt_of hv
      refine iteT ?_
      walk_at "rd"
      unfold roomV at q
      dsimp only at q
      cases h0 : decide (0 ≤ i) with
      | false =>
        refine iteF ?_
        rw [h0] at q
        exact q
      | true =>
        refine iteT ?_
        walk_at "rd"
        rw [h0, Bool.true_and] at q
        exact q
def sp_is_deed (K : PySem.W.Frag) : Sp := fun vs H Q _ => ∃ v n, vs = [v] ∧ kindV H v n ∧ Q (.bl (deedV v)) H
abbrev s_is_deed : Stmt := top 7
theorem sc_is_deed : FnScope ["thing"] ["thing"] (defScope s_is_deed) := ⟨rfl, rfl, rfl, by decide +kernel, rfl, by decide +kernel, by decide +kernel⟩
theorem ok_is_deed {P : Program} {w : World} {K : PySem.W.Frag} {mg : Str → Option Value} {base : Heap} (D : Dfn K mg "is_deed" s_is_deed ["thing"]) (T : Blt mg) (g_TURNED : ∃ a, mg "TURNED" = some (.ref a) ∧ GDict w K a gd_TURNED) : Cal P w K mg base "is_deed" 1 ["thing"] (sp_is_deed K) := by
  have nd := (sc_is_deed).nd
  refine D.ok sc_is_deed (fun vs H Q E h => ?_) (fun X hX H vs Q E h => ?_)
  · obtain ⟨z, n, rfl, _⟩ := h; rfl
  · obtain ⟨f, cdv, A, outer, s, H0, E0, rfl, hr⟩ := hX
    obtain ⟨a_TURNED, m_TURNED, d_TURNED⟩ := g_TURNED
    obtain ⟨v, n, rfl, hk, q⟩ := h
    refine ⟨_, (no_implicit_lambda% (pss_one (no_implicit_lambda% (ps_ret (no_implicit_lambda% (pe_and (no_implicit_lambda% (pe_callB call_isi rfl T.isinstance_ PyProof.Rows.boot_isinstance (no_implicit_lambda% (pa_cons (no_implicit_lambda% (pv 0)) (no_implicit_lambda% (pa_cons (no_implicit_lambda% (pe_bltn (v := .ty "str") rfl T.str_ PyProof.Rows.boot_str rfl)) pa_nil)))))) (pe_one (no_implicit_lambda% (pe_cmp (pc_gin rfl m_TURNED d_TURNED (no_implicit_lambda% (pv 0))) (by with_unfolding_all rfl)))))))))), ?_⟩
    walk_at "rd"
    refine rd_isi hk (kind_str hk) ?_
    walk_at "rd"
    cases hv : isStr v with
    | false =>
      refine iteF ?_
      rw [deed_no hv] at q
      exact q
    | true =>
      obtain ⟨z, rfl⟩ := isStr_of hv
      refine iteT ?_
      walk_at "rd"
      exact ⟨.inr z, rfl, q⟩
def sp_is_sign (K : PySem.W.Frag) : Sp := fun vs H Q _ => ∃ v n j, vs = [v] ∧ kindV H v n ∧ Thg H j v ∧ Q (.bl (signV v)) H
abbrev s_is_sign : Stmt := top 8
theorem sc_is_sign : FnScope ["thing"] ["thing"] (defScope s_is_sign) := ⟨rfl, rfl, rfl, by decide +kernel, rfl, by decide +kernel, by decide +kernel⟩
theorem ok_is_sign {P : Program} {w : World} {K : PySem.W.Frag} {mg : Str → Option Value} {base : Heap} (D : Dfn K mg "is_sign" s_is_sign ["thing"]) (T : Blt mg) : Cal P w K mg base "is_sign" 1 ["thing"] (sp_is_sign K) := by
  have nd := (sc_is_sign).nd
  refine D.ok sc_is_sign (fun vs H Q E h => ?_) (fun X hX H vs Q E h => ?_)
  · obtain ⟨z, n, j, rfl, _⟩ := h; rfl
  · obtain ⟨f, cdv, A, outer, s, H0, E0, rfl, hr⟩ := hX
    obtain ⟨v, n, j, rfl, hk, ht, q⟩ := h
    refine ⟨_, (no_implicit_lambda% (pss_one (no_implicit_lambda% (ps_ret (no_implicit_lambda% (pe_and (no_implicit_lambda% (pe_callB call_isi rfl T.isinstance_ PyProof.Rows.boot_isinstance (no_implicit_lambda% (pa_cons (no_implicit_lambda% (pv 0)) (no_implicit_lambda% (pa_cons (no_implicit_lambda% (pe_bltn (v := .ty "str") rfl T.str_ PyProof.Rows.boot_str rfl)) pa_nil)))))) (pe_and (no_implicit_lambda% (pe_cmpR op_eq (no_implicit_lambda% (pe_callB call_len_str rfl T.len_ PySem.boot_len (no_implicit_lambda% (pa_cons (no_implicit_lambda% (pv 0)) pa_nil)))) pe_int (nomark _))) (pe_one (no_implicit_lambda% (pe_chain op_leS op_leS pe_str (no_implicit_lambda% (pv 0)) pe_str)))))))))), ?_⟩
    walk_at "rd"
    refine rd_isi hk (kind_str hk) ?_
    walk_at "rd"
    cases hv : isStr v with
    | false =>
      refine iteF ?_
      rw [sign_no hv] at q
      exact q
    | true =>
      obtain ⟨z, rfl⟩ := isStr_of hv
      refine iteT ?_
      walk_at "rd"
      refine ⟨_, rfl, small9 (Nat.le_trans (show z.length ≤ 1000 by cases j <;> exact ht) (by decide)), ?_⟩
      walk_at "rd"
      unfold signV sign1 at q
      dsimp only at q
      by_cases h1 : z.length = 1
      · rw [decide_eq_true (show ((z.length : Nat) : Int) = 1 by omega)]
        refine iteT ?_
        walk_at "rd"
        rw [decide_eq_true h1, Bool.true_and] at q
        cases h2 : !decide (z.cps.toList < (Str.ofString "a").cps.toList) with
        | false =>
          refine iteF ?_
          rw [h2] at q
          exact q
        | true =>
          refine iteT ?_
          walk_at "rd"
          rw [h2, Bool.true_and] at q
          exact q
      · rw [decide_eq_false (show ¬ ((z.length : Nat) : Int) = 1 by omega)]
        refine iteF ?_
        rw [decide_eq_false h1, Bool.false_and] at q
        exact q
def wayL (m : Int) : List V → Bool
  | [a, b, c, d] => roomV m a && (roomV m c && (deedV b && signV d))
  | _ => false
def wayV (H : Hp) (m : Int) : V → Bool
  | .ref p => match H p with
    | some (.tup xs) => wayL m xs
    | _ => false
  | _ => false
theorem way_no {H : Hp} {m : Int} {v : V} (h : isTup H v = false) : wayV H m v = false := by
  cases v with
  | ref p =>
    unfold isTup at h
    unfold wayV
    dsimp only at h ⊢
    split
    · rename_i xs e
      rw [e] at h
      cases h
    · rfl
  | _ => rfl
theorem way_tup {H : Hp} {m : Int} {p : Addr} {xs : List V} (h : H p = some (.tup xs)) : wayV H m (.ref p) = wayL m xs := by
  unfold wayV
  dsimp only
  rw [h]
theorem wayL_len {m : Int} {xs : List V} (h : xs.length ≠ 4) : wayL m xs = false := by
  unfold wayL
  split
  · exact absurd rfl h
  · rfl
theorem four {xs : List V} (h : xs.length = 4) : ∃ a b c d, xs = [a, b, c, d] := by
  match xs, h with
  | [a, b, c, d], _ => exact ⟨a, b, c, d, rfl⟩
def sp_is_way (K : PySem.W.Frag) : Sp := fun vs H Q _ => ∃ v m, vs = [v, .int m] ∧ Thg H 2 v ∧ Q (.bl (wayV H m v)) H
abbrev s_is_way : Stmt := top 9
theorem sc_is_way : FnScope ["thing", "many"] ["thing", "many"] (defScope s_is_way) := ⟨rfl, rfl, rfl, by decide +kernel, rfl, by decide +kernel, by decide +kernel⟩
theorem ok_is_way {P : Program} {w : World} {K : PySem.W.Frag} {mg : Str → Option Value} {base : Heap} (D : Dfn K mg "is_way" s_is_way ["thing", "many"]) (T : Blt mg) (C_is_sign : Cal P w K mg base "is_sign" 1 ["thing"] (sp_is_sign K)) (C_is_deed : Cal P w K mg base "is_deed" 1 ["thing"] (sp_is_deed K)) (C_is_room : Cal P w K mg base "is_room" 2 ["thing", "many"] (sp_is_room K)) : Cal P w K mg base "is_way" 3 ["thing", "many"] (sp_is_way K) := by
  have nd := (sc_is_way).nd
  refine D.ok sc_is_way (fun vs H Q E h => ?_) (fun X hX H vs Q E h => ?_)
  · obtain ⟨p, m, rfl, _⟩ := h; rfl
  · obtain ⟨f, cdv, A, outer, s, H0, E0, rfl, hr⟩ := hX
    obtain ⟨v, m, rfl, ht, q⟩ := h
    obtain ⟨n, hk⟩ := ht.kind
    refine ⟨_, (no_implicit_lambda% (pss_cons (no_implicit_lambda% (ps_if (no_implicit_lambda% (PW.pt (pw_or (no_implicit_lambda% (pt_not (no_implicit_lambda% (pt_val (no_implicit_lambda% (pe_callB call_isi rfl T.isinstance_ PyProof.Rows.boot_isinstance (no_implicit_lambda% (pa_cons (no_implicit_lambda% (pv 0)) (no_implicit_lambda% (pa_cons (no_implicit_lambda% (pe_bltn (v := .ty "tuple") rfl T.tuple_ PyProof.Rows.boot_tuple rfl)) pa_nil)))))))))) (pw_or1 (no_implicit_lambda% (pt_cmpR op_ne (no_implicit_lambda% (pe_callB (call_lenK K) rfl T.len_ PySem.boot_len (no_implicit_lambda% (pa_cons (no_implicit_lambda% (pv 0)) pa_nil)))) pe_int (nomark _))))))) (no_implicit_lambda% (pss_one (no_implicit_lambda% (ps_ret pe_bl)))) pss_nil))
        (no_implicit_lambda% (pss_cons (no_implicit_lambda% (ps_if (no_implicit_lambda% (PW.pt (pw_or (no_implicit_lambda% (pt_not (no_implicit_lambda% (pt_val (no_implicit_lambda% (pe_cal C_is_room hr (no_implicit_lambda% (pa_cons (no_implicit_lambda% (pe_ix (ix_tupK K) (no_implicit_lambda% (pv 0)) pe_int (fun _ _ => rfl))) (no_implicit_lambda% (pa_cons (no_implicit_lambda% (pv 1)) pa_nil)))))))))) (pw_or1 (no_implicit_lambda% (pt_not (no_implicit_lambda% (pt_val (no_implicit_lambda% (pe_cal C_is_room hr (no_implicit_lambda% (pa_cons (no_implicit_lambda% (pe_ix (ix_tupK K) (no_implicit_lambda% (pv 0)) pe_int (fun _ _ => rfl))) (no_implicit_lambda% (pa_cons (no_implicit_lambda% (pv 1)) pa_nil)))))))))))))) (no_implicit_lambda% (pss_one (no_implicit_lambda% (ps_ret pe_bl)))) pss_nil))
        (no_implicit_lambda% (pss_one (no_implicit_lambda% (ps_ret (no_implicit_lambda% (pe_and (no_implicit_lambda% (pe_cal C_is_deed hr (no_implicit_lambda% (pa_cons (no_implicit_lambda% (pe_ix (ix_tupK K) (no_implicit_lambda% (pv 0)) pe_int (fun _ _ => rfl))) pa_nil)))) (pe_one (no_implicit_lambda% (pe_cal C_is_sign hr (no_implicit_lambda% (pa_cons (no_implicit_lambda% (pe_ix (ix_tupK K) (no_implicit_lambda% (pv 0)) pe_int (fun _ _ => rfl))) pa_nil))))))))))))))), ?_⟩
    walk_at "rd"
    refine rd_isi hk (kind_tuple hk) ?_
    walk_at "rd"
    cases hv : isTup H v with
    | false =>
      refine iteT ?_
      walk_at "rd"
      rw [way_no hv] at q
      exact q
    | true =>
      refine iteF ?_
      obtain ⟨p, xs, rfl, hp⟩ := isTup_of hv
      obtain ⟨hx1, hx2⟩ := ht.items hp
      rw [way_tup hp] at q
      walk_at "rd"
      refine rd_lenT (SqT.of hp) ?_
      walk_at "rd"
      by_cases h4 : xs.length = 4
      · obtain ⟨a, b, c, d, rfl⟩ := four h4
        have ta := hx2 a (by simp)
        have tb := hx2 b (by simp)
        have tc := hx2 c (by simp)
        have td := hx2 d (by simp)
        obtain ⟨ka, hka⟩ := ta.kind
        obtain ⟨kb, hkb⟩ := tb.kind
        obtain ⟨kc, hkc⟩ := tc.kind
        obtain ⟨kd, hkd⟩ := td.kind
        unfold wayL at q
        dsimp only at q
        refine iteF ?_
        walk_at "rd"
        refine rd_ixT (SqT.of hp) (v := a) rfl ?_
        walk_at "rd"
        refine ⟨a, m, ka, rfl, hka, ?_⟩
        walk_at "rd"
        cases ra : roomV m a with
        | false =>
          refine iteT ?_
          walk_at "rd"
          rw [ra] at q
          exact q
        | true =>
          refine iteF ?_
          walk_at "rd"
          refine rd_ixT (SqT.of hp) (v := c) rfl ?_
          walk_at "rd"
          refine ⟨c, m, kc, rfl, hkc, ?_⟩
          walk_at "rd"
          rw [ra, Bool.true_and] at q
          cases rc : roomV m c with
          | false =>
            refine iteT ?_
            walk_at "rd"
            rw [rc] at q
            exact q
          | true =>
            refine iteF ?_
            walk_at "rd"
            refine rd_ixT (SqT.of hp) (v := b) rfl ?_
            walk_at "rd"
            refine ⟨b, kb, rfl, hkb, ?_⟩
            walk_at "rd"
            rw [rc, Bool.true_and] at q
            cases rb : deedV b with
            | false =>
              refine iteF ?_
              rw [rb] at q
              exact q
            | true =>
              refine iteT ?_
              walk_at "rd"
              refine rd_ixT (SqT.of hp) (v := d) rfl ?_
              walk_at "rd"
              rw [rb, Bool.true_and] at q
              exact ⟨d, kd, 1, rfl, hkd, td, q⟩
      · rw [wayL_len h4] at q
        rw [decide_eq_false (show ¬ ((xs.length : Nat) : Int) = 4 by omega)]
        refine iteT ?_
        walk_at "rd"
        exact q
theorem small_line {n : Nat} (h : n ≤ 1000000) : n ≤ sizeLine := Nat.le_trans h (by decide)
def sp__law_cell (K : PySem.W.Frag) : Sp := fun vs H Q _ => ∃ (a : Addr) (ns : List Int) (k : Int), vs = [.ref a, .int k] ∧ SqL K H a (ns.map V.int) ∧ ns.length ≤ 63 ∧ 0 ≤ k ∧ ∀ z, Q (.int z) H
theorem atI_ints {ns : List Int} {i : Int} (h0 : 0 ≤ i) (h : i < ns.length) : ∃ z, atI (ns.map V.int) i = some (.int z) ∧ ns[i.toNat]? = some z := by
  have hi : i.toNat < ns.length := by omega
  refine ⟨ns[i.toNat], atI_of h0 ?_, List.getElem?_eq_getElem hi⟩
  rw [List.getElem?_map, List.getElem?_eq_getElem hi]
  rfl
abbrev s__law_cell : Stmt := top 13
theorem sc__law_cell : FnScope ["_law_script", "_law_k"] ["_law_script", "_law_k"] (defScope s__law_cell) := ⟨rfl, rfl, rfl, by decide +kernel, rfl, by decide +kernel, by decide +kernel⟩
theorem ok__law_cell {P : Program} {w : World} {K : PySem.W.Frag} {mg : Str → Option Value} {base : Heap} (D : Dfn K mg "_law_cell" s__law_cell ["_law_script", "_law_k"]) (T : Blt mg) : Cal P w K mg base "_law_cell" 1 ["_law_script", "_law_k"] (sp__law_cell K) := by
  have nd := (sc__law_cell).nd
  refine D.ok sc__law_cell (fun vs H Q E h => ?_) (fun X hX H vs Q E h => ?_)
  · obtain ⟨a, ns, k, rfl, _⟩ := h; rfl
  · obtain ⟨f, cdv, A, outer, s, H0, E0, rfl, hr⟩ := hX
    obtain ⟨a, ns, k, rfl, ha, hl, hk, q⟩ := h
    refine ⟨_, (no_implicit_lambda% (pss_cons (no_implicit_lambda% (ps_if (no_implicit_lambda% (pt_cmpR op_eq (no_implicit_lambda% (pe_callB (call_lenK K) rfl T.len_ PySem.boot_len (no_implicit_lambda% (pa_cons (no_implicit_lambda% (pv 0)) pa_nil)))) pe_int (nomark _))) (no_implicit_lambda% (pss_one (no_implicit_lambda% (ps_ret (no_implicit_lambda% (pe_op op_mul pe_int (no_implicit_lambda% (pe_op op_add (no_implicit_lambda% (pv 1)) pe_int)))))))) pss_nil))
        (no_implicit_lambda% (pss_cons (no_implicit_lambda% (ps_if (no_implicit_lambda% (pt_cmpR op_lt (no_implicit_lambda% (pv 1)) (no_implicit_lambda% (pe_callB (call_lenK K) rfl T.len_ PySem.boot_len (no_implicit_lambda% (pa_cons (no_implicit_lambda% (pv 0)) pa_nil)))) (nomark _))) (no_implicit_lambda% (pss_one (no_implicit_lambda% (ps_ret (no_implicit_lambda% (pe_ix (ix_listK K) (no_implicit_lambda% (pv 0)) (no_implicit_lambda% (pv 1)) (fun _ _ => rfl))))))) pss_nil))
        (no_implicit_lambda% (pss_one (no_implicit_lambda% (ps_ret (no_implicit_lambda% (pe_op op_add (no_implicit_lambda% (pe_ix (ix_listK K) (no_implicit_lambda% (pv 0)) (no_implicit_lambda% (pe_op op_mod (no_implicit_lambda% (pv 1)) (no_implicit_lambda% (pe_callB (call_lenK K) rfl T.len_ PySem.boot_len (no_implicit_lambda% (pa_cons (no_implicit_lambda% (pv 0)) pa_nil)))))) (fun _ _ => rfl))) (no_implicit_lambda% (pe_op op_mul pe_int (no_implicit_lambda% (pv 1)))))))))))))), ?_⟩
    walk_at "rd"
    refine rd_lenL ha ?_
    walk_at "rd"
    rw [List.length_map]
    by_cases h0 : (ns.length : Int) = 0
    · rw [decide_eq_true h0]
      refine iteT ?_
      walk_at "rd"
      exact q _
    · rw [decide_eq_false h0]
      refine iteF ?_
      walk_at "rd"
      refine rd_lenL ha ?_
      walk_at "rd"
      rw [List.length_map]
      by_cases h1 : k < ns.length
      · rw [decide_eq_true h1]
        refine iteT ?_
        obtain ⟨z, hz, _⟩ := atI_ints hk h1
        walk_at "rd"
        refine rd_ixL ha hz ?_
        exact q _
      · rw [decide_eq_false h1]
        refine iteF ?_
        walk_at "rd"
        refine rd_lenL ha ?_
        rw [List.length_map]
        have hp : (0 : Int) < ns.length := by omega
        refine rd_I hp ?_
        obtain ⟨z, hz, _⟩ := atI_ints (ns := ns) (Int.emod_nonneg k (by omega)) (Int.emod_lt_of_pos k hp)
        refine rd_ixL ha hz ?_
        walk_at "rd"
        exact q _
def sp__law_mixed (K : PySem.W.Frag) : Sp := fun vs H Q _ => ∃ c k p, vs = [.int c, .int k, .int p] ∧ 0 ≤ k ∧ k < 100000 ∧ 0 < p ∧ ∀ z, 0 ≤ z → z < p → Q (.int z) H
abbrev s__law_mixed : Stmt := top 14
theorem sc__law_mixed : FnScope ["_law_cell_here", "_law_k", "_law_prime", "_law_far"] ["_law_cell_here", "_law_k", "_law_prime"] (defScope s__law_mixed) := ⟨rfl, rfl, rfl, by decide +kernel, rfl, by decide +kernel, by decide +kernel⟩
theorem ok__law_mixed {P : Program} {w : World} {K : PySem.W.Frag} {mg : Str → Option Value} {base : Heap} (D : Dfn K mg "_law_mixed" s__law_mixed ["_law_cell_here", "_law_k", "_law_prime"]) (T : Blt mg) : Cal P w K mg base "_law_mixed" 1 ["_law_cell_here", "_law_k", "_law_prime"] (sp__law_mixed K) := by
  have nd := (sc__law_mixed).nd
  refine D.ok sc__law_mixed (fun vs H Q E h => ?_) (fun X hX H vs Q E h => ?_)
  · obtain ⟨c, k, p, rfl, _⟩ := h; rfl
  · obtain ⟨f, cdv, A, outer, s, H0, E0, rfl, hr⟩ := hX
    obtain ⟨c, k, p, rfl, hk, hk2, hp, q⟩ := h
    refine ⟨_, (no_implicit_lambda% (pss_cons (no_implicit_lambda% (ps_set (i := 3) nd rfl (Or.inl rfl) (no_implicit_lambda% (pe_op op_mod (no_implicit_lambda% (pe_op op_mul (no_implicit_lambda% (pe_op op_add (no_implicit_lambda% (pe_op op_add (no_implicit_lambda% (pe_op op_add (no_implicit_lambda% (pv 0)) (no_implicit_lambda% (pe_op op_mul (no_implicit_lambda% (pe_op op_mul pe_int (no_implicit_lambda% (pv 1)))) (no_implicit_lambda% (pv 1)))))) (no_implicit_lambda% (pe_op op_mul pe_int (no_implicit_lambda% (pv 1)))))) pe_int)) pe_int)) pe_int))))
        (no_implicit_lambda% (pss_cons (no_implicit_lambda% (ps_set (i := 3) nd rfl (Or.inl rfl) (no_implicit_lambda% (pe_op op_mod (no_implicit_lambda% (pe_op op_mul (no_implicit_lambda% (pv 3)) (no_implicit_lambda% (pv 3)))) pe_int))))
        (no_implicit_lambda% (pss_one (no_implicit_lambda% (ps_ret (no_implicit_lambda% (pe_op op_mod (no_implicit_lambda% (pe_op op_mul (no_implicit_lambda% (pv 3)) pe_int)) (no_implicit_lambda% (pv 2)))))))))))), ?_⟩
    walk_at "rd"
    exact q _ (Int.emod_nonneg _ (by omega)) (Int.emod_lt_of_pos _ hp)
theorem ext_write {H H2 : Hp} {q : Addr} {o : HO} (e : Ext H H2) (hq : H q = none) : Ext H (upd H2 q o) := fun b u hb => by
  rw [upd_ne (ne_of_none hb hq)]
  exact e b u hb
def sp__law_draws (K : PySem.W.Frag) : Sp := fun vs H Q _ => ∃ (c : Int) (w : Addr) (ws : List Int) (p : Int), vs = [.int c, .ref w, .int p] ∧ H w = some (.lst (ws.map V.int)) ∧ (∀ x ∈ ws, 0 < x ∧ x < 2 ^ 40) ∧ ws.length ≤ 10000 ∧ 0 < p ∧
  ∀ (q : Addr) (ds : List Int) (H' : Hp), Ext H H' → H' q = some (.lst (ds.map V.int)) → H q = none → ds.length = ws.length → (∀ (i : Nat) d x, ds[i]? = some d → ws[i]? = some x → 0 ≤ d ∧ d < x) → Q (.ref q) H'
theorem mk_draws {K : PySem.W.Frag} {H : Hp} {c : Int} {w : Addr} {p : Int} {Q : VK} {xe : XK} (ws : List Int) (h1 : H w = some (.lst (ws.map V.int))) (h2 : ∀ x ∈ ws, 0 < x ∧ x < 2 ^ 40) (h3 : ws.length ≤ 10000) (h4 : 0 < p)
    (k : ∀ (q : Addr) (ds : List Int) (H' : Hp), Ext H H' → H' q = some (.lst (ds.map V.int)) → H q = none → ds.length = ws.length → (∀ (i : Nat) d x, ds[i]? = some d → ws[i]? = some x → 0 ≤ d ∧ d < x) → Q (.ref q) H') : sp__law_draws K [.int c, .ref w, .int p] H Q xe := ⟨c, w, ws, p, rfl, h1, h2, h3, h4, k⟩
abbrev s__law_draws : Stmt := top 15
theorem sc__law_draws : FnScope ["_law_cell_here", "_law_widths", "_law_prime", "_law_left", "_law_found", "_law_k"] ["_law_cell_here", "_law_widths", "_law_prime"] (defScope s__law_draws) := ⟨rfl, rfl, rfl, by decide +kernel, rfl, by decide +kernel, by decide +kernel⟩
theorem ok__law_draws {P : Program} {w : World} {K : PySem.W.Frag} {mg : Str → Option Value} {base : Heap} (D : Dfn K mg "_law_draws" s__law_draws ["_law_cell_here", "_law_widths", "_law_prime"]) (T : Blt mg) (C__law_mixed : Cal P w K mg base "_law_mixed" 1 ["_law_cell_here", "_law_k", "_law_prime"] (sp__law_mixed K)) : Cal P w K mg base "_law_draws" 2 ["_law_cell_here", "_law_widths", "_law_prime"] (sp__law_draws K) := by
  have nd := (sc__law_draws).nd
  refine D.ok sc__law_draws (fun vs H Q E h => ?_) (fun X hX H vs Q E h => ?_)
  · obtain ⟨c, w, ws, p, rfl, _⟩ := h; rfl
  · obtain ⟨f, cdv, A, outer, s, H0, E0, rfl, hr⟩ := hX
    obtain ⟨c, w, ws, p, rfl, hw, hpos, hlen, hp, q⟩ := h
    refine ⟨_, (no_implicit_lambda% (pss_cons (no_implicit_lambda% (ps_set (i := 3) nd rfl (Or.inl rfl) pe_int))
        (no_implicit_lambda% (pss_cons (no_implicit_lambda% (ps_ifJ (no_implicit_lambda% (pt_cmpR op_ge (no_implicit_lambda% (pv 0)) (no_implicit_lambda% (pe_op op_pow pe_int pe_int)) (nomark _))) (no_implicit_lambda% (pss_one (no_implicit_lambda% (ps_set (i := 3) nd rfl (Or.inl rfl) (no_implicit_lambda% (pe_op op_sub (no_implicit_lambda% (pv 0)) (no_implicit_lambda% (pe_op op_pow pe_int pe_int)))))))) pss_nil))
        (no_implicit_lambda% (pss_cons (no_implicit_lambda% (ps_set (i := 4) nd rfl (Or.inl rfl) (no_implicit_lambda% (pe_lst pa_nil))))
        (no_implicit_lambda% (pss_cons (no_implicit_lambda% (ps_for PassesOwn.never rfl (no_implicit_lambda% (pi_range1 rfl T.range_ (no_implicit_lambda% (pa_cons (no_implicit_lambda% (pe_callB (call_lenK K) rfl T.len_ PySem.boot_len (no_implicit_lambda% (pa_cons (no_implicit_lambda% (pv 1)) pa_nil)))) pa_nil)))) (no_implicit_lambda% (pg_name (i := 5) nd rfl (Or.inl rfl))) (no_implicit_lambda% (pss_one (no_implicit_lambda% (ps_ifJ (no_implicit_lambda% (pt_cmpR op_gt (no_implicit_lambda% (pv 3)) pe_int (nomark _))) (no_implicit_lambda% (pss_cons (no_implicit_lambda% (ps_expr (no_implicit_lambda% (pe_bmK K PySem.F.plainAttrs_list PySem.F.slot_list_append PySem.F.type_list_append mt_append (no_implicit_lambda% (pv 4)) (no_implicit_lambda% (pa_cons (no_implicit_lambda% (pe_op op_mod (no_implicit_lambda% (pv 3)) (no_implicit_lambda% (pe_ix (ix_listK K) (no_implicit_lambda% (pv 1)) (no_implicit_lambda% (pv 5)) (fun _ _ => rfl))))) pa_nil))))))
        (no_implicit_lambda% (pss_one (no_implicit_lambda% (ps_set (i := 3) nd rfl (Or.inl rfl) (no_implicit_lambda% (pe_op op_fdivL (no_implicit_lambda% (pv 3)) (no_implicit_lambda% (pe_ix (ix_listK K) (no_implicit_lambda% (pv 1)) (no_implicit_lambda% (pv 5)) (fun _ _ => rfl))))))))))) (no_implicit_lambda% (pss_one (no_implicit_lambda% (ps_expr (no_implicit_lambda% (pe_bmK K PySem.F.plainAttrs_list PySem.F.slot_list_append PySem.F.type_list_append mt_append (no_implicit_lambda% (pv 4)) (no_implicit_lambda% (pa_cons (no_implicit_lambda% (pe_op op_mod (no_implicit_lambda% (pe_cal C__law_mixed hr (no_implicit_lambda% (pa_cons (no_implicit_lambda% (pv 0)) (no_implicit_lambda% (pa_cons (no_implicit_lambda% (pv 5)) (no_implicit_lambda% (pa_cons (no_implicit_lambda% (pv 2)) pa_nil)))))))) (no_implicit_lambda% (pe_ix (ix_listK K) (no_implicit_lambda% (pv 1)) (no_implicit_lambda% (pv 5)) (fun _ _ => rfl))))) pa_nil))))))))))))))
        (no_implicit_lambda% (pss_one (no_implicit_lambda% (ps_ret (no_implicit_lambda% (pv 4)))))))))))))), ?_⟩
    walk_at "rd"
    refine rd_ifJ (fun σ' H' => H' = H ∧ ∃ l, σ' = [some (.int c), some (.ref w), some (.int p), some (.int l), none, none]) ?_ ?_
    · walk_at "rd"
      refine ite2 (fun h => ?_) (fun h => ?_)
      · walk_at "rd"
        exact ⟨rfl, _, rfl⟩
      · walk_at "rd"
        exact ⟨rfl, _, rfl⟩
    rintro σ' H' ⟨rfl, l, rfl⟩
    walk_at "rd"
    refine ⟨small_line (by simp), rd_new fun f H1 e1 hf hfn => ?_⟩
    walk_at "rd"
    refine rd_lenL (SqL.of (e1 _ _ hw)) ?_
    rw [List.length_map]
    walk_at "rd"
    refine rd_i1x (by omega) ?_
    refine forR (fun i σ H2 => Ext H' H2 ∧ ∃ (l : Int) (k : Option V) (ds : List Int), σ = [some (.int c), some (.ref w), some (.int p), some (.int l), some (.ref f), k] ∧ H2 f = some (.lst (ds.map V.int)) ∧ ds.length = i ∧ ∀ (i : Nat) d x, ds[i]? = some d → ws[i]? = some x → 0 ≤ d ∧ d < x)
      ⟨e1, l, none, [], rfl, hf, rfl, fun i d x hd => by simp at hd⟩ ?_ ?_
    · rintro i σ H2 hi ⟨e2, l, k, ds, rfl, hf2, hds, hb⟩
      rw [Int.toNat_natCast] at hi
      have hwi : ws[i]? = some ws[i] := List.getElem?_eq_getElem hi
      have hx := hpos ws[i] (List.getElem_mem hi)
      have hat : atI (ws.map V.int) (0 + (i : Int)) = some (.int ws[i]) := by
        rw [Int.zero_add]
        exact atI_nat (by rw [List.getElem?_map, hwi]; rfl)
      have next : ∀ d, 0 ≤ d → d < ws[i] → ∀ (j : Nat) (d' x : Int), (ds ++ [d])[j]? = some d' → ws[j]? = some x → 0 ≤ d' ∧ d' < x := fun d h0 h1 j d' x hj hx' => by
        rcases Nat.lt_or_ge j ds.length with h | h
        · rw [List.getElem?_append_left h] at hj
          exact hb j d' x hj hx'
        · rw [List.getElem?_append_right h] at hj
          have hj0 : j - ds.length = 0 := by
            rcases Nat.eq_zero_or_pos (j - ds.length) with h | h
            · exact h
            · rw [List.getElem?_eq_none (by simp; omega)] at hj; cases hj
          rw [hj0] at hj
          have hji : j = i := by omega
          subst hji
          rw [hwi] at hx'
          cases hx'
          have : d = d' := by simpa using hj
          rw [← this]
          exact ⟨h0, h1⟩
      walk_at "rd"
      refine rd_ifN ?_
      walk_at "rd"
      refine ite2 (fun h => ?_) (fun h => ?_)
      · have h' : 1 < l := by simpa using h
        walk_at "rd"
        refine ⟨rd_tyL (SqL.of hf2), ?_⟩
        walk_at "rd"
        refine rd_ixL (SqL.of (e2 _ _ hw)) hat ?_
        refine rd_I (show 0 < ws[i] by omega) ?_
        walk_at "rd"
        refine rd_append hf2 (by rw [List.length_map]; exact Nat.lt_of_le_of_lt (show ds.length ≤ 10000 by omega) (by decide)) ?_
        walk_at "rd"
        refine rd_ixL (SqL.of (ext_write e2 hfn _ _ hw)) hat ?_
        refine rd_I (show 0 < ws[i] ∧ ws[i] < 2 ^ 64 by omega) ?_
        walk_at "rd"
        refine ⟨ext_write e2 hfn, _, _, ds ++ [l % ws[i]], rfl, ?_, by rw [List.length_append, hds]; rfl, next _ (Int.emod_nonneg _ (by omega)) (Int.emod_lt_of_pos _ (by omega))⟩
        rw [upd_same, List.map_append]
        rfl
      · walk_at "rd"
        refine ⟨rd_tyL (SqL.of hf2), ?_⟩
        walk_at "rd"
        refine ⟨c, 0 + (i : Int), p, rfl, by omega, by omega, hp, fun z hz0 hz1 => ?_⟩
        walk_at "rd"
        refine rd_ixL (SqL.of (e2 _ _ hw)) hat ?_
        refine rd_I (show 0 < ws[i] by omega) ?_
        walk_at "rd"
        refine rd_append hf2 (by rw [List.length_map]; exact Nat.lt_of_le_of_lt (show ds.length ≤ 10000 by omega) (by decide)) ?_
        walk_at "rd"
        refine ⟨ext_write e2 hfn, _, _, ds ++ [z % ws[i]], rfl, ?_, by rw [List.length_append, hds]; rfl, next _ (Int.emod_nonneg _ (by omega)) (Int.emod_lt_of_pos _ (by omega))⟩
        rw [upd_same, List.map_append]
        rfl
    · rintro σ H2 ⟨e2, l, k, ds, rfl, hf2, hds, hb⟩
      walk_at "rd"
      exact q f ds H2 e2 hf2 hfn (by rw [hds, Int.toNat_natCast]) hb
def sp__law_spare (K : PySem.W.Frag) : Sp := fun vs H Q _ => ∃ c w, vs = [.int c, .int w] ∧ 0 < w ∧ w < 2 ^ 64 ∧ ∀ z, Q (.int z) H
abbrev s__law_spare : Stmt := top 16
theorem sc__law_spare : FnScope ["_law_cell_here", "_law_width"] ["_law_cell_here", "_law_width"] (defScope s__law_spare) := ⟨rfl, rfl, rfl, by decide +kernel, rfl, by decide +kernel, by decide +kernel⟩
theorem ok__law_spare {P : Program} {w : World} {K : PySem.W.Frag} {mg : Str → Option Value} {base : Heap} (D : Dfn K mg "_law_spare" s__law_spare ["_law_cell_here", "_law_width"]) (T : Blt mg) : Cal P w K mg base "_law_spare" 1 ["_law_cell_here", "_law_width"] (sp__law_spare K) := by
  have nd := (sc__law_spare).nd
  refine D.ok sc__law_spare (fun vs H Q E h => ?_) (fun X hX H vs Q E h => ?_)
  · obtain ⟨c, w, rfl, _⟩ := h; rfl
  · obtain ⟨f, cdv, A, outer, s, H0, E0, rfl, hr⟩ := hX
    obtain ⟨c, w, rfl, h1, h2, q⟩ := h
    refine ⟨_, (no_implicit_lambda% (pss_cons (no_implicit_lambda% (ps_if (no_implicit_lambda% (pt_cmpR op_ge (no_implicit_lambda% (pv 0)) (no_implicit_lambda% (pe_op op_pow pe_int pe_int)) (nomark _))) (no_implicit_lambda% (pss_one (no_implicit_lambda% (ps_ret (no_implicit_lambda% (pe_op op_add (no_implicit_lambda% (pe_op op_fdivL (no_implicit_lambda% (pe_op op_sub (no_implicit_lambda% (pv 0)) (no_implicit_lambda% (pe_op op_pow pe_int pe_int)))) (no_implicit_lambda% (pv 1)))) (no_implicit_lambda% (pe_op op_pow pe_int pe_int)))))))) pss_nil))
        (no_implicit_lambda% (pss_one (no_implicit_lambda% (ps_ret (no_implicit_lambda% (pe_op op_add (no_implicit_lambda% (pv 0)) pe_int)))))))), ?_⟩
    walk_at "rd"
    refine ite2 (fun h => ?_) (fun h => ?_)
    · walk_at "rd"
      exact q _
    · walk_at "rd"
      exact q _
end My
set_option Elab.async false
set_option linter.all false
set_option maxRecDepth 100000
namespace My
open PySem L2 St
set_option maxHeartbeats 4000000
local macro_rules | `(tactic| walk_at "cond") => `(tactic| first | decide | omega | (dsimp only; omega) | (unfold CMul; omega) | (unfold CPow; exact ⟨by decide, by decide, by decide⟩) | (dsimp only; exact ⟨by omega, by omega⟩) | exact .inr ⟨by decide, by decide⟩ | exact .inl ⟨by decide, by decide⟩ | (unfold SmallR; omega))
local macro_rules | `(tactic| walk_at "sq") => `(tactic| first | assumption | exact SqL.of (by assumption) | exact SqT.of (by assumption) | exact SqL.of (by solve_by_elim) | exact SqT.of (by solve_by_elim) | solve_by_elim)
local macro_rules | `(tactic| walk_at "rd") => do
  let ts ← ("seq ret retN asg drop ifS next name var c op un CB cons nil ints test B exb not and or andV orV notV ifE yes I0 I U EqI NeI EqB NeB call BM tup lst sl noPart part exi chain comp iL iT i1 i2 i3 for tTru intB max2 min2 sub gcons gnil aug ipI zip rev par par2 lam calV raise fs try bseq bnext bplain bif bcall enum gget gin revL leS disp dget lrev disp1 din dnin dput min3 iS iD bm0 revS".splitOn " ").toArray.mapM fun n =>
    let i := Lean.mkIdent (.mkSimple ("rd_" ++ n))
    if n == "var" || n == "aug" then `(tacticSeq| ((with_reducible apply $i); (exact rfl)))
    else if n == "I" then `(tacticSeq| ((with_reducible apply $i); (walk_at "cond")))
    else `(tacticSeq| with_reducible refine $i ?_)
  `(tactic| repeat (first $[| $ts]* | dsimp only))
def keyL : List V → List Key
  | [.int a, .str b, .int c, .str d] => [.inl a, .inr b, .inl c, .inr d]
  | _ => []
def keyV (H : Hp) : V → List Key
  | .ref p => match H p with
    | some (.tup xs) => keyL xs
    | _ => []
  | _ => []
theorem key_tup {H : Hp} {p : Addr} {xs : List V} (h : H p = some (.tup xs)) : keyV H (.ref p) = keyL xs := by
  unfold keyV
  dsimp only
  rw [h]
theorem way_of {H : Hp} {m : Int} {v : V} (h : wayV H m v = true) : ∃ p a b c d, v = .ref p ∧ H p = some (.tup [.int a, .str b, .int c, .str d]) ∧ (0 ≤ a ∧ a < m) ∧ (0 ≤ c ∧ c < m) ∧ deedV (.str b) = true ∧ signV (.str d) = true := by
  cases ht : isTup H v with
  | false => rw [way_no ht] at h; cases h
  | true =>
    obtain ⟨p, xs, rfl, hp⟩ := isTup_of ht
    rw [way_tup hp] at h
    by_cases h4 : xs.length = 4
    · obtain ⟨a, b, c, d, rfl⟩ := four h4
      unfold wayL at h
      simp only [Bool.and_eq_true] at h
      obtain ⟨h1, h2, h3, h5⟩ := h
      cases a with
      | int i =>
        cases c with
        | int j =>
          cases b with
          | str y =>
            cases d with
            | str z =>
              unfold roomV at h1 h2
              simp only [Bool.and_eq_true, decide_eq_true_eq] at h1 h2
              exact ⟨p, i, y, j, z, rfl, hp, h1, h2, h3, h5⟩
            | _ => cases h5
          | _ => cases h3
        | _ => cases h2
      | _ => cases h1
    · rw [wayL_len h4] at h
      cases h
theorem ways_keys {H : Hp} {m : Int} : ∀ {xs : List V}, xs.all (wayV H m) = true → ∃ bs : List Addr, xs = bs.map V.ref ∧ KeysAt H bs (xs.map (keyV H))
  | [], _ => ⟨[], rfl, rfl, fun j b k e => by simp at e⟩
  | x :: xs, h => by
    rw [List.all_cons, Bool.and_eq_true] at h
    obtain ⟨bs, e, h1, h2⟩ := ways_keys h.2
    obtain ⟨p, a, b, c, d, rfl, hp, _⟩ := way_of h.1
    refine ⟨p :: bs, by rw [List.map_cons, ← e], by rw [List.length_cons, List.map_cons, List.length_cons, h1], fun j b' k e1 e2 => ?_⟩
    cases j with
    | zero =>
      cases e1
      rw [List.map_cons, key_tup hp] at e2
      cases e2
      exact hp
    | succ j => exact h2 j b' k e1 e2
theorem wayV_ext {H H' : Hp} {m : Int} {n : Nat} {v : V} (e : Ext H H') (h : Thg H n v) : wayV H' m v = wayV H m v := by
  cases v with
  | ref p =>
    cases n with
    | zero => exact h.elim
    | succ n =>
      obtain ⟨xs, h1, _⟩ := h
      unfold wayV
      dsimp only
      rcases h1 with h1 | h1 <;> rw [h1, e _ _ h1]
  | _ => rfl
theorem keyV_ext {H H' : Hp} {n : Nat} {v : V} (e : Ext H H') (h : Thg H n v) : keyV H' v = keyV H v := by
  cases v with
  | ref p =>
    cases n with
    | zero => exact h.elim
    | succ n =>
      obtain ⟨xs, h1, _⟩ := h
      unfold keyV
      dsimp only
      rcases h1 with h1 | h1 <;> rw [h1, e _ _ h1]
  | _ => rfl
def waysL (H : Hp) (m : Int) (xs : List V) : Bool := decide (xs.length ≤ 100) && (xs.all (wayV H m) && decide (xs.map (keyV H)).Nodup)
def waysV (H : Hp) (m : Int) : V → Bool
  | .ref p => match H p with
    | some (.tup xs) => waysL H m xs
    | _ => false
  | _ => false
theorem ways_no {H : Hp} {m : Int} {v : V} (h : isTup H v = false) : waysV H m v = false := by
  cases v with
  | ref p =>
    unfold isTup at h
    unfold waysV
    dsimp only at h ⊢
    split
    · rename_i xs e
      rw [e] at h
      cases h
    · rfl
  | _ => rfl
theorem ways_tup {H : Hp} {m : Int} {p : Addr} {xs : List V} (h : H p = some (.tup xs)) : waysV H m (.ref p) = waysL H m xs := by
  unfold waysV
  dsimp only
  rw [h]
open Classical in
theorem len_le {α : Type} : ∀ {D l : List α}, D.Nodup → (∀ k ∈ D, k ∈ l) → D.length ≤ l.length
  | [], l, _, _ => Nat.zero_le _
  | d :: D, l, hn, hs => by
    have hn' := List.nodup_cons.mp hn
    have hm := hs d List.mem_cons_self
    have := len_le (D := D) (l := l.erase d) hn'.2 fun k hk => (List.mem_erase_of_ne (by rintro rfl; exact hn'.1 hk)).mpr (hs k (List.mem_cons_of_mem _ hk))
    rw [List.length_erase_of_mem hm] at this
    have h0 : 0 < l.length := List.length_pos_of_mem hm
    rw [List.length_cons]
    omega
theorem nodup_iff {α : Type} {D l : List α} (hn : D.Nodup) (hm : ∀ k, k ∈ D ↔ k ∈ l) : D.length = l.length ↔ l.Nodup := by
  constructor
  · intro e
    exact (perm_by hn (fun k hk => (hm k).mp hk) e.symm).nodup_iff.mpr hn
  · intro hl
    have h1 := len_le hn fun k hk => (hm k).mp hk
    have h2 := len_le hl fun k hk => (hm k).mpr hk
    omega
def sp_are_ways (K : PySem.W.Frag) : Sp := fun vs H Q _ => ∃ v m, vs = [v, .int m] ∧ Thg H 3 v ∧ ∀ H', Ext H H' → Q (.bl (waysV H m v)) H'
abbrev s_are_ways : Stmt := top 10
theorem sc_are_ways : FnScope ["thing", "many"] ["thing", "many"] (defScope s_are_ways) := ⟨rfl, rfl, rfl, by decide +kernel, rfl, by decide +kernel, by decide +kernel⟩
theorem ok_are_ways {P : Program} {w : World} {K : PySem.W.Frag} {mg : Str → Option Value} {base : Heap} (D : Dfn K mg "are_ways" s_are_ways ["thing", "many"]) (T : Blt mg) (g_GREATEST_WAYS : ∃ t, mg "GREATEST_WAYS" = some (.int 100 t)) (C_is_way : Cal P w K mg base "is_way" 3 ["thing", "many"] (sp_is_way K)) : Cal P w K mg base "are_ways" 4 ["thing", "many"] (sp_are_ways K) := by
  have nd := (sc_are_ways).nd
  refine D.ok sc_are_ways (fun vs H Q E h => ?_) (fun X hX H vs Q E h => ?_)
  · obtain ⟨p, m, rfl, _⟩ := h; rfl
  · obtain ⟨f, cdv, A, outer, s, H0, E0, rfl, hr⟩ := hX
    obtain ⟨t_GREATEST_WAYS, c_GREATEST_WAYS⟩ := g_GREATEST_WAYS
    obtain ⟨v, m, rfl, ht, q⟩ := h
    obtain ⟨n, hk⟩ := ht.kind
    refine ⟨_, (no_implicit_lambda% (pss_cons (no_implicit_lambda% (ps_if (no_implicit_lambda% (PW.pt (pw_or (no_implicit_lambda% (pt_not (no_implicit_lambda% (pt_val (no_implicit_lambda% (pe_callB call_isi rfl T.isinstance_ PyProof.Rows.boot_isinstance (no_implicit_lambda% (pa_cons (no_implicit_lambda% (pv 0)) (no_implicit_lambda% (pa_cons (no_implicit_lambda% (pe_bltn (v := .ty "tuple") rfl T.tuple_ PyProof.Rows.boot_tuple rfl)) pa_nil)))))))))) (pw_or1 (no_implicit_lambda% (pt_cmpR op_gt (no_implicit_lambda% (pe_callB (call_lenK K) rfl T.len_ PySem.boot_len (no_implicit_lambda% (pa_cons (no_implicit_lambda% (pv 0)) pa_nil)))) (no_implicit_lambda% (pe_glob (v := .int 100) rfl c_GREATEST_WAYS ⟨_, rfl⟩)) (nomark _))))))) (no_implicit_lambda% (pss_one (no_implicit_lambda% (ps_ret pe_bl)))) pss_nil))
        (no_implicit_lambda% (pss_one (no_implicit_lambda% (ps_ret (no_implicit_lambda% (pe_and (no_implicit_lambda% (pe_callB (call_allL K rfl) rfl T.all_ PyProof.Rows.boot_all (no_implicit_lambda% (pa_cons (no_implicit_lambda% (pe_comp ["way"] [1] (no_implicit_lambda% (pi_tupK K (no_implicit_lambda% (pv 0)))) (fun _ => (no_implicit_lambda% (pg_name (i := 0) (show (["way", "many"] : List Str).Nodup from by decide +kernel) rfl (Or.inl rfl) (Or.inr rfl)))) (fun _ => pcs_nil) (fun _ => (no_implicit_lambda% (pe_cal C_is_way hr (no_implicit_lambda% (pa_cons (no_implicit_lambda% (pv 0)) (no_implicit_lambda% (pa_cons (no_implicit_lambda% (pv 1)) pa_nil))))))))) pa_nil)))) (pe_one (no_implicit_lambda% (pe_cmpR op_eq (no_implicit_lambda% (pe_callB call_lenSD rfl T.len_ PySem.boot_len (no_implicit_lambda% (pa_cons (no_implicit_lambda% (pe_callTy (call_setD hr) rfl T.set_ PyProof.Rows.boot_set (no_implicit_lambda% (pa_cons (no_implicit_lambda% (pv 0)) pa_nil)))) pa_nil)))) (no_implicit_lambda% (pe_callB (call_lenK K) rfl T.len_ PySem.boot_len (no_implicit_lambda% (pa_cons (no_implicit_lambda% (pv 0)) pa_nil)))) (nomark _)))))))))))), ?_⟩
    walk_at "rd"
    refine rd_isi hk (kind_tuple hk) ?_
    walk_at "rd"
    cases hv : isTup H v with
    | false =>
      refine iteT ?_
      walk_at "rd"
      rw [ways_no hv] at q
      exact q H fun _ _ z => z
    | true =>
      refine iteF ?_
      obtain ⟨p, xs, rfl, hp⟩ := isTup_of hv
      obtain ⟨hx1, hx2⟩ := ht.items hp
      rw [ways_tup hp] at q
      unfold waysL at q
      walk_at "rd"
      refine rd_lenT (SqT.of hp) ?_
      walk_at "rd"
      by_cases h4 : xs.length ≤ 100
      · rw [decide_eq_false (show ¬ ((100 : Int) < ((xs.length : Nat) : Int)) by omega)]
        rw [decide_eq_true h4, Bool.true_and] at q
        refine iteF ?_
        walk_at "rd"
        refine rd_iTx (SqT.of hp) ?_
        refine comp_tup (xs := xs) (fun i ys H' => Ext H H' ∧ ys = ((xs.take i).map (wayV H m)).map V.bl) (small9 hx1) ⟨fun _ _ z => z, rfl⟩ (fun i ys H' hi h => ⟨SqT.of (h.1 _ _ hp), by rw [h.2, List.length_map, List.length_map, List.length_take]; omega⟩) ?_ ?_
        · rintro i x ys H' hx ⟨e, rfl⟩
          have hxt := hx2 x (List.mem_of_getElem? hx)
          walk_at "rd"
          refine iteT ?_
          walk_at "rd"
          refine ⟨x, m, rfl, hxt.ext e, e, ?_⟩
          rw [wayV_ext e hxt, List.take_add_one, hx]
          simp
        · rintro ys H' pl ⟨e, rfl⟩ hpl
          rw [List.take_length]
          walk_at "rd"
          have eN : Ext H (upd H' pl (.lst ((xs.map (wayV H m)).map V.bl))) := e.trans (ext_upd hpl)
          refine ⟨pl, xs.map (wayV H m), rfl, SqL.of upd_same, ?_⟩
          have ea : (xs.map (wayV H m)).all id = xs.all (wayV H m) := by
            rw [List.all_map]
            rfl
          rw [ea]
          walk_at "rd"
          cases hall : xs.all (wayV H m) with
          | false =>
            refine iteF ?_
            rw [hall, Bool.false_and] at q
            exact q _ eN
          | true =>
            refine iteT ?_
            rw [hall, Bool.true_and] at q
            obtain ⟨bs, ebs, hka⟩ := ways_keys hall
            generalize upd H' pl (.lst ((xs.map (wayV H m)).map V.bl)) = H2 at eN ⊢
            walk_at "rd"
            refine ⟨p, bs, xs.map (keyV H), rfl, .inl (by rw [← ebs]; exact eN _ _ hp), hka.ext eN, by rw [List.length_map]; omega, fun l L hl hnd hmem hL => ?_⟩
            have hll : L.length ≤ xs.length := by
              have := len_le hnd fun k hk => (hmem k).mp hk
              rwa [List.length_map, List.length_map] at this
            walk_at "rd"
            refine ⟨l, L, rfl, upd_same, by omega, ?_⟩
            walk_at "rd"
            have eL : Ext H (upd H2 l (setK P w l L)) := eN.trans (ext_upd hl)
            refine rd_lenT (SqT.of (eL _ _ hp)) ?_
            walk_at "rd"
            have hiff := nodup_iff hnd hmem
            rw [List.length_map, List.length_map] at hiff
            have eb : decide ((((L.length : Nat) : Int)) = ((xs.length : Nat) : Int)) = decide ((xs.map (keyV H)).Nodup) := by
              by_cases hq : (xs.map (keyV H)).Nodup
              · rw [decide_eq_true (show ((L.length : Nat) : Int) = ((xs.length : Nat) : Int) by have := hiff.mpr hq; omega)]
                exact (decide_eq_true hq).symm
              · rw [decide_eq_false (show ¬ ((L.length : Nat) : Int) = ((xs.length : Nat) : Int) from fun z => hq (hiff.mp (by omega)))]
                exact (decide_eq_false hq).symm
            rw [eb]
            exact q _ eL
      · rw [decide_eq_true (show ((100 : Int) < ((xs.length : Nat) : Int)) by omega)]
        rw [decide_eq_false h4, Bool.false_and] at q
        refine iteT ?_
        walk_at "rd"
        exact q H fun _ _ z => z
def houseL (H : Hp) : List V → Bool
  | [.int m, q] => decide (1 ≤ m) && (decide (m ≤ 12) && waysV H m q)
  | _ => false
def houseV (H : Hp) : V → Bool
  | .ref p => match H p with
    | some (.tup xs) => houseL H xs
    | _ => false
  | _ => false
theorem house_no {H : Hp} {v : V} (h : isTup H v = false) : houseV H v = false := by
  cases v with
  | ref p =>
    unfold isTup at h
    unfold houseV
    dsimp only at h ⊢
    split
    · rename_i xs e
      rw [e] at h
      cases h
    · rfl
  | _ => rfl
theorem house_tup {H : Hp} {p : Addr} {xs : List V} (h : H p = some (.tup xs)) : houseV H (.ref p) = houseL H xs := by
  unfold houseV
  dsimp only
  rw [h]
theorem houseL_len {H : Hp} {xs : List V} (h : xs.length ≠ 2) : houseL H xs = false := by
  unfold houseL
  split
  · exact absurd rfl h
  · rfl
theorem houseL_int {H : Hp} {a b : V} (h : isInt a = false) : houseL H [a, b] = false := by
  cases a <;> first | rfl | cases h
theorem two_of {xs : List V} (h : xs.length = 2) : ∃ a b, xs = [a, b] := by
  match xs, h with
  | [a, b], _ => exact ⟨a, b, rfl⟩
def sp_is_house (K : PySem.W.Frag) : Sp := fun vs H Q _ => ∃ v, vs = [v] ∧ Thg H 4 v ∧ ∀ H', Ext H H' → Q (.bl (houseV H v)) H'
abbrev s_is_house : Stmt := top 11
theorem sc_is_house : FnScope ["thing"] ["thing"] (defScope s_is_house) := ⟨rfl, rfl, rfl, by decide +kernel, rfl, by decide +kernel, by decide +kernel⟩
theorem ok_is_house {P : Program} {w : World} {K : PySem.W.Frag} {mg : Str → Option Value} {base : Heap} (D : Dfn K mg "is_house" s_is_house ["thing"]) (T : Blt mg) (g_GREATEST_MANY : ∃ t, mg "GREATEST_MANY" = some (.int 12 t)) (C_are_ways : Cal P w K mg base "are_ways" 4 ["thing", "many"] (sp_are_ways K)) (C_is_whole : Cal P w K mg base "is_whole" 1 ["thing"] (sp_is_whole K)) : Cal P w K mg base "is_house" 5 ["thing"] (sp_is_house K) := by
  have nd := (sc_is_house).nd
  refine D.ok sc_is_house (fun vs H Q E h => ?_) (fun X hX H vs Q E h => ?_)
  · obtain ⟨p, rfl, _⟩ := h; rfl
  · obtain ⟨f, cdv, A, outer, s, H0, E0, rfl, hr⟩ := hX
    obtain ⟨t_GREATEST_MANY, c_GREATEST_MANY⟩ := g_GREATEST_MANY
    obtain ⟨v, rfl, ht, q⟩ := h
    obtain ⟨n, hk⟩ := ht.kind
    refine ⟨_, (no_implicit_lambda% (pss_cons (no_implicit_lambda% (ps_if (no_implicit_lambda% (PW.pt (pw_or (no_implicit_lambda% (pt_not (no_implicit_lambda% (pt_val (no_implicit_lambda% (pe_callB call_isi rfl T.isinstance_ PyProof.Rows.boot_isinstance (no_implicit_lambda% (pa_cons (no_implicit_lambda% (pv 0)) (no_implicit_lambda% (pa_cons (no_implicit_lambda% (pe_bltn (v := .ty "tuple") rfl T.tuple_ PyProof.Rows.boot_tuple rfl)) pa_nil)))))))))) (pw_or1 (no_implicit_lambda% (pt_cmpR op_ne (no_implicit_lambda% (pe_callB (call_lenK K) rfl T.len_ PySem.boot_len (no_implicit_lambda% (pa_cons (no_implicit_lambda% (pv 0)) pa_nil)))) pe_int (nomark _))))))) (no_implicit_lambda% (pss_one (no_implicit_lambda% (ps_ret pe_bl)))) pss_nil))
        (no_implicit_lambda% (pss_one (no_implicit_lambda% (ps_ret (no_implicit_lambda% (pe_and (no_implicit_lambda% (pe_cal C_is_whole hr (no_implicit_lambda% (pa_cons (no_implicit_lambda% (pe_ix (ix_tupK K) (no_implicit_lambda% (pv 0)) pe_int (fun _ _ => rfl))) pa_nil)))) (pe_and (no_implicit_lambda% (pe_chain op_le op_le pe_int (no_implicit_lambda% (pe_ix (ix_tupK K) (no_implicit_lambda% (pv 0)) pe_int (fun _ _ => rfl))) (no_implicit_lambda% (pe_glob (v := .int 12) rfl c_GREATEST_MANY ⟨_, rfl⟩)))) (pe_one (no_implicit_lambda% (pe_cal C_are_ways hr (no_implicit_lambda% (pa_cons (no_implicit_lambda% (pe_ix (ix_tupK K) (no_implicit_lambda% (pv 0)) pe_int (fun _ _ => rfl))) (no_implicit_lambda% (pa_cons (no_implicit_lambda% (pe_ix (ix_tupK K) (no_implicit_lambda% (pv 0)) pe_int (fun _ _ => rfl))) pa_nil)))))))))))))))), ?_⟩
    walk_at "rd"
    refine rd_isi hk (kind_tuple hk) ?_
    walk_at "rd"
    cases hv : isTup H v with
    | false =>
      refine iteT ?_
      walk_at "rd"
      rw [house_no hv] at q
      exact q H fun _ _ z => z
    | true =>
      refine iteF ?_
      obtain ⟨p, xs, rfl, hp⟩ := isTup_of hv
      obtain ⟨hx1, hx2⟩ := ht.items hp
      rw [house_tup hp] at q
      walk_at "rd"
      refine rd_lenT (SqT.of hp) ?_
      walk_at "rd"
      by_cases h4 : xs.length = 2
      · obtain ⟨a, b, rfl⟩ := two_of h4
        have ta := hx2 a (by simp)
        have tb := hx2 b (by simp)
        obtain ⟨ka, hka⟩ := ta.kind
        refine iteF ?_
        walk_at "rd"
        refine rd_ixT (SqT.of hp) (v := a) rfl ?_
        walk_at "rd"
        refine ⟨a, ka, rfl, hka, ?_⟩
        refine rd_exb ?_
        cases ha : isInt a with
        | false =>
          refine iteF ?_
          rw [houseL_int ha] at q
          exact q H fun _ _ z => z
        | true =>
          obtain ⟨m, rfl⟩ := isInt_of ha
          refine iteT ?_
          unfold houseL at q
          dsimp only at q
          walk_at "rd"
          refine rd_ixT (SqT.of hp) (v := .int m) rfl ?_
          walk_at "rd"
          cases h1 : decide (1 ≤ m) with
          | false =>
            refine iteF ?_
            walk_at "rd"
            refine iteF ?_
            rw [h1] at q
            exact q H fun _ _ z => z
          | true =>
            refine iteT ?_
            walk_at "rd"
            rw [h1, Bool.true_and] at q
            cases h2 : decide (m ≤ 12) with
            | false =>
              refine iteF ?_
              rw [h2] at q
              exact q H fun _ _ z => z
            | true =>
              refine iteT ?_
              walk_at "rd"
              refine rd_ixT (SqT.of hp) (v := b) rfl ?_
              walk_at "rd"
              refine rd_ixT (SqT.of hp) (v := .int m) rfl ?_
              walk_at "rd"
              rw [h2, Bool.true_and] at q
              exact ⟨b, m, rfl, tb, q⟩
      · rw [houseL_len h4] at q
        rw [decide_eq_false (show ¬ ((xs.length : Nat) : Int) = 2 by omega)]
        refine iteT ?_
        walk_at "rd"
        exact q H fun _ _ z => z
end My
set_option Elab.async false
set_option linter.all false
set_option maxRecDepth 100000
namespace My
open PySem L2 St
set_option maxHeartbeats 4000000
local macro_rules | `(tactic| walk_at "cond") => `(tactic| first | decide | omega | (dsimp only; omega) | (unfold CMul; omega) | (unfold CPow; exact ⟨by decide, by decide, by decide⟩) | (dsimp only; exact ⟨by omega, by omega⟩) | exact .inr ⟨by decide, by decide⟩ | exact .inl ⟨by decide, by decide⟩ | (unfold SmallR; omega))
local macro_rules | `(tactic| walk_at "sq") => `(tactic| first | assumption | exact SqL.of (by assumption) | exact SqT.of (by assumption) | exact SqL.of (by solve_by_elim) | exact SqT.of (by solve_by_elim) | solve_by_elim)
local macro_rules | `(tactic| walk_at "rd") => do
  let ts ← ("seq ret retN asg drop ifS next name var c op un CB cons nil ints test B exb not and or andV orV notV ifE yes I0 I U EqI NeI EqB NeB call BM tup lst sl noPart part exi chain comp iL iT i1 i2 i3 for tTru intB max2 min2 sub gcons gnil aug ipI zip rev par par2 lam calV raise fs try bseq bnext bplain bif bcall enum gget gin revL leS disp dget lrev disp1 din dnin dput min3 iS iD bm0 revS".splitOn " ").toArray.mapM fun n =>
    let i := Lean.mkIdent (.mkSimple ("rd_" ++ n))
    if n == "var" || n == "aug" then `(tacticSeq| ((with_reducible apply $i); (exact rfl)))
    else if n == "I" then `(tacticSeq| ((with_reducible apply $i); (walk_at "cond")))
    else `(tacticSeq| with_reducible refine $i ?_)
  `(tactic| repeat (first $[| $ts]* | dsimp only))
def sp__law_whole (K : PySem.W.Frag) : Sp := fun vs H Q _ => ∃ v n, vs = [v] ∧ kindV H v n ∧ Q (.bl (isInt v)) H
abbrev s__law_whole : Stmt := top 22
theorem sc__law_whole : FnScope ["_law_found"] ["_law_found"] (defScope s__law_whole) := ⟨rfl, rfl, rfl, by decide +kernel, rfl, by decide +kernel, by decide +kernel⟩
theorem ok__law_whole {P : Program} {w : World} {K : PySem.W.Frag} {mg : Str → Option Value} {base : Heap} (D : Dfn K mg "_law_whole" s__law_whole ["_law_found"]) (T : Blt mg) : Cal P w K mg base "_law_whole" 1 ["_law_found"] (sp__law_whole K) := by
  have nd := (sc__law_whole).nd
  refine D.ok sc__law_whole (fun vs H Q E h => ?_) (fun X hX H vs Q E h => ?_)
  · obtain ⟨v, n, rfl, _⟩ := h; rfl
  · obtain ⟨f, cdv, A, outer, s, H0, E0, rfl, hr⟩ := hX
    obtain ⟨v, n, rfl, hk, q⟩ := h
    obtain ⟨b, c, hb, hc, e⟩ := kind_whole hk
    refine ⟨_, (no_implicit_lambda% (pss_one (no_implicit_lambda% (ps_ret (no_implicit_lambda% (pe_and (no_implicit_lambda% (pe_callB call_isi rfl T.isinstance_ PyProof.Rows.boot_isinstance (no_implicit_lambda% (pa_cons (no_implicit_lambda% (pv 0)) (no_implicit_lambda% (pa_cons (no_implicit_lambda% (pe_bltn (v := .ty "int") rfl T.int_ PyProof.Rows.boot_int rfl)) pa_nil)))))) (pe_one (no_implicit_lambda% (pe_not (no_implicit_lambda% (pe_callB call_isi rfl T.isinstance_ PyProof.Rows.boot_isinstance (no_implicit_lambda% (pa_cons (no_implicit_lambda% (pv 0)) (no_implicit_lambda% (pa_cons (no_implicit_lambda% (pe_bltn (v := .ty "bool") rfl T.bool_ PyProof.Rows.boot_bool rfl)) pa_nil))))))))))))))), ?_⟩
    walk_at "rd"
    refine rd_isi hk hb ?_
    walk_at "rd"
    cases b with
    | false => refine iteF ?_; rw [← e] at q; exact q
    | true =>
      refine iteT ?_
      walk_at "rd"
      refine rd_isi hk hc ?_
      walk_at "rd"
      rw [← e] at q; exact q
theorem deed_in (z : Str) : inV (.str z) [.str (Str.ofString "up"), .str (Str.ofString "down"), .str (Str.ofString "stay"), .str (Str.ofString "zero")] = deedV (.str z) := by
  unfold inV deedV gd_TURNED
  dsimp only
  by_cases h1 : Str.ofString "up" = z
  · subst h1; decide +kernel
  · by_cases h2 : Str.ofString "down" = z
    · subst h2; decide +kernel
    · by_cases h3 : Str.ofString "stay" = z
      · subst h3; decide +kernel
      · by_cases h4 : Str.ofString "zero" = z
        · subst h4; decide +kernel
        · have k1 : ¬ ((Sum.inr (Str.ofString "up"), V.str (Str.ofString "down")) : Key × V).1 = Sum.inr z := fun e => h1 (Sum.inr.inj e)
          have k2 : ¬ ((Sum.inr (Str.ofString "down"), V.str (Str.ofString "up")) : Key × V).1 = Sum.inr z := fun e => h2 (Sum.inr.inj e)
          have k3 : ¬ ((Sum.inr (Str.ofString "stay"), V.str (Str.ofString "stay")) : Key × V).1 = Sum.inr z := fun e => h3 (Sum.inr.inj e)
          have k4 : ¬ ((Sum.inr (Str.ofString "zero"), V.str (Str.ofString "zero")) : Key × V).1 = Sum.inr z := fun e => h4 (Sum.inr.inj e)
          rw [valV_neg k1, valV_neg k2, valV_neg k3, valV_neg k4, valV_nil]
          simp only [List.any_cons, List.any_nil, eqV, Bool.or_false]
          simp [h1, h2, h3, h4]
theorem alpha_list : (Str.ofString "abcdefghijklmnopqrstuvwxyz").cps.toList = List.range' 97 26 := by decide +kernel
theorem sign_in (c : Nat) : (!(Builtin.Str.occurrences (Str.ofString "abcdefghijklmnopqrstuvwxyz") ⟨#[c]⟩ 0 (Str.ofString "abcdefghijklmnopqrstuvwxyz").length 1).isEmpty) = sign1 ⟨#[c]⟩ := by
  rw [PySem.StrLaws.found_one, alpha_list]
  unfold sign1
  have ea : (Str.ofString "a").cps.toList = [97] := by decide +kernel
  have ez : (Str.ofString "z").cps.toList = [122] := by decide +kernel
  rw [ea, ez]
  have e1 : decide (([c] : List Nat) < [97]) = decide (c < 97) := by
    apply decide_eq_decide.mpr
    rw [List.cons_lt_cons_iff]
    simp
  have e2 : decide (([122] : List Nat) < [c]) = decide (122 < c) := by
    apply decide_eq_decide.mpr
    rw [List.cons_lt_cons_iff]
    simp
  show decide (c ∈ List.range' 97 26) = (!decide (([c] : List Nat) < [97]) && !decide (([122] : List Nat) < [c]))
  rw [e1, e2]
  have e3 : c ∈ List.range' 97 26 ↔ (97 ≤ c ∧ c ≤ 122) := by
    rw [List.mem_range'_1]
    omega
  rw [show decide (c ∈ List.range' 97 26) = decide (97 ≤ c ∧ c ≤ 122) from decide_eq_decide.mpr e3]
  by_cases h1 : c < 97
  · rw [decide_eq_true h1, decide_eq_false (by omega)]; rfl
  · by_cases h2 : 122 < c
    · rw [decide_eq_true h2, decide_eq_false h1, decide_eq_false (by omega)]; rfl
    · rw [decide_eq_false h2, decide_eq_false h1, decide_eq_true (by omega)]; rfl
theorem one_sign {z : Str} (h : z.length = 1) : ∃ c, z = ⟨#[c]⟩ := by
  obtain ⟨cps⟩ := z
  have h' : cps.size = 1 := h
  obtain ⟨l⟩ := cps
  match l, h' with
  | [c], _ => exact ⟨c, rfl⟩
theorem kind_ext {H H' : Hp} {v : V} {n : String} (e : Ext H H') (h : kindV H v n) : kindV H' v n := by
  cases v with
  | ref a =>
    rcases h with ⟨h1, xs, h2⟩ | ⟨h1, xs, h2⟩
    · exact .inl ⟨h1, xs, e _ _ h2⟩
    · exact .inr ⟨h1, xs, e _ _ h2⟩
  | _ => exact h
theorem ways_bad {H : Hp} {m : Int} {xs : List V} {x : V} (hx : x ∈ xs) (h : wayV H m x = false) : waysL H m xs = false := by
  unfold waysL
  have : xs.all (wayV H m) = false := by
    rw [List.all_eq_false]
    exact ⟨x, hx, by rw [h]; exact Bool.false_ne_true⟩
  rw [this, Bool.false_and, Bool.and_false]
theorem room_lo {m i : Int} (h : i < 0) : roomV m (.int i) = false := by
  unfold roomV
  dsimp only
  rw [decide_eq_false (show ¬ 0 ≤ i by omega)]
  rfl
theorem room_hi {m i : Int} (h : m ≤ i) : roomV m (.int i) = false := by
  unfold roomV
  dsimp only
  rw [decide_eq_false (show ¬ i < m by omega)]
  exact Bool.and_false _
theorem room_yes {m i : Int} (h : 0 ≤ i) (h' : i < m) : roomV m (.int i) = true := by
  unfold roomV
  dsimp only
  rw [decide_eq_true h, decide_eq_true h']
  rfl
theorem wayL_r {m : Int} {a b c d : V} (h : roomV m a = false ∨ roomV m c = false ∨ deedV b = false ∨ signV d = false) : wayL m [a, b, c, d] = false := by
  unfold wayL
  dsimp only
  rcases h with h | h | h | h <;> rw [h] <;> simp
def sp__law_is_house (K : PySem.W.Frag) : Sp := fun vs H Q _ => ∃ v, vs = [v] ∧ Thg H 4 v ∧ ∀ H', Ext H H' → Q (.bl (houseV H v)) H'
abbrev s__law_is_house : Stmt := top 23
theorem sc__law_is_house : FnScope ["_law_thing", "_law_many", "_law_ways", "_law_way"] ["_law_thing"] (defScope s__law_is_house) := ⟨rfl, rfl, rfl, by decide +kernel, rfl, by decide +kernel, by decide +kernel⟩
theorem ok__law_is_house {P : Program} {w : World} {K : PySem.W.Frag} {mg : Str → Option Value} {base : Heap} (D : Dfn K mg "_law_is_house" s__law_is_house ["_law_thing"]) (T : Blt mg) (C__law_whole : Cal P w K mg base "_law_whole" 1 ["_law_found"] (sp__law_whole K)) : Cal P w K mg base "_law_is_house" 2 ["_law_thing"] (sp__law_is_house K) := by
  have nd := (sc__law_is_house).nd
  refine D.ok sc__law_is_house (fun vs H Q E h => ?_) (fun X hX H vs Q E h => ?_)
  · obtain ⟨p, rfl, _⟩ := h; rfl
  · obtain ⟨f, cdv, A, outer, s, H0, E0, rfl, hr⟩ := hX
    obtain ⟨v, rfl, ht, q⟩ := h
    obtain ⟨n, hk⟩ := ht.kind
    refine ⟨_, (no_implicit_lambda% (pss_cons (no_implicit_lambda% (ps_if (no_implicit_lambda% (PW.pt (pw_or (no_implicit_lambda% (pt_not (no_implicit_lambda% (pt_val (no_implicit_lambda% (pe_callB call_isi rfl T.isinstance_ PyProof.Rows.boot_isinstance (no_implicit_lambda% (pa_cons (no_implicit_lambda% (pv 0)) (no_implicit_lambda% (pa_cons (no_implicit_lambda% (pe_bltn (v := .ty "tuple") rfl T.tuple_ PyProof.Rows.boot_tuple rfl)) pa_nil)))))))))) (pw_or (no_implicit_lambda% (pt_cmpR op_ne (no_implicit_lambda% (pe_callB (call_lenK K) rfl T.len_ PySem.boot_len (no_implicit_lambda% (pa_cons (no_implicit_lambda% (pv 0)) pa_nil)))) pe_int (nomark _))) (pw_or (no_implicit_lambda% (pt_not (no_implicit_lambda% (pt_val (no_implicit_lambda% (pe_cal C__law_whole hr (no_implicit_lambda% (pa_cons (no_implicit_lambda% (pe_ix (ix_tupK K) (no_implicit_lambda% (pv 0)) pe_int (fun _ _ => rfl))) pa_nil)))))))) (pw_or1 (no_implicit_lambda% (pt_not (no_implicit_lambda% (pt_val (no_implicit_lambda% (pe_callB call_isi rfl T.isinstance_ PyProof.Rows.boot_isinstance (no_implicit_lambda% (pa_cons (no_implicit_lambda% (pe_ix (ix_tupK K) (no_implicit_lambda% (pv 0)) pe_int (fun _ _ => rfl))) (no_implicit_lambda% (pa_cons (no_implicit_lambda% (pe_bltn (v := .ty "tuple") rfl T.tuple_ PyProof.Rows.boot_tuple rfl)) pa_nil)))))))))))))))) (no_implicit_lambda% (pss_one (no_implicit_lambda% (ps_ret pe_bl)))) pss_nil))
        (no_implicit_lambda% (pss_cons (no_implicit_lambda% (ps_asg (no_implicit_lambda% (pv 0)) (no_implicit_lambda% (pg_tupK (n := 2) K rfl (pgs_cons (no_implicit_lambda% (pg_name (i := 1) nd rfl (Or.inl rfl))) (pgs_cons (no_implicit_lambda% (pg_name (i := 2) nd rfl (Or.inl rfl))) pgs_nil))))))
        (no_implicit_lambda% (pss_cons (no_implicit_lambda% (ps_if (no_implicit_lambda% (PW.pt (pw_or (no_implicit_lambda% (pt_cmpR op_lt (no_implicit_lambda% (pv 1)) pe_int (nomark _))) (pw_or (no_implicit_lambda% (pt_cmpR op_gt (no_implicit_lambda% (pv 1)) pe_int (nomark _))) (pw_or1 (no_implicit_lambda% (pt_cmpR op_gt (no_implicit_lambda% (pe_callB (call_lenK K) rfl T.len_ PySem.boot_len (no_implicit_lambda% (pa_cons (no_implicit_lambda% (pv 2)) pa_nil)))) pe_int (nomark _)))))))) (no_implicit_lambda% (pss_one (no_implicit_lambda% (ps_ret pe_bl)))) pss_nil))
        (no_implicit_lambda% (pss_cons (no_implicit_lambda% (ps_for PassesOwn.never rfl (no_implicit_lambda% (pi_tupK K (no_implicit_lambda% (pv 2)))) (no_implicit_lambda% (pg_name (i := 3) nd rfl (Or.inl rfl))) (no_implicit_lambda% (pss_cons (no_implicit_lambda% (ps_if (no_implicit_lambda% (PW.pt (pw_or (no_implicit_lambda% (pt_not (no_implicit_lambda% (pt_val (no_implicit_lambda% (pe_callB call_isi rfl T.isinstance_ PyProof.Rows.boot_isinstance (no_implicit_lambda% (pa_cons (no_implicit_lambda% (pv 3)) (no_implicit_lambda% (pa_cons (no_implicit_lambda% (pe_bltn (v := .ty "tuple") rfl T.tuple_ PyProof.Rows.boot_tuple rfl)) pa_nil)))))))))) (pw_or (no_implicit_lambda% (pt_cmpR op_ne (no_implicit_lambda% (pe_callB (call_lenK K) rfl T.len_ PySem.boot_len (no_implicit_lambda% (pa_cons (no_implicit_lambda% (pv 3)) pa_nil)))) pe_int (nomark _))) (pw_or (no_implicit_lambda% (pt_not (no_implicit_lambda% (pt_val (no_implicit_lambda% (pe_cal C__law_whole hr (no_implicit_lambda% (pa_cons (no_implicit_lambda% (pe_ix (ix_tupK K) (no_implicit_lambda% (pv 3)) pe_int (fun _ _ => rfl))) pa_nil)))))))) (pw_or1 (no_implicit_lambda% (pt_not (no_implicit_lambda% (pt_val (no_implicit_lambda% (pe_cal C__law_whole hr (no_implicit_lambda% (pa_cons (no_implicit_lambda% (pe_ix (ix_tupK K) (no_implicit_lambda% (pv 3)) pe_int (fun _ _ => rfl))) pa_nil)))))))))))))) (no_implicit_lambda% (pss_one (no_implicit_lambda% (ps_ret pe_bl)))) pss_nil))
        (no_implicit_lambda% (pss_cons (no_implicit_lambda% (ps_if (no_implicit_lambda% (PW.pt (pw_or (no_implicit_lambda% (pt_cmpR op_lt (no_implicit_lambda% (pe_callB (call_min2N rfl) rfl T.min_ PyProof.Rows.boot_min (no_implicit_lambda% (pa_cons (no_implicit_lambda% (pe_ix (ix_tupK K) (no_implicit_lambda% (pv 3)) pe_int (fun _ _ => rfl))) (no_implicit_lambda% (pa_cons (no_implicit_lambda% (pe_ix (ix_tupK K) (no_implicit_lambda% (pv 3)) pe_int (fun _ _ => rfl))) pa_nil)))))) pe_int (nomark _))) (pw_or (no_implicit_lambda% (pt_cmpR op_ge (no_implicit_lambda% (pe_callB (call_max2N rfl) rfl T.max_ PyProof.Rows.boot_max (no_implicit_lambda% (pa_cons (no_implicit_lambda% (pe_ix (ix_tupK K) (no_implicit_lambda% (pv 3)) pe_int (fun _ _ => rfl))) (no_implicit_lambda% (pa_cons (no_implicit_lambda% (pe_ix (ix_tupK K) (no_implicit_lambda% (pv 3)) pe_int (fun _ _ => rfl))) pa_nil)))))) (no_implicit_lambda% (pv 1)) (nomark _))) (pw_or1 (no_implicit_lambda% (pt_not (no_implicit_lambda% (pt_val (no_implicit_lambda% (pe_callB call_isi rfl T.isinstance_ PyProof.Rows.boot_isinstance (no_implicit_lambda% (pa_cons (no_implicit_lambda% (pe_ix (ix_tupK K) (no_implicit_lambda% (pv 3)) pe_int (fun _ _ => rfl))) (no_implicit_lambda% (pa_cons (no_implicit_lambda% (pe_bltn (v := .ty "str") rfl T.str_ PyProof.Rows.boot_str rfl)) pa_nil))))))))))))))) (no_implicit_lambda% (pss_one (no_implicit_lambda% (ps_ret pe_bl)))) pss_nil))
        (no_implicit_lambda% (pss_cons (no_implicit_lambda% (ps_if (no_implicit_lambda% (PW.pt (pw_or (no_implicit_lambda% (pt_cmpR (op_notInK K) (no_implicit_lambda% (pe_ix (ix_tupK K) (no_implicit_lambda% (pv 3)) pe_int (fun _ _ => rfl))) (no_implicit_lambda% (pe_tup (no_implicit_lambda% (pa_cons pe_str (no_implicit_lambda% (pa_cons pe_str (no_implicit_lambda% (pa_cons pe_str (no_implicit_lambda% (pa_cons pe_str pa_nil)))))))))) (by with_unfolding_all rfl))) (pw_or1 (no_implicit_lambda% (pt_not (no_implicit_lambda% (pt_val (no_implicit_lambda% (pe_callB call_isi rfl T.isinstance_ PyProof.Rows.boot_isinstance (no_implicit_lambda% (pa_cons (no_implicit_lambda% (pe_ix (ix_tupK K) (no_implicit_lambda% (pv 3)) pe_int (fun _ _ => rfl))) (no_implicit_lambda% (pa_cons (no_implicit_lambda% (pe_bltn (v := .ty "str") rfl T.str_ PyProof.Rows.boot_str rfl)) pa_nil)))))))))))))) (no_implicit_lambda% (pss_one (no_implicit_lambda% (ps_ret pe_bl)))) pss_nil))
        (no_implicit_lambda% (pss_one (no_implicit_lambda% (ps_if (no_implicit_lambda% (PW.pt (pw_or (no_implicit_lambda% (pt_cmpR op_ne (no_implicit_lambda% (pe_callB call_len_str rfl T.len_ PySem.boot_len (no_implicit_lambda% (pa_cons (no_implicit_lambda% (pe_ix (ix_tupK K) (no_implicit_lambda% (pv 3)) pe_int (fun _ _ => rfl))) pa_nil)))) pe_int (nomark _))) (pw_or1 (no_implicit_lambda% (pt_cmpR op_notIn_str (no_implicit_lambda% (pe_ix (ix_tupK K) (no_implicit_lambda% (pv 3)) pe_int (fun _ _ => rfl))) pe_str (by with_unfolding_all rfl))))))) (no_implicit_lambda% (pss_one (no_implicit_lambda% (ps_ret pe_bl)))) pss_nil))))))))))))
        (no_implicit_lambda% (pss_one (no_implicit_lambda% (ps_ret (no_implicit_lambda% (pe_cmpR op_eq (no_implicit_lambda% (pe_callB call_lenSD rfl T.len_ PySem.boot_len (no_implicit_lambda% (pa_cons (no_implicit_lambda% (pe_callTy (call_setD hr) rfl T.set_ PyProof.Rows.boot_set (no_implicit_lambda% (pa_cons (no_implicit_lambda% (pv 2)) pa_nil)))) pa_nil)))) (no_implicit_lambda% (pe_callB (call_lenK K) rfl T.len_ PySem.boot_len (no_implicit_lambda% (pa_cons (no_implicit_lambda% (pv 2)) pa_nil)))) (nomark _))))))))))))))), ?_⟩
    walk_at "rd"
    refine rd_isi hk (kind_tuple hk) ?_
    walk_at "rd"
    cases hv : isTup H v with
    | false =>
      refine iteT ?_
      walk_at "rd"
      rw [house_no hv] at q
      exact q H fun _ _ z => z
    | true =>
      refine iteF ?_
      obtain ⟨p, xs, rfl, hp⟩ := isTup_of hv
      obtain ⟨hx1, hx2⟩ := ht.items hp
      rw [house_tup hp] at q
      walk_at "rd"
      refine rd_lenT (SqT.of hp) ?_
      walk_at "rd"
      by_cases h4 : xs.length = 2
      · obtain ⟨a, b, rfl⟩ := two_of h4
        have ta := hx2 a (by simp)
        have tb := hx2 b (by simp)
        obtain ⟨ka, hka⟩ := ta.kind
        obtain ⟨kb, hkb⟩ := tb.kind
        refine iteF ?_
        walk_at "rd"
        refine rd_ixT (SqT.of hp) (v := a) rfl ?_
        walk_at "rd"
        refine ⟨a, ka, rfl, hka, ?_⟩
        walk_at "rd"
        cases ha : isInt a with
        | false =>
          refine iteT ?_
          walk_at "rd"
          rw [houseL_int ha] at q
          exact q H fun _ _ z => z
        | true =>
          obtain ⟨m, rfl⟩ := isInt_of ha
          refine iteF ?_
          walk_at "rd"
          refine rd_ixT (SqT.of hp) (v := b) rfl ?_
          walk_at "rd"
          refine rd_isi hkb (kind_tuple hkb) ?_
          walk_at "rd"
          unfold houseL at q
          dsimp only at q
          cases hb : isTup H b with
          | false =>
            refine iteT ?_
            walk_at "rd"
            rw [ways_no hb, Bool.and_false, Bool.and_false] at q
            exact q H fun _ _ z => z
          | true =>
            refine iteF ?_
            obtain ⟨r, ws, rfl, hr'⟩ := isTup_of hb
            obtain ⟨hw1, hw2⟩ := tb.items hr'
            rw [ways_tup hr'] at q
            walk_at "rd"
            refine rd_gtup (SqT.of hp) rfl ?_
            walk_at "rd"
            by_cases m1 : 1 ≤ m
            · rw [decide_eq_false (show ¬ m < 1 by omega)]
              rw [decide_eq_true m1, Bool.true_and] at q
              refine iteF ?_
              walk_at "rd"
              by_cases m2 : m ≤ 12
              · rw [decide_eq_false (show ¬ 12 < m by omega)]
                rw [decide_eq_true m2, Bool.true_and] at q
                refine iteF ?_
                walk_at "rd"
                refine rd_lenT (SqT.of hr') ?_
                walk_at "rd"
                by_cases m3 : ws.length ≤ 100
                · rw [decide_eq_false (show ¬ ((100 : Int) < ((ws.length : Nat) : Int)) by omega)]
                  refine iteF ?_
                  walk_at "rd"
                  refine rd_iTx (SqT.of hr') ?_
                  refine forT (xs := ws) (fun i σ H' => Ext H H' ∧ (∃ x, σ = [some (.ref p), some (.int m), some (.ref r), x]) ∧ ∀ x ∈ ws.take i, wayV H m x = true) ⟨fun _ _ z => z, ⟨_, rfl⟩, fun x hx => by simp at hx⟩ (fun i σ H' _ h => SqT.of (h.1 _ _ hr')) ?_ ?_
                  · rintro i x σ H' hx ⟨e, ⟨x0, rfl⟩, hb4⟩
                    have hxm := List.mem_of_getElem? hx
                    have htx := hw2 x hxm
                    have bad : wayV H m x = false → waysL H m ws = false := ways_bad hxm
                    have hkx : ∃ k, kindV H' x k := (htx.ext e).kind
                    obtain ⟨kx, hkx⟩ := hkx
                    have et : isTup H' x = isTup H x := by
                      cases x with
                      | ref p' =>
                        obtain ⟨ys, h1, _⟩ := htx
                        unfold isTup
                        dsimp only
                        rcases h1 with h1 | h1 <;> rw [h1, e _ _ h1]
                      | _ => rfl
                    walk_at "rd"
                    refine rd_isi hkx (kind_tuple hkx) ?_
                    rw [et]
                    walk_at "rd"
                    cases hxt : isTup H x with
                    | false =>
                      refine iteT ?_
                      walk_at "rd"
                      rw [bad (way_no hxt)] at q
                      exact q _ e
                    | true =>
                      refine iteF ?_
                      obtain ⟨u, us, rfl, hu⟩ := isTup_of hxt
                      obtain ⟨hu1, hu2⟩ := htx.items hu
                      have hu' := e _ _ hu
                      walk_at "rd"
                      refine rd_lenT (SqT.of hu') ?_
                      walk_at "rd"
                      rw [way_tup hu] at bad
                      by_cases u4 : us.length = 4
                      · obtain ⟨a, b, c, d, rfl⟩ := four u4
                        have ta := (hu2 a (by simp)).ext e
                        have tb := (hu2 b (by simp)).ext e
                        have tc := (hu2 c (by simp)).ext e
                        have td := (hu2 d (by simp)).ext e
                        obtain ⟨ka, hka⟩ := ta.kind
                        obtain ⟨kb, hkb⟩ := tb.kind
                        obtain ⟨kc, hkc⟩ := tc.kind
                        obtain ⟨kd, hkd⟩ := td.kind
                        refine iteF ?_
                        walk_at "rd"
                        refine rd_ixT (SqT.of hu') (v := a) rfl ?_
                        walk_at "rd"
                        refine ⟨a, ka, rfl, hka, ?_⟩
                        walk_at "rd"
                        cases ia : isInt a with
                        | false =>
                          refine iteT ?_
                          walk_at "rd"
                          rw [bad (wayL_r (.inl (room_no ia)))] at q
                          exact q _ e
                        | true =>
                        obtain ⟨i1, rfl⟩ := isInt_of ia
                        refine iteF ?_
                        walk_at "rd"
                        refine rd_ixT (SqT.of hu') (v := c) rfl ?_
                        walk_at "rd"
                        refine ⟨c, kc, rfl, hkc, ?_⟩
                        walk_at "rd"
                        cases ic : isInt c with
                        | false =>
                          refine iteT ?_
                          walk_at "rd"
                          rw [bad (wayL_r (.inr (.inl (room_no ic))))] at q
                          exact q _ e
                        | true =>
                        obtain ⟨i2, rfl⟩ := isInt_of ic
                        refine iteF ?_
                        walk_at "rd"
                        refine rd_ixT (SqT.of hu') (v := .int i1) rfl ?_
                        walk_at "rd"
                        refine rd_ixT (SqT.of hu') (v := .int i2) rfl ?_
                        walk_at "rd"
                        by_cases n1 : (if i2 < i1 then i2 else i1) < 0
                        · rw [decide_eq_true n1]
                          refine iteT ?_
                          walk_at "rd"
                          have : roomV m (.int i1) = false ∨ roomV m (.int i2) = false := by
                            by_cases n2 : i2 < i1
                            · rw [if_pos n2] at n1
                              exact .inr (room_lo n1)
                            · rw [if_neg n2] at n1
                              exact .inl (room_lo n1)
                          rw [bad (wayL_r (this.imp id .inl))] at q
                          exact q _ e
                        rw [decide_eq_false n1]
                        refine iteF ?_
                        walk_at "rd"
                        refine rd_ixT (SqT.of hu') (v := .int i1) rfl ?_
                        walk_at "rd"
                        refine rd_ixT (SqT.of hu') (v := .int i2) rfl ?_
                        walk_at "rd"
                        by_cases n3 : m ≤ (if i2 > i1 then i2 else i1)
                        · rw [decide_eq_true n3]
                          refine iteT ?_
                          walk_at "rd"
                          have : roomV m (.int i1) = false ∨ roomV m (.int i2) = false := by
                            by_cases n2 : i2 > i1
                            · rw [if_pos n2] at n3
                              exact .inr (room_hi n3)
                            · rw [if_neg n2] at n3
                              exact .inl (room_hi n3)
                          rw [bad (wayL_r (this.imp id .inl))] at q
                          exact q _ e
                        rw [decide_eq_false n3]
                        have r1 : roomV m (.int i1) = true := room_yes (by split at n1 <;> omega) (by split at n3 <;> omega)
                        have r2 : roomV m (.int i2) = true := room_yes (by split at n1 <;> omega) (by split at n3 <;> omega)
                        clear n1 n3
                        refine iteF ?_
                        walk_at "rd"
                        refine rd_ixT (SqT.of hu') (v := b) rfl ?_
                        walk_at "rd"
                        refine rd_isi hkb (kind_str hkb) ?_
                        walk_at "rd"
                        cases ib : isStr b with
                        | false =>
                          refine iteT ?_
                          walk_at "rd"
                          rw [bad (wayL_r (.inr (.inr (.inl (deed_no ib)))))] at q
                          exact q _ e
                        | true =>
                        obtain ⟨z1, rfl⟩ := isStr_of ib
                        refine iteF ?_
                        walk_at "rd"
                        refine rd_ixT (SqT.of hu') (v := .str z1) rfl ?_
                        walk_at "rd"
                        refine ⟨small_line (by simp), rd_new fun dp H2 e2 hdp _ => ?_⟩
                        have eH2 := e.trans e2
                        walk_at "rd"
                        refine ⟨dp, _, rfl, .inr (SqT.of hdp), rfl, rfl, ?_⟩
                        walk_at "rd"
                        rw [deed_in]
                        cases dz : deedV (.str z1) with
                        | false =>
                          refine iteT ?_
                          walk_at "rd"
                          rw [bad (wayL_r (.inr (.inr (.inl dz))))] at q
                          exact q _ eH2
                        | true =>
                        refine iteF ?_
                        walk_at "rd"
                        refine rd_ixT (SqT.of (e2 _ _ hu')) (v := d) rfl ?_
                        walk_at "rd"
                        refine rd_isi (kind_ext e2 hkd) (kind_str hkd) ?_
                        walk_at "rd"
                        cases id' : isStr d with
                        | false =>
                          refine iteT ?_
                          walk_at "rd"
                          rw [bad (wayL_r (.inr (.inr (.inr (sign_no id')))))] at q
                          exact q _ eH2
                        | true =>
                        obtain ⟨z2, rfl⟩ := isStr_of id'
                        refine iteF ?_
                        walk_at "rd"
                        refine rd_ixT (SqT.of (e2 _ _ hu')) (v := .str z2) rfl ?_
                        walk_at "rd"
                        refine ⟨z2, rfl, small9 (Nat.le_trans (show z2.length ≤ 1000 from td) (by decide)), ?_⟩
                        walk_at "rd"
                        by_cases l1 : z2.length = 1
                        · rw [decide_eq_true (show ((z2.length : Nat) : Int) = 1 by omega)]
                          refine iteF ?_
                          walk_at "rd"
                          refine rd_ixT (SqT.of (e2 _ _ hu')) (v := .str z2) rfl ?_
                          walk_at "rd"
                          obtain ⟨ch, rfl⟩ := one_sign l1
                          refine ⟨_, _, rfl, rfl, ?_⟩
                          walk_at "rd"
                          rw [sign_in]
                          cases sz : sign1 ⟨#[ch]⟩ with
                          | false =>
                            refine iteT ?_
                            walk_at "rd"
                            rw [bad (wayL_r (.inr (.inr (.inr (by unfold signV; dsimp only; rw [sz, Bool.and_false])))))] at q
                            exact q _ eH2
                          | true =>
                            refine iteF ?_
                            walk_at "rd"
                            refine ⟨eH2, ⟨_, rfl⟩, fun x hx' => ?_⟩
                            rw [List.take_add_one, hx] at hx'
                            rcases List.mem_append.mp hx' with z | z
                            · exact hb4 x z
                            · have : x = .ref u := by simpa using z
                              subst this
                              rw [way_tup hu]
                              unfold wayL
                              dsimp only
                              rw [r1, r2, dz]
                              unfold signV
                              dsimp only
                              rw [sz, decide_eq_true l1]
                              rfl
                        · rw [decide_eq_false (show ¬ ((z2.length : Nat) : Int) = 1 by omega)]
                          refine iteT ?_
                          walk_at "rd"
                          rw [bad (wayL_r (.inr (.inr (.inr (by unfold signV; dsimp only; rw [decide_eq_false l1, Bool.false_and])))))] at q
                          exact q _ eH2
                      · rw [bad (wayL_len u4)] at q
                        rw [decide_eq_false (show ¬ ((us.length : Nat) : Int) = 4 by omega)]
                        refine iteT ?_
                        walk_at "rd"
                        exact q _ e
                  · rintro σ H' ⟨e, ⟨x0, rfl⟩, hb4⟩
                    rw [List.take_length] at hb4
                    have hall : ws.all (wayV H m) = true := List.all_eq_true.mpr hb4
                    unfold waysL at q
                    rw [decide_eq_true m3, hall, Bool.true_and, Bool.true_and] at q
                    obtain ⟨bs, ebs, hka'⟩ := ways_keys hall
                    walk_at "rd"
                    refine ⟨r, bs, ws.map (keyV H), rfl, .inl (by rw [← ebs]; exact e _ _ hr'), hka'.ext e, by rw [List.length_map]; omega, fun l L hl hnd hmem hL => ?_⟩
                    have hll : L.length ≤ ws.length := by
                      have := len_le hnd fun k hk => (hmem k).mp hk
                      rwa [List.length_map, List.length_map] at this
                    walk_at "rd"
                    refine ⟨l, L, rfl, upd_same, by omega, ?_⟩
                    walk_at "rd"
                    have eL : Ext H (upd H' l (setK P w l L)) := e.trans (ext_upd hl)
                    refine rd_lenT (SqT.of (eL _ _ hr')) ?_
                    walk_at "rd"
                    have hiff := nodup_iff hnd hmem
                    rw [List.length_map, List.length_map] at hiff
                    have eb : decide ((((L.length : Nat) : Int)) = ((ws.length : Nat) : Int)) = decide ((ws.map (keyV H)).Nodup) := by
                      apply decide_eq_decide.mpr
                      rw [← hiff]
                      omega
                    rw [eb]
                    exact q _ eL
                · rw [decide_eq_true (show ((100 : Int) < ((ws.length : Nat) : Int)) by omega)]
                  unfold waysL at q
                  rw [decide_eq_false m3, Bool.false_and] at q
                  refine iteT ?_
                  walk_at "rd"
                  exact q H fun _ _ z => z
              · rw [decide_eq_true (show 12 < m by omega)]
                rw [decide_eq_false m2, Bool.false_and] at q
                refine iteT ?_
                walk_at "rd"
                exact q H fun _ _ z => z
            · rw [decide_eq_true (show m < 1 by omega)]
              rw [decide_eq_false m1, Bool.false_and] at q
              refine iteT ?_
              walk_at "rd"
              exact q H fun _ _ z => z
      · rw [houseL_len h4] at q
        rw [decide_eq_false (show ¬ ((xs.length : Nat) : Int) = 2 by omega)]
        refine iteT ?_
        walk_at "rd"
        exact q H fun _ _ z => z
end My
set_option Elab.async false
set_option linter.all false
set_option maxRecDepth 100000
namespace My
open PySem L2 St
set_option maxHeartbeats 4000000
local macro_rules | `(tactic| walk_at "cond") => `(tactic| first | decide | omega | (dsimp only; omega) | (unfold CMul; omega) | (unfold CPow; exact ⟨by decide, by decide, by decide⟩) | (dsimp only; exact ⟨by omega, by omega⟩) | exact .inr ⟨by decide, by decide⟩ | exact .inl ⟨by decide, by decide⟩ | (unfold SmallR; omega))
local macro_rules | `(tactic| walk_at "sq") => `(tactic| first | assumption | exact SqL.of (by assumption) | exact SqT.of (by assumption) | exact SqL.of (by solve_by_elim) | exact SqT.of (by solve_by_elim) | solve_by_elim)
local macro_rules | `(tactic| walk_at "rd") => do
  let ts ← ("seq ret retN asg drop ifS next name var c op un CB cons nil ints test B exb not and or andV orV notV ifE yes I0 I U EqI NeI EqB NeB call BM tup lst sl noPart part exi chain comp iL iT i1 i2 i3 for tTru intB max2 min2 sub gcons gnil aug ipI zip rev par par2 lam calV raise fs try bseq bnext bplain bif bcall enum gget gin revL leS disp dget lrev disp1 din dnin dput min3 iS iD bm0 revS".splitOn " ").toArray.mapM fun n =>
    let i := Lean.mkIdent (.mkSimple ("rd_" ++ n))
    if n == "var" || n == "aug" then `(tacticSeq| ((with_reducible apply $i); (exact rfl)))
    else if n == "I" then `(tacticSeq| ((with_reducible apply $i); (walk_at "cond")))
    else `(tacticSeq| with_reducible refine $i ?_)
  `(tactic| repeat (first $[| $ts]* | dsimp only))
def WaysAt (H : Hp) (p : Addr) (kk : List (List Key)) : Prop := ∃ bs : List Addr, H p = some (.tup (bs.map V.ref)) ∧ bs.length = kk.length ∧ ∀ (j : Nat) (b : Addr) (k : List Key), bs[j]? = some b → kk[j]? = some k → H b = some (.tup (k.map kV))
theorem WaysAt.ext {H H' : Hp} {p : Addr} {kk : List (List Key)} (e : Ext H H') (h : WaysAt H p kk) : WaysAt H' p kk := by
  obtain ⟨bs, h1, h2, h3⟩ := h
  exact ⟨bs, e _ _ h1, h2, fun j b k e1 e2 => e _ _ (h3 j b k e1 e2)⟩
structure Way where
  room : Int
  deed : Str
  other : Int
  sign : Str
  deriving DecidableEq
abbrev Way.key (w : Way) : List Key := [.inl w.room, .inr w.deed, .inl w.other, .inr w.sign]
abbrev Way.vs (w : Way) : List V := [.int w.room, .str w.deed, .int w.other, .str w.sign]
theorem Way.key_inj {w u : Way} (h : w.key = u.key) : w = u := by
  cases w; cases u
  simp only [Way.key, List.cons.injEq, Sum.inl.injEq, Sum.inr.injEq] at h
  obtain ⟨rfl, rfl, rfl, rfl, _⟩ := h
  rfl
def okSign (z : Str) : Prop := ∃ c : Nat, 97 ≤ c ∧ c ≤ 122 ∧ z = ⟨#[c]⟩
def okDeed (z : Str) : Prop := z = "up" ∨ z = "down" ∨ z = "stay" ∨ z = "zero"
structure Way.Ok (m : Int) (w : Way) : Prop where
  r0 : 0 ≤ w.room
  r1 : w.room < m
  o0 : 0 ≤ w.other
  o1 : w.other < m
  dd : okDeed w.deed
  sg : okSign w.sign
structure HOuse (m : Int) (ws : List Way) : Prop where
  m1 : 1 ≤ m
  m12 : m ≤ 12
  few : ws.length ≤ 100
  ok : ∀ w ∈ ws, w.Ok m
  nd : ws.Nodup
def HouseAt (H : Hp) (v : V) (m : Int) (ws : List Way) : Prop := ∃ p q, v = .ref p ∧ H p = some (.tup [.int m, .ref q]) ∧ WaysAt H q (ws.map Way.key)
theorem HouseAt.ext {H H' : Hp} {v : V} {m : Int} {ws : List Way} (e : Ext H H') (h : HouseAt H v m ws) : HouseAt H' v m ws := by
  obtain ⟨p, q, rfl, h1, h2⟩ := h
  exact ⟨p, q, rfl, e _ _ h1, h2.ext e⟩
theorem WaysAt.item {H : Hp} {ws : List Way} {bs : List Addr} (h : ∀ (j : Nat) (b : Addr) (k : List Key), bs[j]? = some b → (ws.map Way.key)[j]? = some k → H b = some (.tup (k.map kV))) {j : Nat} {b : Addr} {w : Way} (e1 : bs[j]? = some b) (e2 : ws[j]? = some w) : H b = some (.tup w.vs) :=
  h j b w.key e1 (by rw [List.getElem?_map, e2]; rfl)
def AlW (H : Hp) (bs : List Addr) (ws : List Way) : Prop := bs.length = ws.length ∧ ∀ (j : Nat) (b : Addr) (w : Way), bs[j]? = some b → ws[j]? = some w → H b = some (.tup w.vs)
theorem AlW.ext {H H' : Hp} {bs : List Addr} {ws : List Way} (e : Ext H H') (h : AlW H bs ws) : AlW H' bs ws := ⟨h.1, fun j b w e1 e2 => e _ _ (h.2 j b w e1 e2)⟩
theorem AlW.put {H : Hp} {f : Addr} {xs ys : List V} {bs : List Addr} {ws : List Way} (hf : H f = some (.lst xs)) (h : AlW H bs ws) : AlW (upd H f (.lst ys)) bs ws := ⟨h.1, fun j b w e1 e2 => by
  have := h.2 j b w e1 e2
  rw [upd_ne (ne_of this hf (by intro z; cases z))]
  exact this⟩
theorem AlW.nil (H : Hp) : AlW H [] [] := ⟨rfl, fun j b w e => by simp at e⟩
theorem AlW.snoc {H : Hp} {bs : List Addr} {ws : List Way} {b : Addr} {w : Way} (h : AlW H bs ws) (hb : H b = some (.tup w.vs)) : AlW H (bs ++ [b]) (ws ++ [w]) := by
  refine ⟨by simp [h.1], fun j b' w' e1 e2 => ?_⟩
  rcases Nat.lt_or_ge j bs.length with hj | hj
  · rw [List.getElem?_append_left hj] at e1
    rw [List.getElem?_append_left (by rw [← h.1]; exact hj)] at e2
    exact h.2 j b' w' e1 e2
  · rw [List.getElem?_append_right hj] at e1
    rw [List.getElem?_append_right (by rw [← h.1]; exact hj), ← h.1] at e2
    cases hk : j - bs.length with
    | zero =>
      rw [hk] at e1 e2
      cases e1; cases e2
      exact hb
    | succ k => rw [hk] at e1; simp at e1
theorem AlW.ways {H : Hp} {p : Addr} {bs : List Addr} {ws : List Way} (h : AlW H bs ws) (hp : H p = some (.tup (bs.map V.ref))) : WaysAt H p (ws.map Way.key) :=
  ⟨bs, hp, by rw [List.length_map]; exact h.1, fun j b k e1 e2 => by
    rw [List.getElem?_map] at e2
    obtain ⟨w, hw, rfl⟩ := Option.map_eq_some_iff.mp e2
    exact h.2 j b w e1 hw⟩
theorem WaysAt.al {H : Hp} {p : Addr} {ws : List Way} (h : WaysAt H p (ws.map Way.key)) : ∃ bs : List Addr, H p = some (.tup (bs.map V.ref)) ∧ AlW H bs ws := by
  obtain ⟨bs, h1, h2, h3⟩ := h
  rw [List.length_map] at h2
  exact ⟨bs, h1, h2, fun j b w e1 e2 => WaysAt.item h3 e1 e2⟩
abbrev Way.D (w : Way) : PyData := .tuple [.int w.room, .str w.deed, .int w.other, .str w.sign]
structure Way.Lay (w : Way) : Prop where
  d : (PyData.str w.deed).canLay0 = true
  s : (PyData.str w.sign).canLay0 = true
theorem sign_lay : ∀ c : Fin 123, 97 ≤ c.1 → (PyData.str ⟨#[c.1]⟩).canLay0 = true := by decide +kernel
theorem Way.Ok.lay {m : Int} {w : Way} (h : w.Ok m) : w.Lay := by
  constructor
  · rcases h.dd with e | e | e | e <;> rw [e] <;> decide +kernel
  · obtain ⟨c, h1, h2, e⟩ := h.sg
    rw [e]
    exact sign_lay ⟨c, Nat.lt_succ_of_le h2⟩ h1
theorem Way.rep {H : Hp} {b : Addr} {w : Way} (h : H b = some (.tup w.vs)) (l : w.Lay) : RepD H 1 (.ref b) w.D :=
  .inr ⟨b, w.vs, _, rfl, .inl ⟨h, rfl⟩, .cons rfl (.cons ⟨rfl, l.d⟩ (.cons rfl (.cons ⟨rfl, l.s⟩ .nil)))⟩
theorem Way.eqv (w u : Way) : PyData.eqv w.D u.D = decide (w = u) := by
  simp only [PyData.eqv, PyData.eqvAll]
  by_cases h : w = u
  · subst h; simp
  · rw [decide_eq_false h]
    obtain ⟨a, b, c, d⟩ := w
    obtain ⟨a', b', c', d'⟩ := u
    simp only [Way.mk.injEq, not_and] at h
    simp only [Bool.and_true, Bool.and_eq_false_iff, beq_eq_false_iff_ne]
    by_cases h1 : a = a'
    · by_cases h2 : b = b'
      · by_cases h3 : c = c'
        · exact .inr (.inr (.inr (h h1 h2 h3)))
        · exact .inr (.inr (.inl h3))
      · exact .inr (.inl h2)
    · exact .inl h1
theorem AlW.reps {H : Hp} : ∀ {bs : List Addr} {ws : List Way}, AlW H bs ws → (∀ w ∈ ws, w.Lay) → Paired (RepD H 1) (bs.map V.ref) (ws.map Way.D)
  | [], [], _, _ => .nil
  | [], _ :: _, h, _ => by cases h.1
  | _ :: _, [], h, _ => by cases h.1
  | b :: bs, w :: ws, h, l => .cons (Way.rep (h.2 0 b w rfl rfl) (l w List.mem_cons_self)) (AlW.reps ⟨Nat.succ.inj h.1, fun j b w e1 e2 => h.2 (j + 1) b w e1 e2⟩ fun u hu => l u (List.mem_cons_of_mem _ hu))
theorem any_mem (ws : List Way) (w : Way) : ((ws.map Way.D).any fun e => PyData.eqv e w.D) = decide (w ∈ ws) := by
  rw [List.any_map]
  induction ws with
  | nil => rfl
  | cons u ws ih =>
    rw [List.any_cons, ih, Function.comp_apply, Way.eqv]
    by_cases h : w ∈ ws
    · simp [h]
    · by_cases e : u = w
      · simp [e]
      · have : ¬ w = u := fun z => e z.symm
        simp [h, e, this]
def sp__law_unlike (K : PySem.W.Frag) : Sp := fun vs H Q _ => ∃ l bs ws, vs = [.ref l] ∧ H l = some (.lst (bs.map V.ref)) ∧ AlW H bs ws ∧ (∀ w ∈ ws, Way.Lay w) ∧ ws.length ≤ 200 ∧
  ∀ q H' us, Ext H H' → WaysAt H' q (List.map Way.key us) → us.Nodup → (∀ u ∈ us, u ∈ ws) → us.length ≤ ws.length → Q (.ref q) H'
abbrev s__law_unlike : Stmt := top 17
theorem sc__law_unlike : FnScope ["_law_ways", "_law_found", "_law_way"] ["_law_ways"] (defScope s__law_unlike) := ⟨rfl, rfl, rfl, by decide +kernel, rfl, by decide +kernel, by decide +kernel⟩
theorem ok__law_unlike {P : Program} {w : World} {K : PySem.W.Frag} {mg : Str → Option Value} {base : Heap} (D : Dfn K mg "_law_unlike" s__law_unlike ["_law_ways"]) (T : Blt mg) : Cal P w K mg base "_law_unlike" 1 ["_law_ways"] (sp__law_unlike K) := by
  have nd := (sc__law_unlike).nd
  refine D.ok sc__law_unlike (fun vs H Q E h => ?_) (fun X hX H vs Q E h => ?_)
  · obtain ⟨l, bs, ws, rfl, _⟩ := h; rfl
  · obtain ⟨f, cdv, A, outer, s, H0, E0, rfl, hr⟩ := hX
    obtain ⟨l, bs, ws, rfl, hl, al, lay, hlen, q⟩ := h
    refine ⟨_, (no_implicit_lambda% (pss_cons (no_implicit_lambda% (ps_set (i := 1) nd rfl (Or.inl rfl) (no_implicit_lambda% (pe_lst pa_nil))))
        (no_implicit_lambda% (pss_cons (no_implicit_lambda% (ps_for PassesOwn.never rfl (no_implicit_lambda% (pi_listK K (no_implicit_lambda% (pv 0)))) (no_implicit_lambda% (pg_name (i := 2) nd rfl (Or.inl rfl))) (no_implicit_lambda% (pss_one (no_implicit_lambda% (ps_ifJ (no_implicit_lambda% (pt_cmpR (op_notInD hr) (no_implicit_lambda% (pv 2)) (no_implicit_lambda% (pv 1)) (by with_unfolding_all rfl))) (no_implicit_lambda% (pss_one (no_implicit_lambda% (ps_expr (no_implicit_lambda% (pe_bmK K PySem.F.plainAttrs_list PySem.F.slot_list_append PySem.F.type_list_append mt_append (no_implicit_lambda% (pv 1)) (no_implicit_lambda% (pa_cons (no_implicit_lambda% (pv 2)) pa_nil)))))))) pss_nil))))))
        (no_implicit_lambda% (pss_one (no_implicit_lambda% (ps_ret (no_implicit_lambda% (pe_callTy (call_tupK K) rfl T.tuple_ PyProof.Rows.boot_tuple (no_implicit_lambda% (pa_cons (no_implicit_lambda% (pv 1)) pa_nil)))))))))))), ?_⟩
    walk_at "rd"
    refine ⟨small_line (by simp), rd_new fun f H1 e1 hf hfn => ?_⟩
    walk_at "rd"
    refine rd_iLx (SqL.of (e1 _ _ hl)) ?_
    refine forL (xs := bs.map V.ref) (fun i σ H2 => Ext H H2 ∧ ∃ (k : Option V) (cs : List Addr) (us : List Way), σ = [some (.ref l), some (.ref f), k] ∧ H2 f = some (.lst (cs.map V.ref)) ∧ AlW H2 cs us ∧ us.Nodup ∧ (∀ u ∈ us, u ∈ ws) ∧ us.length ≤ i)
      ⟨e1, none, [], [], rfl, hf, AlW.nil _, List.nodup_nil, fun u hu => by simp at hu, Nat.le_refl _⟩ (fun i σ H2 _ h => SqL.of (h.1 _ _ hl)) ?_ ?_
    · rintro i x σ H2 hx ⟨e2, k, cs, us, rfl, hf2, al2, nd2, sub2, len2⟩
      rw [List.getElem?_map] at hx
      obtain ⟨b, hb, rfl⟩ := Option.map_eq_some_iff.mp hx
      have hi : i < ws.length := by
        rw [← al.1]
        exact (List.getElem?_eq_some_iff.mp hb).1
      have hwi : ws[i]? = some ws[i] := List.getElem?_eq_getElem hi
      have hbw := e2 _ _ (al.2 i b _ hb hwi)
      walk_at "rd"
      refine rd_ifN ?_
      walk_at "rd"
      refine rd_inD (Way.rep hbw (lay _ (List.getElem_mem hi))) hf2 (al2.reps fun u hu => lay u (sub2 u hu)) (by decide) ?_
      simp only [if_true, any_mem]
      refine rd_exb ?_
      by_cases hm : ws[i] ∈ us
      · rw [decide_eq_true hm]
        refine iteF ?_
        walk_at "rd"
        exact ⟨e2, _, cs, us, rfl, hf2, al2, nd2, sub2, by omega⟩
      · rw [decide_eq_false hm]
        refine iteT ?_
        walk_at "rd"
        refine ⟨rd_tyL (SqL.of hf2), ?_⟩
        walk_at "rd"
        refine rd_append hf2 (by rw [List.length_map, al2.1]; exact Nat.lt_of_le_of_lt (show us.length ≤ 1000 by omega) (by decide)) ?_
        walk_at "rd"
        refine ⟨ext_write e2 hfn, _, cs ++ [b], us ++ [ws[i]], rfl, by rw [upd_same, List.map_append]; rfl, (al2.put hf2).snoc ?_, ?_, ?_, by simp; omega⟩
        · rw [upd_ne (ne_of hbw hf2 (by intro z; cases z))]
          exact hbw
        · rw [List.nodup_append]
          exact ⟨nd2, by simp, fun a ha c hc => by rw [List.mem_singleton.mp hc]; exact fun z => hm (z ▸ ha)⟩
        · intro u hu
          rcases List.mem_append.mp hu with hu | hu
          · exact sub2 u hu
          · rw [List.mem_singleton.mp hu]; exact List.getElem_mem hi
    · rintro σ H2 ⟨e2, k, cs, us, rfl, hf2, al2, nd2, sub2, len2⟩
      walk_at "rd"
      refine rd_tupL (SqL.of hf2) (rd_new fun p H3 e3 hp _ => ?_)
      exact q p H3 us (e2.trans e3) ((al2.ext e3).ways hp) nd2 sub2 (by rw [List.length_map, al.1] at len2; exact len2)
end My
set_option Elab.async false
set_option linter.all false
set_option maxRecDepth 100000
namespace My
open PySem L2 St
set_option maxHeartbeats 4000000
local macro_rules | `(tactic| walk_at "cond") => `(tactic| first | decide | omega | (dsimp only; omega) | (unfold CMul; omega) | (unfold CPow; exact ⟨by decide, by decide, by decide⟩) | (dsimp only; exact ⟨by omega, by omega⟩) | exact .inr ⟨by decide, by decide⟩ | exact .inl ⟨by decide, by decide⟩ | (unfold SmallR; omega))
local macro_rules | `(tactic| walk_at "sq") => `(tactic| first | assumption | exact SqL.of (by assumption) | exact SqT.of (by assumption) | exact SqL.of (by solve_by_elim) | exact SqT.of (by solve_by_elim) | solve_by_elim)
local macro_rules | `(tactic| walk_at "rd") => do
  let ts ← ("seq ret retN asg drop ifS next name var c op un CB cons nil ints test B exb not and or andV orV notV ifE yes I0 I U EqI NeI EqB NeB call BM tup lst sl noPart part exi chain comp iL iT i1 i2 i3 for tTru intB max2 min2 sub gcons gnil aug ipI zip rev par par2 lam calV raise fs try bseq bnext bplain bif bcall enum gget gin revL leS disp dget lrev disp1 din dnin dput min3 iS iD bm0 revS".splitOn " ").toArray.mapM fun n =>
    let i := Lean.mkIdent (.mkSimple ("rd_" ++ n))
    if n == "var" || n == "aug" then `(tacticSeq| ((with_reducible apply $i); (exact rfl)))
    else if n == "I" then `(tacticSeq| ((with_reducible apply $i); (walk_at "cond")))
    else `(tacticSeq| with_reducible refine $i ?_)
  `(tactic| repeat (first $[| $ts]* | dsimp only))
theorem cut4 {ds : List Int} {i : Nat} (h : i + 4 ≤ ds.length) : ∃ a b c d, cutV (ds.map V.int) (some (i : Int)) (some ((i + 4 : Nat) : Int)) = [.int a, .int b, .int c, .int d] ∧ ds[i]? = some a ∧ ds[i + 1]? = some b ∧ ds[i + 2]? = some c ∧ ds[i + 3]? = some d := by
  refine ⟨ds[i], ds[i + 1], ds[i + 2], ds[i + 3], ?_, List.getElem?_eq_getElem _, List.getElem?_eq_getElem _, List.getElem?_eq_getElem _, List.getElem?_eq_getElem _⟩
  unfold cutV
  rw [HT.sIx_nat, HT.sIx_nat, List.length_map, Nat.min_eq_left (by omega), Nat.min_eq_left (by omega), show i + 4 - i = 4 by omega, ← List.map_drop, ← List.map_take]
  rw [List.drop_eq_getElem_cons (show i < ds.length by omega), List.drop_eq_getElem_cons (show i + 1 < ds.length by omega), List.drop_eq_getElem_cons (show i + 1 + 1 < ds.length by omega), List.drop_eq_getElem_cons (show i + 1 + 1 + 1 < ds.length by omega)]
  rfl
def drawW : List Int := [8, 12, 13, 31] ++ (List.replicate 30 ([12, 6, 12, 3] : List Int)).flatten
theorem drawW_at {k : Nat} (h : k < 30) : drawW[4 + 4 * k]? = some 12 ∧ drawW[4 + 4 * k + 1]? = some 6 ∧ drawW[4 + 4 * k + 2]? = some 12 ∧ drawW[4 + 4 * k + 3]? = some 3 := by
  have : ∀ k : Fin 30, drawW[4 + 4 * k.val]? = some 12 ∧ drawW[4 + 4 * k.val + 1]? = some 6 ∧ drawW[4 + 4 * k.val + 2]? = some 12 ∧ drawW[4 + 4 * k.val + 3]? = some 3 := by decide +kernel
  exact this ⟨k, h⟩
def sp__law_drawn_house (K : PySem.W.Frag) : Sp := fun vs H Q _ => ∃ c p, vs = [.int c, .int p] ∧ 0 < p ∧ ∀ v m ws H', Ext H H' → HouseAt H' v m ws → HOuse m ws → Q v H'
theorem pick_deed {e : Int} (h0 : 0 ≤ e) (h1 : e < 6) : ∃ z, atI ([.str "up", .str "down", .str "stay", .str "zero", .str "up", .str "down"] : List V) e = some (.str z) ∧ okDeed z := by
  have : e = 0 ∨ e = 1 ∨ e = 2 ∨ e = 3 ∨ e = 4 ∨ e = 5 := by omega
  rcases this with rfl | rfl | rfl | rfl | rfl | rfl
  · exact ⟨_, rfl, .inl rfl⟩
  · exact ⟨_, rfl, .inr (.inl rfl)⟩
  · exact ⟨_, rfl, .inr (.inr (.inl rfl))⟩
  · exact ⟨_, rfl, .inr (.inr (.inr rfl))⟩
  · exact ⟨_, rfl, .inl rfl⟩
  · exact ⟨_, rfl, .inr (.inl rfl)⟩
theorem abc_list : (Str.ofString "abc").cps.toList = [97, 98, 99] := by decide +kernel
theorem pick_abc {e : Int} (h0 : 0 ≤ e) (h1 : e < 3) : ∃ c, atI (Str.ofString "abc").cps.toList e = some c ∧ 97 ≤ c ∧ c ≤ 122 := by
  rw [abc_list]
  have : e = 0 ∨ e = 1 ∨ e = 2 := by omega
  rcases this with rfl | rfl | rfl
  · exact ⟨97, rfl, by decide, by decide⟩
  · exact ⟨98, rfl, by decide, by decide⟩
  · exact ⟨99, rfl, by decide, by decide⟩
theorem pick_many {e : Int} (h0 : 0 ≤ e) (h1 : e < 8) : ∃ w : Int, atI (([4, 4, 4, 5, 3, 2, 5, 12] : List Int).map V.int) e = some (.int w) ∧ 1 ≤ w ∧ w ≤ 12 := by
  have : e = 0 ∨ e = 1 ∨ e = 2 ∨ e = 3 ∨ e = 4 ∨ e = 5 ∨ e = 6 ∨ e = 7 := by omega
  rcases this with rfl | rfl | rfl | rfl | rfl | rfl | rfl | rfl <;> exact ⟨_, rfl, by decide, by decide⟩
theorem HouseAt.mk {H : Hp} {p q : Addr} {m : Int} {ws : List Way} (h1 : H p = some (.tup [.int m, .ref q])) (h2 : WaysAt H q (ws.map Way.key)) : HouseAt H (.ref p) m ws := ⟨p, q, rfl, h1, h2⟩
abbrev s__law_drawn_house : Stmt := top 18
theorem sc__law_drawn_house : FnScope ["_law_cell_here", "_law_prime", "_law_draws_here", "_law_many", "_law_often", "_law_ways", "_law_k", "_law_room", "_law_deed", "_law_other", "_law_sign", "_law_word"] ["_law_cell_here", "_law_prime"] (defScope s__law_drawn_house) := ⟨rfl, rfl, rfl, by decide +kernel, rfl, by decide +kernel, by decide +kernel⟩
theorem ok__law_drawn_house {P : Program} {w : World} {K : PySem.W.Frag} {mg : Str → Option Value} {base : Heap} (D : Dfn K mg "_law_drawn_house" s__law_drawn_house ["_law_cell_here", "_law_prime"]) (T : Blt mg) (C__law_unlike : Cal P w K mg base "_law_unlike" 1 ["_law_ways"] (sp__law_unlike K)) (C__law_draws : Cal P w K mg base "_law_draws" 2 ["_law_cell_here", "_law_widths", "_law_prime"] (sp__law_draws K)) : Cal P w K mg base "_law_drawn_house" 3 ["_law_cell_here", "_law_prime"] (sp__law_drawn_house K) := by
  have nd := (sc__law_drawn_house).nd
  refine D.ok sc__law_drawn_house (fun vs H Q E h => ?_) (fun X hX H vs Q E h => ?_)
  · obtain ⟨c, p, rfl, _⟩ := h; rfl
  · obtain ⟨f, cdv, A, outer, s, H0, E0, rfl, hr⟩ := hX
    obtain ⟨c, p, rfl, hp, q⟩ := h
    refine ⟨_, (no_implicit_lambda% (pss_cons (no_implicit_lambda% (ps_set (i := 2) nd rfl (Or.inl rfl) (no_implicit_lambda% (pe_cal C__law_draws hr (no_implicit_lambda% (pa_cons (no_implicit_lambda% (pv 0)) (no_implicit_lambda% (pa_cons (no_implicit_lambda% (pe_op op_cat (no_implicit_lambda% (pe_lst (no_implicit_lambda% (pa_ints (.c (.c (.c (.c .n)))))))) (no_implicit_lambda% (pe_op op_rep (no_implicit_lambda% (pe_lst (no_implicit_lambda% (pa_ints (.c (.c (.c (.c .n)))))))) pe_int)))) (no_implicit_lambda% (pa_cons (no_implicit_lambda% (pv 1)) pa_nil))))))))))
        (no_implicit_lambda% (pss_cons (no_implicit_lambda% (ps_set (i := 3) nd rfl (Or.inl rfl) (no_implicit_lambda% (pe_op op_add pe_int (no_implicit_lambda% (pe_op op_mod (no_implicit_lambda% (pe_ix (ix_listK K) (no_implicit_lambda% (pv 2)) pe_int (fun _ _ => rfl))) (no_implicit_lambda% (pe_ix (ix_listK K) (no_implicit_lambda% (pe_lst (no_implicit_lambda% (pa_ints (.c (.c (.c (.c (.c (.c (.c (.c .n)))))))))))) (no_implicit_lambda% (pe_ix (ix_listK K) (no_implicit_lambda% (pv 2)) pe_int (fun _ _ => rfl))) (fun _ _ => rfl)))))))))
        (no_implicit_lambda% (pss_cons (no_implicit_lambda% (ps_set (i := 4) nd rfl (Or.inl rfl) (no_implicit_lambda% (pe_ix (ix_listK K) (no_implicit_lambda% (pv 2)) pe_int (fun _ _ => rfl)))))
        (no_implicit_lambda% (pss_cons (no_implicit_lambda% (ps_ifJ (no_implicit_lambda% (pt_cmpR op_eq (no_implicit_lambda% (pe_ix (ix_listK K) (no_implicit_lambda% (pv 2)) pe_int (fun _ _ => rfl))) pe_int (nomark _))) (no_implicit_lambda% (pss_one (no_implicit_lambda% (ps_set (i := 4) nd rfl (Or.inl rfl) (no_implicit_lambda% (pe_ix (ix_listK K) (no_implicit_lambda% (pv 2)) pe_int (fun _ _ => rfl))))))) pss_nil))
        (no_implicit_lambda% (pss_cons (no_implicit_lambda% (ps_set (i := 5) nd rfl (Or.inl rfl) (no_implicit_lambda% (pe_lst pa_nil))))
        (no_implicit_lambda% (pss_cons (no_implicit_lambda% (ps_for PassesOwn.never rfl (no_implicit_lambda% (pi_range1 rfl T.range_ (no_implicit_lambda% (pa_cons (no_implicit_lambda% (pv 4)) pa_nil)))) (no_implicit_lambda% (pg_name (i := 6) nd rfl (Or.inl rfl))) (no_implicit_lambda% (pss_cons (no_implicit_lambda% (ps_asg (no_implicit_lambda% (pe_slice (sl_listK K) (no_implicit_lambda% (pv 2)) (po_some (no_implicit_lambda% (pe_op op_add pe_int (no_implicit_lambda% (pe_op op_mul pe_int (no_implicit_lambda% (pv 6))))))) (po_some (no_implicit_lambda% (pe_op op_add pe_int (no_implicit_lambda% (pe_op op_mul pe_int (no_implicit_lambda% (pv 6))))))))) (no_implicit_lambda% (pg_lstK (n := 4) K rfl (pgs_cons (no_implicit_lambda% (pg_name (i := 7) nd rfl (Or.inl rfl))) (pgs_cons (no_implicit_lambda% (pg_name (i := 8) nd rfl (Or.inl rfl))) (pgs_cons (no_implicit_lambda% (pg_name (i := 9) nd rfl (Or.inl rfl))) (pgs_cons (no_implicit_lambda% (pg_name (i := 10) nd rfl (Or.inl rfl))) pgs_nil))))))))
        (no_implicit_lambda% (pss_cons (no_implicit_lambda% (ps_set (i := 11) nd rfl (Or.inl rfl) (no_implicit_lambda% (pe_ix (ix_listK K) (no_implicit_lambda% (pe_lst (no_implicit_lambda% (pa_cons pe_str (no_implicit_lambda% (pa_cons pe_str (no_implicit_lambda% (pa_cons pe_str (no_implicit_lambda% (pa_cons pe_str (no_implicit_lambda% (pa_cons pe_str (no_implicit_lambda% (pa_cons pe_str pa_nil)))))))))))))) (no_implicit_lambda% (pv 8)) (fun _ _ => rfl)))))
        (no_implicit_lambda% (pss_one (no_implicit_lambda% (ps_expr (no_implicit_lambda% (pe_bmK K PySem.F.plainAttrs_list PySem.F.slot_list_append PySem.F.type_list_append mt_append (no_implicit_lambda% (pv 5)) (no_implicit_lambda% (pa_cons (no_implicit_lambda% (pe_tup (no_implicit_lambda% (pa_cons (no_implicit_lambda% (pe_op op_mod (no_implicit_lambda% (pv 7)) (no_implicit_lambda% (pv 3)))) (no_implicit_lambda% (pa_cons (no_implicit_lambda% (pv 11)) (no_implicit_lambda% (pa_cons (no_implicit_lambda% (pe_op op_mod (no_implicit_lambda% (pv 9)) (no_implicit_lambda% (pv 3)))) (no_implicit_lambda% (pa_cons (no_implicit_lambda% (pe_ix ix_str pe_str (no_implicit_lambda% (pv 10)) (fun _ _ => rfl))) pa_nil)))))))))) pa_nil))))))))))))))
        (no_implicit_lambda% (pss_one (no_implicit_lambda% (ps_ret (no_implicit_lambda% (pe_tup (no_implicit_lambda% (pa_cons (no_implicit_lambda% (pv 3)) (no_implicit_lambda% (pa_cons (no_implicit_lambda% (pe_cal C__law_unlike hr (no_implicit_lambda% (pa_cons (no_implicit_lambda% (pv 5)) pa_nil)))) pa_nil)))))))))))))))))))))), ?_⟩
    walk_at "rd"
    refine ⟨small_line (by simp), rd_new fun w0 G1 f1 hw0 _ => ?_⟩
    walk_at "rd"
    refine ⟨small_line (by simp), rd_new fun w1 G2 f2 hw1 _ => ?_⟩
    walk_at "rd"
    refine rd_rep hw1 (by omega) (small_line (by decide)) (rd_new fun w2 G3 f3 hw2 _ => ?_)
    walk_at "rd"
    refine rd_cat (f3 _ _ (f2 _ _ hw0)) hw2 (small_line (by decide)) (rd_new fun w3 G4 f4 hw3 _ => ?_)
    walk_at "rd"
    refine ⟨c, w3, drawW, p, rfl, hw3, by decide +kernel, by decide +kernel, hp, fun dq ds H1 e1 hd hdn hl hb => ?_⟩
    have eH : Ext H H1 := f1.trans (f2.trans (f3.trans (f4.trans e1)))
    have hl' : ds.length = 124 := hl
    have at_ : ∀ (i : Nat) (x : Int), drawW[i]? = some x → ∃ d, ds[i]? = some d ∧ 0 ≤ d ∧ d < x := fun i x hx => by
      have hi : i < ds.length := by
        rw [hl]
        exact (List.getElem?_eq_some_iff.mp hx).1
      exact ⟨ds[i], List.getElem?_eq_getElem hi, hb i _ x (List.getElem?_eq_getElem hi) hx⟩
    obtain ⟨d0, g0, b00, b01⟩ := at_ 0 8 rfl
    obtain ⟨d1, g1, b10, b11⟩ := at_ 1 12 rfl
    obtain ⟨d2, g2, b20, b21⟩ := at_ 2 13 rfl
    obtain ⟨d3, g3, b30, b31⟩ := at_ 3 31 rfl
    have pick : ∀ {i : Nat} {d : Int}, ds[i]? = some d → atI (ds.map V.int) (i : Int) = some (.int d) := fun {i d} h => atI_nat (by rw [List.getElem?_map, h]; rfl)
    walk_at "rd"
    refine rd_ixL (SqL.of hd) (pick (i := 1) g1) ?_
    walk_at "rd"
    refine ⟨small_line (by simp), rd_new fun mq H2 e2 hmq _ => ?_⟩
    walk_at "rd"
    refine rd_ixL (SqL.of (e2 _ _ hd)) (pick (i := 0) g0) ?_
    obtain ⟨w, hw, hw1', hw2'⟩ := pick_many b00 b01
    refine rd_ixL (SqL.of hmq) hw ?_
    try refine rd_I (show (0 : Int) < w by omega) ?_
    walk_at "rd"
    have r0 : 0 ≤ d1 % w := Int.emod_nonneg _ (by omega)
    have r1 : d1 % w < w := Int.emod_lt_of_pos _ (by omega)
    obtain ⟨m, hm, m1, m2⟩ : ∃ m, 1 + d1 % w = m ∧ 1 ≤ m ∧ m ≤ 12 := ⟨_, rfl, by omega, by omega⟩
    rw [hm]
    refine rd_ixL (SqL.of (e2 _ _ hd)) (pick (i := 2) g2) ?_
    walk_at "rd"
    have eH2 : Ext H H2 := eH.trans e2
    have hd2 := e2 _ _ hd
    refine rd_ifJ (fun σ' H' => H' = H2 ∧ ∃ o : Nat, o ≤ 30 ∧ σ' = [some (.int c), some (.int p), some (.ref dq), some (.int m), some (.int o), none, none, none, none, none, none, none]) ?_ ?_
    · walk_at "rd"
      refine rd_ixL (SqL.of hd2) (pick (i := 0) g0) ?_
      walk_at "rd"
      refine ite2 (fun h => ?_) (fun h => ?_)
      · walk_at "rd"
        refine rd_ixL (SqL.of hd2) (pick (i := 3) g3) ?_
        walk_at "rd"
        exact ⟨rfl, d3.toNat, by omega, by rw [Int.toNat_of_nonneg b30]; rfl⟩
      · walk_at "rd"
        exact ⟨rfl, d2.toNat, by omega, by rw [Int.toNat_of_nonneg b20]; rfl⟩
    rintro σ' H' ⟨rfl, o, ho, rfl⟩
    clear hw hw1' hw2' r0 r1 b00 b01 b10 b11 b20 b21 b30 b31
    walk_at "rd"
    refine ⟨small_line (by simp), rd_new fun f H3 e3 hf hfn => ?_⟩
    walk_at "rd"
    refine rd_i1x (by omega) ?_
    refine forR (fun i σ H4 => Ext H' H4 ∧ ∃ (k1 k2 k3 k4 k5 k6 : Option V) (cs : List Addr) (us : List Way), σ = [some (.int c), some (.int p), some (.ref dq), some (.int m), some (.int o), some (.ref f), k1, k2, k3, k4, k5, k6] ∧ H4 f = some (.lst (cs.map V.ref)) ∧ AlW H4 cs us ∧ (∀ u ∈ us, u.Ok m) ∧ us.length = i)
      ⟨e3, none, none, none, none, none, none, [], [], rfl, hf, AlW.nil _, fun u hu => by simp at hu, rfl⟩ ?_ ?_
    · rintro i σ H4 hi ⟨e4, k1, k2, k3, k4, k5, k6, cs, us, rfl, hf4, al, ok, len⟩
      rw [Int.toNat_natCast] at hi
      have hi30 : i < 30 := by omega
      obtain ⟨a, b, c', d, hcut, ga, gb, gc, gd⟩ := cut4 (ds := ds) (i := 4 + 4 * i) (by omega)
      obtain ⟨y0, y1, y2, y3⟩ := drawW_at hi30
      have ba := hb _ _ _ ga y0
      have bb := hb _ _ _ gb y1
      have bc := hb _ _ _ gc y2
      have bd := hb _ _ _ gd y3
      have hd4 := e4 _ _ hd2
      walk_at "rd"
      refine rd_slL (SqL.of hd4) (rd_new fun t H5 e5 ht htn => ?_)
      rw [show (4 : Int) + 4 * (0 + (i : Int)) = ((4 + 4 * i : Nat) : Int) by omega, show (8 : Int) + 4 * (0 + (i : Int)) = ((4 + 4 * i + 4 : Nat) : Int) by omega, hcut] at ht
      walk_at "rd"
      refine rd_glst (SqL.of ht) rfl ?_
      walk_at "rd"
      refine ⟨small_line (by simp), rd_new fun u1 H6 e6 hu1 _ => ?_⟩
      walk_at "rd"
      obtain ⟨z, hz, okz⟩ := pick_deed bb.1 bb.2
      refine rd_ixL (SqL.of hu1) hz ?_
      walk_at "rd"
      have hf6 := e6 _ _ (e5 _ _ hf4)
      refine ⟨rd_tyL (SqL.of hf6), ?_⟩
      walk_at "rd"
      try refine rd_I (show (0 : Int) < m by omega) ?_
      walk_at "rd"
      try refine rd_I (show (0 : Int) < m by omega) ?_
      walk_at "rd"
      obtain ⟨s, hs, s1, s2⟩ := pick_abc bd.1 bd.2
      refine ⟨_, _, s, rfl, rfl, small9 (by decide +kernel), hs, ?_⟩
      walk_at "rd"
      refine ⟨small_line (by simp), rd_new fun v H7 e7 hv _ => ?_⟩
      have hf7 := e7 _ _ hf6
      walk_at "rd"
      refine rd_append hf7 (by rw [List.length_map, al.1, len]; exact Nat.lt_of_le_of_lt (show i ≤ 1000 by omega) (by decide)) ?_
      walk_at "rd"
      have al7 : AlW H7 cs us := ((al.ext e5).ext e6).ext e7
      have hv7 : H7 v = some (.tup (Way.vs ⟨a % m, z, c' % m, ⟨#[s]⟩⟩)) := hv
      refine ⟨ext_write (e4.trans (e5.trans (e6.trans e7))) hfn, _, _, _, _, _, _, cs ++ [v], us ++ [⟨a % m, z, c' % m, ⟨#[s]⟩⟩], rfl, by rw [upd_same, List.map_append]; rfl, (al7.put hf7).snoc ?_, ?_, by simp [len]⟩
      · rw [upd_ne (ne_of hv7 hf7 (by intro z; cases z))]
        exact hv7
      · intro u hu
        rcases List.mem_append.mp hu with hu | hu
        · exact ok u hu
        · rw [List.mem_singleton.mp hu]
          exact ⟨Int.emod_nonneg _ (by omega), Int.emod_lt_of_pos _ (by omega), Int.emod_nonneg _ (by omega), Int.emod_lt_of_pos _ (by omega), okz, s, s1, s2, rfl⟩
    · rintro σ H4 ⟨e4, k1, k2, k3, k4, k5, k6, cs, us, rfl, hf4, al, ok, len⟩
      rw [Int.toNat_natCast] at len
      walk_at "rd"
      refine ⟨f, cs, us, rfl, hf4, al, fun u hu => (ok u hu).lay, by omega, fun r H5 ws e5 hws nd sub ln => ?_⟩
      walk_at "rd"
      refine ⟨small_line (by simp), rd_new fun t H6 e6 ht _ => ?_⟩
      exact q _ m ws H6 (eH2.trans (e4.trans (e5.trans e6))) (HouseAt.mk ht (hws.ext e6)) ⟨m1, m2, by omega, fun u hu => ok u (sub u hu), nd⟩
end My
set_option Elab.async false
set_option linter.all false
set_option maxRecDepth 100000
namespace My
open PySem L2 St
set_option maxHeartbeats 4000000
local macro_rules | `(tactic| walk_at "cond") => `(tactic| first | decide | omega | (dsimp only; omega) | (unfold CMul; omega) | (unfold CPow; exact ⟨by decide, by decide, by decide⟩) | (dsimp only; exact ⟨by omega, by omega⟩) | exact .inr ⟨by decide, by decide⟩ | exact .inl ⟨by decide, by decide⟩ | (unfold SmallR; omega))
local macro_rules | `(tactic| walk_at "sq") => `(tactic| first | assumption | exact SqL.of (by assumption) | exact SqT.of (by assumption) | exact SqL.of (by solve_by_elim) | exact SqT.of (by solve_by_elim) | solve_by_elim)
local macro_rules | `(tactic| walk_at "rd") => do
  let ts ← ("seq ret retN asg drop ifS next name var c op un CB cons nil ints test B exb not and or andV orV notV ifE yes I0 I U EqI NeI EqB NeB call BM tup lst sl noPart part exi chain comp iL iT i1 i2 i3 for tTru intB max2 min2 sub gcons gnil aug ipI zip rev par par2 lam calV raise fs try bseq bnext bplain bif bcall enum gget gin revL leS disp dget lrev disp1 din dnin dput min3 iS iD bm0 revS".splitOn " ").toArray.mapM fun n =>
    let i := Lean.mkIdent (.mkSimple ("rd_" ++ n))
    if n == "var" || n == "aug" then `(tacticSeq| ((with_reducible apply $i); (exact rfl)))
    else if n == "I" then `(tacticSeq| ((with_reducible apply $i); (walk_at "cond")))
    else `(tacticSeq| with_reducible refine $i ?_)
  `(tactic| repeat (first $[| $ts]* | dsimp only))
structure WL (H0 H : Hp) (f : Addr) (us : List Way) : Prop where
  ext : Ext H0 H
  at_ : ∃ cs : List Addr, H f = some (.lst (cs.map V.ref)) ∧ AlW H cs us
theorem WL.nil {H0 H : Hp} {f : Addr} (e : Ext H0 H) (hf : H f = some (.lst [])) : WL H0 H f [] := ⟨e, [], hf, AlW.nil _⟩
theorem WL.push {H0 H H1 : Hp} {f v : Addr} {us : List Way} {w : Way} (h : WL H0 H f us) (hfn : H0 f = none) (e : Ext H H1) (hv : H1 v = some (.tup w.vs)) :
    ∃ xs, H1 f = some (.lst xs) ∧ xs.length = us.length ∧ WL H0 (upd H1 f (.lst (xs ++ [.ref v]))) f (us ++ [w]) := by
  obtain ⟨e0, cs, hf, al⟩ := h
  have hf1 := e _ _ hf
  refine ⟨cs.map V.ref, hf1, by rw [List.length_map]; exact al.1, ext_write (e0.trans e) hfn, cs ++ [v], by rw [upd_same, List.map_append]; rfl, ((al.ext e).put hf1).snoc ?_⟩
  rw [upd_ne (ne_of hv hf1 (by intro z; cases z))]
  exact hv
theorem WL.ty {K : PySem.W.Frag} {H0 H H1 : Hp} {f : Addr} {us : List Way} (h : WL H0 H f us) (e : Ext H H1) : tyV K "list" (.ref f) H1 := by
  obtain ⟨_, cs, hf, al⟩ := h
  exact rd_tyL (SqL.of (e _ _ hf))
theorem sgA : okSign "a" := ⟨97, by decide, by decide, by decide +kernel⟩
theorem sgB : okSign "b" := ⟨98, by decide, by decide, by decide +kernel⟩
theorem sgC : okSign "c" := ⟨99, by decide, by decide, by decide +kernel⟩
theorem okU : okDeed "up" := .inl rfl
theorem okDn : okDeed "down" := .inr (.inl rfl)
theorem okS : okDeed "stay" := .inr (.inr (.inl rfl))
theorem okZ : okDeed "zero" := .inr (.inr (.inr rfl))
theorem line16 {n : Nat} (h : n ≤ 1000) : n < sizeLine := Nat.lt_of_le_of_lt h (by decide)
theorem two_at {a b : V} {e : Int} (h0 : 0 ≤ e) (h1 : e < 2) : ∃ v, atI [a, b] e = some v ∧ (v = a ∨ v = b) := by
  have : e = 0 ∨ e = 1 := by omega
  rcases this with rfl | rfl
  · exact ⟨a, rfl, .inl rfl⟩
  · exact ⟨b, rfl, .inr rfl⟩
theorem all_snoc {m : Int} {us : List Way} {w : Way} (h : ∀ u ∈ us, u.Ok m) (hw : w.Ok m) : ∀ u ∈ us ++ [w], u.Ok m := fun u hu => by
  rcases List.mem_append.mp hu with hu | hu
  · exact h u hu
  · rw [List.mem_singleton.mp hu]; exact hw
theorem ab_list : (Str.ofString "ab").cps.toList = [97, 98] := by decide +kernel
theorem pick_ab {e : Int} (h0 : 0 ≤ e) (h1 : e < 2) : ∃ c, atI (Str.ofString "ab").cps.toList e = some c ∧ 97 ≤ c ∧ c ≤ 122 := by
  rw [ab_list]
  have : e = 0 ∨ e = 1 := by omega
  rcases this with rfl | rfl
  · exact ⟨97, rfl, by decide, by decide⟩
  · exact ⟨98, rfl, by decide, by decide⟩
theorem draws_at {ws ds : List Int} (hl : ds.length = ws.length) (hb : ∀ (i : Nat) (d x : Int), ds[i]? = some d → ws[i]? = some x → 0 ≤ d ∧ d < x) (i : Nat) {x : Int} (hx : ws[i]? = some x) : ∃ d, atI (ds.map V.int) (i : Int) = some (.int d) ∧ 0 ≤ d ∧ d < x := by
  have hi : i < ds.length := by
    rw [hl]
    exact (List.getElem?_eq_some_iff.mp hx).1
  have g : ds[i]? = some ds[i] := List.getElem?_eq_getElem hi
  exact ⟨ds[i], atI_nat (by rw [List.getElem?_map, g]; rfl), hb i _ x g hx⟩
def sp__law_gate_house (K : PySem.W.Frag) : Sp := fun vs H Q _ => ∃ c p, vs = [.int c, .int p] ∧ 0 < p ∧ ∀ v m ws H', Ext H H' → HouseAt H' v m ws → HOuse m ws → Q v H'
abbrev s__law_gate_house : Stmt := top 20
theorem sc__law_gate_house : FnScope ["_law_cell_here", "_law_prime", "_law_draws_here", "_law_up", "_law_down", "_law_many", "_law_ways", "_law_k"] ["_law_cell_here", "_law_prime"] (defScope s__law_gate_house) := ⟨rfl, rfl, rfl, by decide +kernel, rfl, by decide +kernel, by decide +kernel⟩
theorem ok__law_gate_house {P : Program} {w : World} {K : PySem.W.Frag} {mg : Str → Option Value} {base : Heap} (D : Dfn K mg "_law_gate_house" s__law_gate_house ["_law_cell_here", "_law_prime"]) (T : Blt mg) (C__law_unlike : Cal P w K mg base "_law_unlike" 1 ["_law_ways"] (sp__law_unlike K)) (C__law_draws : Cal P w K mg base "_law_draws" 2 ["_law_cell_here", "_law_widths", "_law_prime"] (sp__law_draws K)) : Cal P w K mg base "_law_gate_house" 3 ["_law_cell_here", "_law_prime"] (sp__law_gate_house K) := by
  have nd := (sc__law_gate_house).nd
  refine D.ok sc__law_gate_house (fun vs H Q E h => ?_) (fun X hX H vs Q E h => ?_)
  · obtain ⟨c, p, rfl, _⟩ := h; rfl
  · obtain ⟨f, cdv, A, outer, s, H0, E0, rfl, hr⟩ := hX
    obtain ⟨c, p, rfl, hp, q⟩ := h
    refine ⟨_, (no_implicit_lambda% (pss_cons (no_implicit_lambda% (ps_set (i := 2) nd rfl (Or.inl rfl) (no_implicit_lambda% (pe_cal C__law_draws hr (no_implicit_lambda% (pa_cons (no_implicit_lambda% (pv 0)) (no_implicit_lambda% (pa_cons (no_implicit_lambda% (pe_lst (no_implicit_lambda% (pa_ints (.c (.c (.c (.c (.c (.c (.c .n))))))))))) (no_implicit_lambda% (pa_cons (no_implicit_lambda% (pv 1)) pa_nil))))))))))
        (no_implicit_lambda% (pss_cons (no_implicit_lambda% (ps_par (i := 3) (j := 4) rfl nd rfl rfl (by decide) rfl rfl (no_implicit_lambda% (pa_cons (no_implicit_lambda% (pe_op op_add pe_int (no_implicit_lambda% (pe_ix (ix_listK K) (no_implicit_lambda% (pv 2)) pe_int (fun _ _ => rfl))))) (no_implicit_lambda% (pa_cons (no_implicit_lambda% (pe_op op_add pe_int (no_implicit_lambda% (pe_ix (ix_listK K) (no_implicit_lambda% (pv 2)) pe_int (fun _ _ => rfl))))) pa_nil)))) rfl))
        (no_implicit_lambda% (pss_cons (no_implicit_lambda% (ps_set (i := 5) nd rfl (Or.inl rfl) (no_implicit_lambda% (pe_op op_add (no_implicit_lambda% (pe_op op_add (no_implicit_lambda% (pv 3)) (no_implicit_lambda% (pv 4)))) pe_int))))
        (no_implicit_lambda% (pss_cons (no_implicit_lambda% (ps_set (i := 6) nd rfl (Or.inl rfl) (no_implicit_lambda% (pe_lst pa_nil))))
        (no_implicit_lambda% (pss_cons (no_implicit_lambda% (ps_for PassesOwn.never rfl (no_implicit_lambda% (pi_range1 rfl T.range_ (no_implicit_lambda% (pa_cons (no_implicit_lambda% (pv 3)) pa_nil)))) (no_implicit_lambda% (pg_name (i := 7) nd rfl (Or.inl rfl))) (no_implicit_lambda% (pss_one (no_implicit_lambda% (ps_expr (no_implicit_lambda% (pe_bmK K PySem.F.plainAttrs_list PySem.F.slot_list_append PySem.F.type_list_append mt_append (no_implicit_lambda% (pv 6)) (no_implicit_lambda% (pa_cons (no_implicit_lambda% (pe_tup (no_implicit_lambda% (pa_cons (no_implicit_lambda% (pv 7)) (no_implicit_lambda% (pa_cons pe_str (no_implicit_lambda% (pa_cons (no_implicit_lambda% (pe_op op_mod (no_implicit_lambda% (pe_op op_add (no_implicit_lambda% (pv 7)) pe_int)) (no_implicit_lambda% (pv 3)))) (no_implicit_lambda% (pa_cons (no_implicit_lambda% (pe_ix ix_str pe_str (no_implicit_lambda% (pe_ix (ix_listK K) (no_implicit_lambda% (pv 2)) pe_int (fun _ _ => rfl))) (fun _ _ => rfl))) pa_nil)))))))))) pa_nil))))))))))
        (no_implicit_lambda% (pss_cons (no_implicit_lambda% (ps_expr (no_implicit_lambda% (pe_bmK K PySem.F.plainAttrs_list PySem.F.slot_list_append PySem.F.type_list_append mt_append (no_implicit_lambda% (pv 6)) (no_implicit_lambda% (pa_cons (no_implicit_lambda% (pe_tup (no_implicit_lambda% (pa_cons (no_implicit_lambda% (pe_op op_mod (no_implicit_lambda% (pe_ix (ix_listK K) (no_implicit_lambda% (pv 2)) pe_int (fun _ _ => rfl))) (no_implicit_lambda% (pv 3)))) (no_implicit_lambda% (pa_cons pe_str (no_implicit_lambda% (pa_cons (no_implicit_lambda% (pv 3)) (no_implicit_lambda% (pa_cons pe_str pa_nil)))))))))) pa_nil))))))
        (no_implicit_lambda% (pss_cons (no_implicit_lambda% (ps_for PassesOwn.never rfl (no_implicit_lambda% (pi_range1 rfl T.range_ (no_implicit_lambda% (pa_cons (no_implicit_lambda% (pv 4)) pa_nil)))) (no_implicit_lambda% (pg_name (i := 7) nd rfl (Or.inl rfl))) (no_implicit_lambda% (pss_one (no_implicit_lambda% (ps_expr (no_implicit_lambda% (pe_bmK K PySem.F.plainAttrs_list PySem.F.slot_list_append PySem.F.type_list_append mt_append (no_implicit_lambda% (pv 6)) (no_implicit_lambda% (pa_cons (no_implicit_lambda% (pe_tup (no_implicit_lambda% (pa_cons (no_implicit_lambda% (pe_op op_add (no_implicit_lambda% (pv 3)) (no_implicit_lambda% (pv 7)))) (no_implicit_lambda% (pa_cons pe_str (no_implicit_lambda% (pa_cons (no_implicit_lambda% (pe_op op_add (no_implicit_lambda% (pv 3)) (no_implicit_lambda% (pe_op op_mod (no_implicit_lambda% (pe_op op_add (no_implicit_lambda% (pv 7)) pe_int)) (no_implicit_lambda% (pv 4)))))) (no_implicit_lambda% (pa_cons pe_str pa_nil)))))))))) pa_nil))))))))))
        (no_implicit_lambda% (pss_cons (no_implicit_lambda% (ps_expr (no_implicit_lambda% (pe_bmK K PySem.F.plainAttrs_list PySem.F.slot_list_append PySem.F.type_list_append mt_append (no_implicit_lambda% (pv 6)) (no_implicit_lambda% (pa_cons (no_implicit_lambda% (pe_tup (no_implicit_lambda% (pa_cons (no_implicit_lambda% (pe_op op_add (no_implicit_lambda% (pv 3)) (no_implicit_lambda% (pe_op op_mod (no_implicit_lambda% (pe_ix (ix_listK K) (no_implicit_lambda% (pv 2)) pe_int (fun _ _ => rfl))) (no_implicit_lambda% (pv 4)))))) (no_implicit_lambda% (pa_cons pe_str (no_implicit_lambda% (pa_cons (no_implicit_lambda% (pe_op op_sub (no_implicit_lambda% (pv 5)) pe_int)) (no_implicit_lambda% (pa_cons pe_str pa_nil)))))))))) pa_nil))))))
        (no_implicit_lambda% (pss_cons (no_implicit_lambda% (ps_expr (no_implicit_lambda% (pe_bmK K PySem.F.plainAttrs_list PySem.F.slot_list_append PySem.F.type_list_append mt_append (no_implicit_lambda% (pv 6)) (no_implicit_lambda% (pa_cons (no_implicit_lambda% (pe_tup (no_implicit_lambda% (pa_cons (no_implicit_lambda% (pe_op op_sub (no_implicit_lambda% (pv 5)) pe_int)) (no_implicit_lambda% (pa_cons (no_implicit_lambda% (pe_ix (ix_listK K) (no_implicit_lambda% (pe_lst (no_implicit_lambda% (pa_cons pe_str (no_implicit_lambda% (pa_cons pe_str pa_nil)))))) (no_implicit_lambda% (pe_ix (ix_listK K) (no_implicit_lambda% (pv 2)) pe_int (fun _ _ => rfl))) (fun _ _ => rfl))) (no_implicit_lambda% (pa_cons (no_implicit_lambda% (pe_ix (ix_listK K) (no_implicit_lambda% (pe_lst (no_implicit_lambda% (pa_cons pe_int (no_implicit_lambda% (pa_cons (no_implicit_lambda% (pe_op op_sub (no_implicit_lambda% (pv 5)) pe_int)) pa_nil)))))) (no_implicit_lambda% (pe_ix (ix_listK K) (no_implicit_lambda% (pv 2)) pe_int (fun _ _ => rfl))) (fun _ _ => rfl))) (no_implicit_lambda% (pa_cons pe_str pa_nil)))))))))) pa_nil))))))
        (no_implicit_lambda% (pss_one (no_implicit_lambda% (ps_ret (no_implicit_lambda% (pe_tup (no_implicit_lambda% (pa_cons (no_implicit_lambda% (pv 5)) (no_implicit_lambda% (pa_cons (no_implicit_lambda% (pe_cal C__law_unlike hr (no_implicit_lambda% (pa_cons (no_implicit_lambda% (pv 6)) pa_nil)))) pa_nil)))))))))))))))))))))))))))), ?_⟩
    walk_at "rd"
    refine ⟨small_line (by simp), rd_new fun w0 G1 f1 hw0 _ => ?_⟩
    walk_at "rd"
    refine ⟨c, w0, [6, 5, 6, 5, 2, 2, 2], p, rfl, hw0, by decide, by decide, hp, fun dq ds H1 e1 hd hdn hl hb => ?_⟩
    have eH : Ext H H1 := f1.trans e1
    obtain ⟨d0, g0, b00, b01⟩ := draws_at hl hb 0 rfl
    obtain ⟨d1, g1, b10, b11⟩ := draws_at hl hb 1 rfl
    obtain ⟨d2, g2, b20, b21⟩ := draws_at hl hb 2 rfl
    obtain ⟨d3, g3, b30, b31⟩ := draws_at hl hb 3 rfl
    obtain ⟨d4, g4, b40, b41⟩ := draws_at hl hb 4 rfl
    obtain ⟨d5, g5, b50, b51⟩ := draws_at hl hb 5 rfl
    obtain ⟨d6, g6, b60, b61⟩ := draws_at hl hb 6 rfl
    clear hb hl
    walk_at "rd"
    refine rd_ixL (SqL.of hd) g0 ?_
    walk_at "rd"
    refine rd_ixL (SqL.of hd) g1 ?_
    walk_at "rd"
    obtain ⟨U, hU⟩ : ∃ U : Nat, 1 + d0 = (U : Int) := ⟨(1 + d0).toNat, by omega⟩
    obtain ⟨D, hD⟩ : ∃ D : Nat, 1 + d1 = (D : Int) := ⟨(1 + d1).toNat, by omega⟩
    rw [hU, hD]
    have u1 : 1 ≤ U := by omega
    have u6 : U ≤ 6 := by omega
    have v1 : 1 ≤ D := by omega
    have v5 : D ≤ 5 := by omega
    clear b00 b01 b10 b11 hU hD
    obtain ⟨m, hm⟩ : ∃ m : Int, (U : Int) + (D : Int) + 1 = m := ⟨_, rfl⟩
    rw [hm]
    refine ⟨small_line (by simp), rd_new fun f H2 e2 hf hfn => ?_⟩
    walk_at "rd"
    refine rd_i1x (by omega) ?_
    have hfn0 : H1 f = none := hfn
    refine forR (fun i σ H3 => ∃ (k : Option V) (us : List Way), σ = [some (.int c), some (.int p), some (.ref dq), some (.int U), some (.int D), some (.int m), some (.ref f), k] ∧ WL H1 H3 f us ∧ (∀ u ∈ us, u.Ok m) ∧ us.length = i)
      ⟨none, [], rfl, WL.nil e2 hf, fun u hu => by simp at hu, rfl⟩ ?_ ?_
    · rintro i σ H3 hi ⟨k, us, rfl, wl, ok, len⟩
      rw [Int.toNat_natCast] at hi
      walk_at "rd"
      refine ⟨wl.ty (Ext.rfl' _), ?_⟩
      walk_at "rd"
      try refine rd_I (show (0 : Int) < (U : Int) by omega) ?_
      walk_at "rd"
      refine rd_ixL (SqL.of (wl.ext _ _ hd)) g4 ?_
      obtain ⟨s, hs, s1, s2⟩ := pick_ab b40 b41
      refine ⟨_, _, s, rfl, rfl, small9 (by decide +kernel), hs, ?_⟩
      walk_at "rd"
      refine ⟨small_line (by simp), rd_new fun v H4 e4 hv _ => ?_⟩
      walk_at "rd"
      obtain ⟨xs, hx, hlx, wl'⟩ := wl.push (w := ⟨0 + (i : Int), "up", (0 + (i : Int) + 1) % (U : Int), ⟨#[s]⟩⟩) hfn0 e4 hv
      refine rd_append hx (line16 (by omega)) ?_
      walk_at "rd"
      exact ⟨_, _, rfl, wl', all_snoc ok ⟨by show 0 ≤ 0 + (i : Int); omega, by show 0 + (i : Int) < m; omega, Int.emod_nonneg _ (by omega), Int.lt_trans (Int.emod_lt_of_pos _ (by omega)) (by omega), okU, s, s1, s2, rfl⟩, by simp [len]⟩
    rintro σ H3 ⟨k, us, rfl, wl, ok, len⟩
    rw [Int.toNat_natCast] at len
    walk_at "rd"
    refine ⟨wl.ty (Ext.rfl' _), ?_⟩
    walk_at "rd"
    refine rd_ixL (SqL.of (wl.ext _ _ hd)) g2 ?_
    try refine rd_I (show (0 : Int) < (U : Int) by omega) ?_
    walk_at "rd"
    refine ⟨small_line (by simp), rd_new fun v H4 e4 hv _ => ?_⟩
    walk_at "rd"
    have r0 : 0 ≤ d2 % (U : Int) := Int.emod_nonneg _ (by omega)
    have r1 : d2 % (U : Int) < U := Int.emod_lt_of_pos _ (by omega)
    obtain ⟨xs, hx, hlx, wl2⟩ := wl.push (w := ⟨d2 % (U : Int), "stay", (U : Int), "b"⟩) hfn0 e4 hv
    have ok2 := all_snoc ok (w := ⟨d2 % (U : Int), "stay", (U : Int), "b"⟩) ⟨r0, by show d2 % (U : Int) < m; omega, by show 0 ≤ (U : Int); omega, by show (U : Int) < m; omega, okS, sgB⟩
    refine rd_append hx (line16 (by omega)) ?_
    generalize upd H4 f _ = H5 at wl2 ⊢
    generalize hus2 : us ++ [_] = us2 at wl2 ok2
    have len2 : us2.length = U + 1 := by rw [← hus2]; simp [len]
    clear hus2 hx hlx hv e4 r0 r1 wl ok len
    walk_at "rd"
    refine rd_i1x (by omega) ?_
    refine forR (fun i σ H3 => ∃ (k : Option V) (us : List Way), σ = [some (.int c), some (.int p), some (.ref dq), some (.int U), some (.int D), some (.int m), some (.ref f), k] ∧ WL H1 H3 f us ∧ (∀ u ∈ us, u.Ok m) ∧ us.length = U + 1 + i)
      ⟨_, us2, rfl, wl2, ok2, len2⟩ ?_ ?_
    · rintro i σ H3 hi ⟨k, us, rfl, wl, ok, len⟩
      rw [Int.toNat_natCast] at hi
      walk_at "rd"
      refine ⟨wl.ty (Ext.rfl' _), ?_⟩
      walk_at "rd"
      try refine rd_I (show (0 : Int) < (D : Int) by omega) ?_
      walk_at "rd"
      refine ⟨small_line (by simp), rd_new fun v H4 e4 hv _ => ?_⟩
      walk_at "rd"
      have r0 : 0 ≤ (0 + (i : Int) + 1) % (D : Int) := Int.emod_nonneg _ (by omega)
      have r1 : (0 + (i : Int) + 1) % (D : Int) < D := Int.emod_lt_of_pos _ (by omega)
      obtain ⟨xs, hx, hlx, wl'⟩ := wl.push (w := ⟨(U : Int) + (0 + (i : Int)), "down", (U : Int) + (0 + (i : Int) + 1) % (D : Int), "a"⟩) hfn0 e4 hv
      refine rd_append hx (line16 (by omega)) ?_
      walk_at "rd"
      exact ⟨_, _, rfl, wl', all_snoc ok ⟨by show 0 ≤ (U : Int) + (0 + (i : Int)); omega, by show (U : Int) + (0 + (i : Int)) < m; omega, by show 0 ≤ (U : Int) + (0 + (i : Int) + 1) % (D : Int); omega, by show (U : Int) + (0 + (i : Int) + 1) % (D : Int) < m; omega, okDn, sgA⟩, by simp [len]; omega⟩
    clear wl2 ok2 len2
    rintro σ H3 ⟨k, us, rfl, wl, ok, len⟩
    rw [Int.toNat_natCast] at len
    walk_at "rd"
    refine ⟨wl.ty (Ext.rfl' _), ?_⟩
    walk_at "rd"
    refine rd_ixL (SqL.of (wl.ext _ _ hd)) g3 ?_
    try refine rd_I (show (0 : Int) < (D : Int) by omega) ?_
    walk_at "rd"
    refine ⟨small_line (by simp), rd_new fun v H4 e4 hv _ => ?_⟩
    walk_at "rd"
    have r0 : 0 ≤ d3 % (D : Int) := Int.emod_nonneg _ (by omega)
    have r1 : d3 % (D : Int) < D := Int.emod_lt_of_pos _ (by omega)
    obtain ⟨xs, hx, hlx, wl2⟩ := wl.push (w := ⟨(U : Int) + d3 % (D : Int), "zero", m - 1, "c"⟩) hfn0 e4 hv
    have ok2 := all_snoc ok (w := ⟨(U : Int) + d3 % (D : Int), "zero", m - 1, "c"⟩) ⟨by show 0 ≤ (U : Int) + d3 % (D : Int); omega, by show (U : Int) + d3 % (D : Int) < m; omega, by show 0 ≤ m - 1; omega, by show m - 1 < m; omega, okZ, sgC⟩
    refine rd_append hx (line16 (by omega)) ?_
    generalize upd H4 f _ = H5 at wl2 ⊢
    generalize hus2 : us ++ [_] = us2 at wl2 ok2
    have len2 : us2.length = U + D + 2 := by rw [← hus2]; simp [len]; omega
    clear hus2 hx hlx hv e4 r0 r1 wl ok len
    walk_at "rd"
    refine ⟨wl2.ty (Ext.rfl' _), ?_⟩
    walk_at "rd"
    refine ⟨small_line (by simp), rd_new fun t1 H6 e6 ht1 _ => ?_⟩
    walk_at "rd"
    refine rd_ixL (SqL.of (e6 _ _ (wl2.ext _ _ hd))) g5 ?_
    obtain ⟨x5, hx5, ax5⟩ := two_at (a := V.str "up") (b := V.str "stay") b50 b51
    refine rd_ixL (SqL.of ht1) hx5 ?_
    walk_at "rd"
    refine ⟨small_line (by simp), rd_new fun t2 H7 e7 ht2 _ => ?_⟩
    walk_at "rd"
    refine rd_ixL (SqL.of (e7 _ _ (e6 _ _ (wl2.ext _ _ hd)))) g6 ?_
    obtain ⟨x6, hx6, ax6⟩ := two_at (a := V.int 0) (b := V.int (m - 1)) b60 b61
    refine rd_ixL (SqL.of ht2) hx6 ?_
    walk_at "rd"
    refine ⟨small_line (by simp), rd_new fun v H8 e8 hv _ => ?_⟩
    walk_at "rd"
    obtain ⟨z, rfl, oz⟩ : ∃ z, x5 = .str z ∧ okDeed z := by
      rcases ax5 with rfl | rfl
      · exact ⟨_, rfl, okU⟩
      · exact ⟨_, rfl, okS⟩
    obtain ⟨y, rfl, y0, y1⟩ : ∃ y : Int, x6 = .int y ∧ 0 ≤ y ∧ y < m := by
      rcases ax6 with rfl | rfl
      · exact ⟨_, rfl, by omega, by omega⟩
      · exact ⟨_, rfl, by omega, by omega⟩
    obtain ⟨xs, hx, hlx, wl3⟩ := wl2.push (w := ⟨m - 1, z, y, "b"⟩) hfn0 (e6.trans (e7.trans e8)) hv
    have ok3 := all_snoc ok2 (w := ⟨m - 1, z, y, "b"⟩) ⟨by show 0 ≤ m - 1; omega, by show m - 1 < m; omega, y0, y1, oz, sgB⟩
    refine rd_append hx (line16 (by omega)) ?_
    generalize upd H8 f _ = H9 at wl3 ⊢
    generalize hus3 : us2 ++ [_] = us3 at wl3 ok3
    have len3 : us3.length = U + D + 3 := by rw [← hus3]; simp [len2]
    walk_at "rd"
    obtain ⟨ew, cs, hcs, al⟩ := wl3
    refine ⟨f, cs, us3, rfl, hcs, al, fun u hu => (ok3 u hu).lay, by omega, fun r I1 ws e5 hws nd sub ln => ?_⟩
    walk_at "rd"
    refine ⟨small_line (by simp), rd_new fun t I2 e6' ht _ => ?_⟩
    exact q _ m ws I2 (eH.trans (ew.trans (e5.trans e6'))) (HouseAt.mk ht (hws.ext e6')) ⟨by omega, by omega, by omega, fun u hu => ok3 u (sub u hu), nd⟩
end My
set_option Elab.async false
set_option linter.all false
set_option maxRecDepth 100000
namespace My
open PySem L2 St
set_option maxHeartbeats 4000000
local macro_rules | `(tactic| walk_at "cond") => `(tactic| first | decide | omega | (dsimp only; omega) | (unfold CMul; omega) | (unfold CPow; exact ⟨by decide, by decide, by decide⟩) | (dsimp only; exact ⟨by omega, by omega⟩) | exact .inr ⟨by decide, by decide⟩ | exact .inl ⟨by decide, by decide⟩ | (unfold SmallR; omega))
local macro_rules | `(tactic| walk_at "sq") => `(tactic| first | assumption | exact SqL.of (by assumption) | exact SqT.of (by assumption) | exact SqL.of (by solve_by_elim) | exact SqT.of (by solve_by_elim) | solve_by_elim)
local macro_rules | `(tactic| walk_at "rd") => do
  let ts ← ("seq ret retN asg drop ifS next name var c op un CB cons nil ints test B exb not and or andV orV notV ifE yes I0 I U EqI NeI EqB NeB call BM tup lst sl noPart part exi chain comp iL iT i1 i2 i3 for tTru intB max2 min2 sub gcons gnil aug ipI zip rev par par2 lam calV raise fs try bseq bnext bplain bif bcall enum gget gin revL leS disp dget lrev disp1 din dnin dput min3 iS iD bm0 revS".splitOn " ").toArray.mapM fun n =>
    let i := Lean.mkIdent (.mkSimple ("rd_" ++ n))
    if n == "var" || n == "aug" then `(tacticSeq| ((with_reducible apply $i); (exact rfl)))
    else if n == "I" then `(tacticSeq| ((with_reducible apply $i); (walk_at "cond")))
    else `(tacticSeq| with_reducible refine $i ?_)
  `(tactic| repeat (first $[| $ts]* | dsimp only))
theorem AlW.rev {H : Hp} {bs : List Addr} {ws : List Way} (h : AlW H bs ws) : AlW H bs.reverse ws.reverse := by
  refine ⟨by rw [List.length_reverse, List.length_reverse]; exact h.1, fun j b w e1 e2 => ?_⟩
  have hj : j < bs.length := by
    have := (List.getElem?_eq_some_iff.mp e1).1
    simpa using this
  rw [List.getElem?_reverse hj] at e1
  rw [List.getElem?_reverse (by rw [← h.1]; exact hj), ← h.1] at e2
  exact h.2 _ b w e1 e2
theorem nodup_snoc {us : List Way} {w : Way} (h : us.Nodup) (hw : w ∉ us) : (us ++ [w]).Nodup := by
  rw [List.nodup_append]
  exact ⟨h, by simp, fun a ha c hc => by rw [List.mem_singleton.mp hc]; exact fun z => hw (z ▸ ha)⟩
theorem all_snocP {P : Way → Prop} {us : List Way} {w : Way} (h : ∀ u ∈ us, P u) (hw : P w) : ∀ u ∈ us ++ [w], P u := fun u hu => by
  rcases List.mem_append.mp hu with hu | hu
  · exact h u hu
  · rw [List.mem_singleton.mp hu]; exact hw
theorem ne_ab : (Str.ofString "a") ≠ "b" := by decide +kernel
theorem ne_ac : (Str.ofString "a") ≠ "c" := by decide +kernel
theorem ne_bc : (Str.ofString "b") ≠ "c" := by decide +kernel
def sp__law_ring_house (K : PySem.W.Frag) : Sp := fun vs H Q _ => ∃ c p, vs = [.int c, .int p] ∧ 0 < p ∧ ∀ v m ws H', Ext H H' → HouseAt H' v m ws → HOuse m ws → Q v H'
abbrev s__law_ring_house : Stmt := top 19
theorem sc__law_ring_house : FnScope ["_law_cell_here", "_law_prime", "_law_draws_here", "_law_one", "_law_two", "_law_many", "_law_ways", "_law_k"] ["_law_cell_here", "_law_prime"] (defScope s__law_ring_house) := ⟨rfl, rfl, rfl, by decide +kernel, rfl, by decide +kernel, by decide +kernel⟩
theorem ok__law_ring_house {P : Program} {w : World} {K : PySem.W.Frag} {mg : Str → Option Value} {base : Heap} (D : Dfn K mg "_law_ring_house" s__law_ring_house ["_law_cell_here", "_law_prime"]) (T : Blt mg) (C__law_draws : Cal P w K mg base "_law_draws" 2 ["_law_cell_here", "_law_widths", "_law_prime"] (sp__law_draws K)) : Cal P w K mg base "_law_ring_house" 3 ["_law_cell_here", "_law_prime"] (sp__law_ring_house K) := by
  have nd := (sc__law_ring_house).nd
  refine D.ok sc__law_ring_house (fun vs H Q E h => ?_) (fun X hX H vs Q E h => ?_)
  · obtain ⟨c, p, rfl, _⟩ := h; rfl
  · obtain ⟨f, cdv, A, outer, s, H0, E0, rfl, hr⟩ := hX
    obtain ⟨c, p, rfl, hp, q⟩ := h
    refine ⟨_, (no_implicit_lambda% (pss_cons (no_implicit_lambda% (ps_set (i := 2) nd rfl (Or.inl rfl) (no_implicit_lambda% (pe_cal C__law_draws hr (no_implicit_lambda% (pa_cons (no_implicit_lambda% (pv 0)) (no_implicit_lambda% (pa_cons (no_implicit_lambda% (pe_lst (no_implicit_lambda% (pa_ints (.c (.c (.c (.c (.c (.c (.c .n))))))))))) (no_implicit_lambda% (pa_cons (no_implicit_lambda% (pv 1)) pa_nil))))))))))
        (no_implicit_lambda% (pss_cons (no_implicit_lambda% (ps_par (i := 3) (j := 4) rfl nd rfl rfl (by decide) rfl rfl (no_implicit_lambda% (pa_cons (no_implicit_lambda% (pe_op op_add pe_int (no_implicit_lambda% (pe_ix (ix_listK K) (no_implicit_lambda% (pv 2)) pe_int (fun _ _ => rfl))))) (no_implicit_lambda% (pa_cons (no_implicit_lambda% (pe_op op_add pe_int (no_implicit_lambda% (pe_ix (ix_listK K) (no_implicit_lambda% (pv 2)) pe_int (fun _ _ => rfl))))) pa_nil)))) rfl))
        (no_implicit_lambda% (pss_cons (no_implicit_lambda% (ps_set (i := 5) nd rfl (Or.inl rfl) (no_implicit_lambda% (pe_op op_add (no_implicit_lambda% (pe_op op_add (no_implicit_lambda% (pv 3)) (no_implicit_lambda% (pv 4)))) pe_int))))
        (no_implicit_lambda% (pss_cons (no_implicit_lambda% (ps_set (i := 6) nd rfl (Or.inl rfl) (no_implicit_lambda% (pe_lst (no_implicit_lambda% (pa_cons (no_implicit_lambda% (pe_tup (no_implicit_lambda% (pa_cons pe_int (no_implicit_lambda% (pa_cons pe_str (no_implicit_lambda% (pa_cons pe_int (no_implicit_lambda% (pa_cons pe_str pa_nil)))))))))) (no_implicit_lambda% (pa_cons (no_implicit_lambda% (pe_tup (no_implicit_lambda% (pa_cons pe_int (no_implicit_lambda% (pa_cons (no_implicit_lambda% (pe_ix (ix_listK K) (no_implicit_lambda% (pe_lst (no_implicit_lambda% (pa_cons pe_str (no_implicit_lambda% (pa_cons pe_str pa_nil)))))) (no_implicit_lambda% (pe_ix (ix_listK K) (no_implicit_lambda% (pv 2)) pe_int (fun _ _ => rfl))) (fun _ _ => rfl))) (no_implicit_lambda% (pa_cons (no_implicit_lambda% (pe_op op_add pe_int (no_implicit_lambda% (pv 3)))) (no_implicit_lambda% (pa_cons pe_str pa_nil)))))))))) pa_nil))))))))
        (no_implicit_lambda% (pss_cons (no_implicit_lambda% (ps_for PassesOwn.never rfl (no_implicit_lambda% (pi_range1 rfl T.range_ (no_implicit_lambda% (pa_cons (no_implicit_lambda% (pv 3)) pa_nil)))) (no_implicit_lambda% (pg_name (i := 7) nd rfl (Or.inl rfl))) (no_implicit_lambda% (pss_one (no_implicit_lambda% (ps_expr (no_implicit_lambda% (pe_bmK K PySem.F.plainAttrs_list PySem.F.slot_list_append PySem.F.type_list_append mt_append (no_implicit_lambda% (pv 6)) (no_implicit_lambda% (pa_cons (no_implicit_lambda% (pe_tup (no_implicit_lambda% (pa_cons (no_implicit_lambda% (pe_op op_add pe_int (no_implicit_lambda% (pv 7)))) (no_implicit_lambda% (pa_cons pe_str (no_implicit_lambda% (pa_cons (no_implicit_lambda% (pe_op op_add pe_int (no_implicit_lambda% (pe_op op_mod (no_implicit_lambda% (pe_op op_add (no_implicit_lambda% (pv 7)) pe_int)) (no_implicit_lambda% (pv 3)))))) (no_implicit_lambda% (pa_cons pe_str pa_nil)))))))))) pa_nil))))))))))
        (no_implicit_lambda% (pss_cons (no_implicit_lambda% (ps_for PassesOwn.never rfl (no_implicit_lambda% (pi_range1 rfl T.range_ (no_implicit_lambda% (pa_cons (no_implicit_lambda% (pv 4)) pa_nil)))) (no_implicit_lambda% (pg_name (i := 7) nd rfl (Or.inl rfl))) (no_implicit_lambda% (pss_one (no_implicit_lambda% (ps_expr (no_implicit_lambda% (pe_bmK K PySem.F.plainAttrs_list PySem.F.slot_list_append PySem.F.type_list_append mt_append (no_implicit_lambda% (pv 6)) (no_implicit_lambda% (pa_cons (no_implicit_lambda% (pe_tup (no_implicit_lambda% (pa_cons (no_implicit_lambda% (pe_op op_add (no_implicit_lambda% (pe_op op_add pe_int (no_implicit_lambda% (pv 3)))) (no_implicit_lambda% (pv 7)))) (no_implicit_lambda% (pa_cons (no_implicit_lambda% (pe_ix (ix_listK K) (no_implicit_lambda% (pe_lst (no_implicit_lambda% (pa_cons pe_str (no_implicit_lambda% (pa_cons pe_str pa_nil)))))) (no_implicit_lambda% (pe_ix (ix_listK K) (no_implicit_lambda% (pv 2)) pe_int (fun _ _ => rfl))) (fun _ _ => rfl))) (no_implicit_lambda% (pa_cons (no_implicit_lambda% (pe_op op_add (no_implicit_lambda% (pe_op op_add pe_int (no_implicit_lambda% (pv 3)))) (no_implicit_lambda% (pe_op op_mod (no_implicit_lambda% (pe_op op_add (no_implicit_lambda% (pv 7)) pe_int)) (no_implicit_lambda% (pv 4)))))) (no_implicit_lambda% (pa_cons pe_str pa_nil)))))))))) pa_nil))))))))))
        (no_implicit_lambda% (pss_cons (no_implicit_lambda% (ps_expr (no_implicit_lambda% (pe_bmK K PySem.F.plainAttrs_list PySem.F.slot_list_append PySem.F.type_list_append mt_append (no_implicit_lambda% (pv 6)) (no_implicit_lambda% (pa_cons (no_implicit_lambda% (pe_tup (no_implicit_lambda% (pa_cons pe_int (no_implicit_lambda% (pa_cons pe_str (no_implicit_lambda% (pa_cons (no_implicit_lambda% (pe_op op_sub (no_implicit_lambda% (pv 5)) pe_int)) (no_implicit_lambda% (pa_cons pe_str pa_nil)))))))))) pa_nil))))))
        (no_implicit_lambda% (pss_cons (no_implicit_lambda% (ps_expr (no_implicit_lambda% (pe_bmK K PySem.F.plainAttrs_list PySem.F.slot_list_append PySem.F.type_list_append mt_append (no_implicit_lambda% (pv 6)) (no_implicit_lambda% (pa_cons (no_implicit_lambda% (pe_tup (no_implicit_lambda% (pa_cons (no_implicit_lambda% (pe_op op_add pe_int (no_implicit_lambda% (pv 3)))) (no_implicit_lambda% (pa_cons pe_str (no_implicit_lambda% (pa_cons (no_implicit_lambda% (pe_op op_sub (no_implicit_lambda% (pv 5)) pe_int)) (no_implicit_lambda% (pa_cons pe_str pa_nil)))))))))) pa_nil))))))
        (no_implicit_lambda% (pss_cons (no_implicit_lambda% (ps_ifJ (no_implicit_lambda% (pt_cmpR op_eq (no_implicit_lambda% (pe_ix (ix_listK K) (no_implicit_lambda% (pv 2)) pe_int (fun _ _ => rfl))) pe_int (nomark _))) (no_implicit_lambda% (pss_one (no_implicit_lambda% (ps_expr (no_implicit_lambda% (pe_bmK K PySem.F.plainAttrs_list PySem.F.slot_list_append PySem.F.type_list_append mt_append (no_implicit_lambda% (pv 6)) (no_implicit_lambda% (pa_cons (no_implicit_lambda% (pe_tup (no_implicit_lambda% (pa_cons (no_implicit_lambda% (pe_op op_sub (no_implicit_lambda% (pv 5)) pe_int)) (no_implicit_lambda% (pa_cons pe_str (no_implicit_lambda% (pa_cons (no_implicit_lambda% (pe_op op_sub (no_implicit_lambda% (pv 5)) pe_int)) (no_implicit_lambda% (pa_cons pe_str pa_nil)))))))))) pa_nil)))))))) pss_nil))
        (no_implicit_lambda% (pss_cons (no_implicit_lambda% (ps_ifJ (no_implicit_lambda% (pt_cmpR op_eq (no_implicit_lambda% (pe_ix (ix_listK K) (no_implicit_lambda% (pv 2)) pe_int (fun _ _ => rfl))) pe_int (nomark _))) (no_implicit_lambda% (pss_one (no_implicit_lambda% (ps_expr (no_implicit_lambda% (pe_bmK K PySem.F.plainAttrs_list PySem.F.slot_list_append PySem.F.type_list_append mt_append (no_implicit_lambda% (pv 6)) (no_implicit_lambda% (pa_cons (no_implicit_lambda% (pe_tup (no_implicit_lambda% (pa_cons (no_implicit_lambda% (pe_op op_sub (no_implicit_lambda% (pv 5)) pe_int)) (no_implicit_lambda% (pa_cons pe_str (no_implicit_lambda% (pa_cons pe_int (no_implicit_lambda% (pa_cons pe_str pa_nil)))))))))) pa_nil)))))))) pss_nil))
        (no_implicit_lambda% (pss_cons (no_implicit_lambda% (ps_ifJ (no_implicit_lambda% (pt_cmpR op_eq (no_implicit_lambda% (pe_ix (ix_listK K) (no_implicit_lambda% (pv 2)) pe_int (fun _ _ => rfl))) pe_int (nomark _))) (no_implicit_lambda% (pss_one (no_implicit_lambda% (ps_set (i := 6) nd rfl (Or.inl rfl) (no_implicit_lambda% (pe_revL K (no_implicit_lambda% (pv 6)) (po_some (no_implicit_lambda% (pe_un un_neg pe_int))))))))) pss_nil))
        (no_implicit_lambda% (pss_one (no_implicit_lambda% (ps_ret (no_implicit_lambda% (pe_tup (no_implicit_lambda% (pa_cons (no_implicit_lambda% (pv 5)) (no_implicit_lambda% (pa_cons (no_implicit_lambda% (pe_callTy (call_tupK K) rfl T.tuple_ PyProof.Rows.boot_tuple (no_implicit_lambda% (pa_cons (no_implicit_lambda% (pv 6)) pa_nil)))) pa_nil)))))))))))))))))))))))))))))))), ?_⟩
    walk_at "rd"
    refine ⟨small_line (by simp), rd_new fun w0 G1 f1 hw0 _ => ?_⟩
    walk_at "rd"
    refine ⟨c, w0, [5, 5, 2, 2, 4, 4, 2], p, rfl, hw0, by decide, by decide, hp, fun dq ds H1 e1 hd hdn hl hb => ?_⟩
    have eH : Ext H H1 := f1.trans e1
    obtain ⟨d0, g0, b00, b01⟩ := draws_at hl hb 0 rfl
    obtain ⟨d1, g1, b10, b11⟩ := draws_at hl hb 1 rfl
    obtain ⟨d2, g2, b20, b21⟩ := draws_at hl hb 2 rfl
    obtain ⟨d3, g3, b30, b31⟩ := draws_at hl hb 3 rfl
    obtain ⟨d4, g4, _⟩ := draws_at hl hb 4 rfl
    obtain ⟨d5, g5, _⟩ := draws_at hl hb 5 rfl
    obtain ⟨d6, g6, _⟩ := draws_at hl hb 6 rfl
    clear hb hl
    walk_at "rd"
    refine rd_ixL (SqL.of hd) g0 ?_
    walk_at "rd"
    refine rd_ixL (SqL.of hd) g1 ?_
    walk_at "rd"
    obtain ⟨U, hU⟩ : ∃ U : Nat, 1 + d0 = (U : Int) := ⟨(1 + d0).toNat, by omega⟩
    obtain ⟨D, hD⟩ : ∃ D : Nat, 1 + d1 = (D : Int) := ⟨(1 + d1).toNat, by omega⟩
    rw [hU, hD]
    have u1 : 1 ≤ U := by omega
    have u6 : U ≤ 5 := by omega
    have v1 : 1 ≤ D := by omega
    have v5 : D ≤ 5 := by omega
    clear b00 b01 b10 b11 hU hD
    obtain ⟨m, hm⟩ : ∃ m : Int, (U : Int) + (D : Int) + 2 = m := ⟨_, rfl⟩
    rw [hm]
    -- the first two ways
    refine ⟨small_line (by simp), rd_new fun a1 H2 e2 ha1 _ => ?_⟩
    walk_at "rd"
    refine ⟨small_line (by simp), rd_new fun t1 H3 e3 ht1 _ => ?_⟩
    walk_at "rd"
    refine rd_ixL (SqL.of (e3 _ _ (e2 _ _ hd))) g2 ?_
    obtain ⟨x2, hx2, ax2⟩ := two_at (a := V.str "stay") (b := V.str "zero") b20 b21
    refine rd_ixL (SqL.of ht1) hx2 ?_
    walk_at "rd"
    obtain ⟨z2, rfl, oz2⟩ : ∃ z, x2 = .str z ∧ okDeed z := by
      rcases ax2 with rfl | rfl
      · exact ⟨_, rfl, okS⟩
      · exact ⟨_, rfl, okZ⟩
    refine ⟨small_line (by simp), rd_new fun a2 H4 e4 ha2 _ => ?_⟩
    walk_at "rd"
    refine ⟨small_line (by simp), rd_new fun f H5 e5 hf hfn => ?_⟩
    have e15 : Ext H1 H5 := e2.trans (e3.trans (e4.trans e5))
    have hfn0 : H1 f = none := (e2.trans (e3.trans e4)).none hfn
    obtain ⟨y1, hy1⟩ : ∃ y : Way, y = ⟨0, "stay", 1, "a"⟩ := ⟨_, rfl⟩
    obtain ⟨y2, hy2⟩ : ∃ y : Way, y = ⟨0, z2, 1 + (U : Int), "b"⟩ := ⟨_, rfl⟩
    have wl0 : WL H1 H5 f [y1, y2] := by
      refine ⟨e15, [a1, a2], hf, ?_⟩
      have k1 : H5 a1 = some (.tup y1.vs) := by rw [hy1]; exact e5 _ _ (e4 _ _ (e3 _ _ ha1))
      have k2 : H5 a2 = some (.tup y2.vs) := by rw [hy2]; exact e5 _ _ ha2
      exact ((AlW.nil H5).snoc k1).snoc k2
    have ok0 : ∀ u ∈ [y1, y2], u.Ok m := by
      intro u hu
      rcases List.mem_cons.mp hu with rfl | hu
      · subst hy1; exact ⟨Int.le_refl _, by show (0 : Int) < m; omega, by show (0 : Int) ≤ 1; decide, by show (1 : Int) < m; omega, okS, sgA⟩
      · rw [List.mem_singleton.mp hu]; subst hy2; exact ⟨Int.le_refl _, by show (0 : Int) < m; omega, by show (0 : Int) ≤ 1 + (U : Int); omega, by show 1 + (U : Int) < m; omega, oz2, sgB⟩
    have nd0 : [y1, y2].Nodup := by
      subst hy1 hy2
      refine List.nodup_cons.mpr ⟨fun z => ?_, by simp⟩
      have := congrArg Way.sign (List.mem_singleton.mp z)
      exact ne_ab this
    have pr0 : ∀ u ∈ [y1, y2], u.room ≤ ((0 : Nat) : Int) ∧ u.sign ≠ "c" := by
      intro u hu
      rcases List.mem_cons.mp hu with rfl | hu
      · subst hy1; exact ⟨Int.le_refl _, ne_ac⟩
      · rw [List.mem_singleton.mp hu]; subst hy2; exact ⟨Int.le_refl _, ne_bc⟩
    have ln0 : [y1, y2].length = 2 := rfl
    generalize [y1, y2] = us0 at wl0 ok0 nd0 pr0 ln0
    clear hy1 hy2 ha1 ha2 ht1 hf e2 e3 e4 e5
    walk_at "rd"
    refine rd_i1x (by omega) ?_
    refine forR (fun i σ H3 => ∃ (k : Option V) (us : List Way), σ = [some (.int c), some (.int p), some (.ref dq), some (.int U), some (.int D), some (.int m), some (.ref f), k] ∧ WL H1 H3 f us ∧ (∀ u ∈ us, u.Ok m) ∧ us.Nodup ∧ (∀ u ∈ us, u.room ≤ (i : Int) ∧ u.sign ≠ "c") ∧ us.length = 2 + i)
      ⟨none, us0, rfl, wl0, ok0, nd0, pr0, ln0⟩ ?_ ?_
    · rintro i σ H3 hi ⟨k, us, rfl, wl, ok, nd', pr, len⟩
      rw [Int.toNat_natCast] at hi
      walk_at "rd"
      refine ⟨wl.ty (Ext.rfl' _), ?_⟩
      walk_at "rd"
      try refine rd_I (show (0 : Int) < (U : Int) by omega) ?_
      walk_at "rd"
      refine ⟨small_line (by simp), rd_new fun v H4 e4 hv _ => ?_⟩
      walk_at "rd"
      have r0 : 0 ≤ (0 + (i : Int) + 1) % (U : Int) := Int.emod_nonneg _ (by omega)
      have r1 : (0 + (i : Int) + 1) % (U : Int) < U := Int.emod_lt_of_pos _ (by omega)
      obtain ⟨xs, hx, hlx, wl'⟩ := wl.push (w := ⟨1 + (0 + (i : Int)), "up", 1 + (0 + (i : Int) + 1) % (U : Int), "a"⟩) hfn0 e4 hv
      refine rd_append hx (line16 (by omega)) ?_
      walk_at "rd"
      refine ⟨_, _, rfl, wl', all_snoc ok ⟨by show 0 ≤ 1 + (0 + (i : Int)); omega, by show 1 + (0 + (i : Int)) < m; omega, by show 0 ≤ 1 + (0 + (i : Int) + 1) % (U : Int); omega, by show 1 + (0 + (i : Int) + 1) % (U : Int) < m; omega, okU, sgA⟩, nodup_snoc nd' fun z => ?_, all_snocP (fun u hu => ⟨by have := (pr u hu).1; omega, (pr u hu).2⟩) ⟨by show 1 + (0 + (i : Int)) ≤ _; omega, ne_ac⟩, by simp [len]; omega⟩
      have := (pr _ z).1
      have : 1 + (0 + (i : Int)) ≤ (i : Int) := this
      omega
    clear wl0 ok0 nd0 pr0 ln0
    rintro σ H3 ⟨k, us, rfl, wl, ok, nd', pr, len⟩
    rw [Int.toNat_natCast] at pr len
    walk_at "rd"
    refine rd_i1x (by omega) ?_
    refine forR (fun i σ H3 => ∃ (k : Option V) (us : List Way), σ = [some (.int c), some (.int p), some (.ref dq), some (.int U), some (.int D), some (.int m), some (.ref f), k] ∧ WL H1 H3 f us ∧ (∀ u ∈ us, u.Ok m) ∧ us.Nodup ∧ (∀ u ∈ us, u.room ≤ (U : Int) + (i : Int) ∧ u.sign ≠ "c" ∧ (u.room = 1 + (U : Int) → u.sign = "b")) ∧ us.length = 2 + U + i)
      ⟨_, us, rfl, wl, ok, nd', fun u hu => ⟨by have := (pr u hu).1; omega, (pr u hu).2, fun z => by have := (pr u hu).1; omega⟩, len⟩ ?_ ?_
    · clear wl ok nd' pr len
      rintro i σ H3 hi ⟨k, us, rfl, wl, ok, nd', pr, len⟩
      rw [Int.toNat_natCast] at hi
      walk_at "rd"
      refine ⟨wl.ty (Ext.rfl' _), ?_⟩
      walk_at "rd"
      refine ⟨small_line (by simp), rd_new fun t1 H6 e6 ht1 _ => ?_⟩
      walk_at "rd"
      refine rd_ixL (SqL.of (e6 _ _ (wl.ext _ _ hd))) g3 ?_
      obtain ⟨x3, hx3, ax3⟩ := two_at (a := V.str "up") (b := V.str "down") b30 b31
      refine rd_ixL (SqL.of ht1) hx3 ?_
      walk_at "rd"
      obtain ⟨z3, rfl, oz3⟩ : ∃ z, x3 = .str z ∧ okDeed z := by
        rcases ax3 with rfl | rfl
        · exact ⟨_, rfl, okU⟩
        · exact ⟨_, rfl, okDn⟩
      try refine rd_I (show (0 : Int) < (D : Int) by omega) ?_
      walk_at "rd"
      refine ⟨small_line (by simp), rd_new fun v H4 e4 hv _ => ?_⟩
      walk_at "rd"
      have r0 : 0 ≤ (0 + (i : Int) + 1) % (D : Int) := Int.emod_nonneg _ (by omega)
      have r1 : (0 + (i : Int) + 1) % (D : Int) < D := Int.emod_lt_of_pos _ (by omega)
      obtain ⟨xs, hx, hlx, wl'⟩ := wl.push (w := ⟨1 + (U : Int) + (0 + (i : Int)), z3, 1 + (U : Int) + (0 + (i : Int) + 1) % (D : Int), "b"⟩) hfn0 (e6.trans e4) hv
      refine rd_append hx (line16 (by omega)) ?_
      walk_at "rd"
      refine ⟨_, _, rfl, wl', all_snoc ok ⟨by show 0 ≤ 1 + (U : Int) + (0 + (i : Int)); omega, by show 1 + (U : Int) + (0 + (i : Int)) < m; omega, by show 0 ≤ 1 + (U : Int) + (0 + (i : Int) + 1) % (D : Int); omega, by show 1 + (U : Int) + (0 + (i : Int) + 1) % (D : Int) < m; omega, oz3, sgB⟩, nodup_snoc nd' fun z => ?_, all_snocP (fun u hu => ⟨by have := (pr u hu).1; omega, (pr u hu).2⟩) ⟨by show 1 + (U : Int) + (0 + (i : Int)) ≤ _; omega, ne_bc, fun _ => rfl⟩, by simp [len]; omega⟩
      have := (pr _ z).1
      have : 1 + (U : Int) + (0 + (i : Int)) ≤ (U : Int) + (i : Int) := this
      omega
    clear wl ok nd' pr len
    rintro σ H3 ⟨k, us, rfl, wl, ok, nd', pr, len⟩
    rw [Int.toNat_natCast] at pr len
    walk_at "rd"
    -- (1, stay, m - 1, c)
    refine ⟨wl.ty (Ext.rfl' _), ?_⟩
    walk_at "rd"
    refine ⟨small_line (by simp), rd_new fun v H4 e4 hv _ => ?_⟩
    walk_at "rd"
    obtain ⟨xs, hx, hlx, wl2⟩ := wl.push (w := ⟨1, "stay", m - 1, "c"⟩) hfn0 e4 hv
    have ok2 := all_snoc ok (w := ⟨1, "stay", m - 1, "c"⟩) ⟨by show (0 : Int) ≤ 1; decide, by show (1 : Int) < m; omega, by show 0 ≤ m - 1; omega, by show m - 1 < m; omega, okS, sgC⟩
    have nd2 := nodup_snoc nd' (w := ⟨1, "stay", m - 1, "c"⟩) fun z => (pr _ z).2.1 rfl
    have pr2 := all_snocP (P := fun u => u.room ≤ (U : Int) + (D : Int) ∧ (u.room = 1 + (U : Int) → u.sign = "b")) (fun u hu => ⟨(pr u hu).1, (pr u hu).2.2⟩) (w := ⟨1, "stay", m - 1, "c"⟩) ⟨by show (1 : Int) ≤ _; omega, fun z => by have : (1 : Int) = 1 + (U : Int) := z; omega⟩
    refine rd_append hx (line16 (by omega)) ?_
    generalize upd H4 f _ = H5 at wl2 ⊢
    generalize hus2 : us ++ [_] = us2 at wl2 ok2 nd2 pr2
    have len2 : us2.length = 3 + U + D := by rw [← hus2]; simp [len]; omega
    clear hus2 hx hlx hv e4 wl ok nd' pr len
    walk_at "rd"
    -- (1 + U, stay, m - 1, a)
    refine ⟨wl2.ty (Ext.rfl' _), ?_⟩
    walk_at "rd"
    refine ⟨small_line (by simp), rd_new fun v H4 e4 hv _ => ?_⟩
    walk_at "rd"
    obtain ⟨xs, hx, hlx, wl3⟩ := wl2.push (w := ⟨1 + (U : Int), "stay", m - 1, "a"⟩) hfn0 e4 hv
    have ok3 := all_snoc ok2 (w := ⟨1 + (U : Int), "stay", m - 1, "a"⟩) ⟨by show (0 : Int) ≤ 1 + (U : Int); omega, by show 1 + (U : Int) < m; omega, by show 0 ≤ m - 1; omega, by show m - 1 < m; omega, okS, sgA⟩
    have nd3 := nodup_snoc nd2 (w := ⟨1 + (U : Int), "stay", m - 1, "a"⟩) fun z => ne_ab ((pr2 _ z).2 rfl)
    have pr3 := all_snocP (P := fun u => u.room ≤ (U : Int) + (D : Int)) (fun u hu => (pr2 u hu).1) (w := ⟨1 + (U : Int), "stay", m - 1, "a"⟩) (by show 1 + (U : Int) ≤ _; omega)
    refine rd_append hx (line16 (by omega)) ?_
    generalize upd H4 f _ = H6 at wl3 ⊢
    generalize hus3 : us2 ++ [_] = us3 at wl3 ok3 nd3 pr3
    have len3 : us3.length = 4 + U + D := by rw [← hus3]; simp [len2]; omega
    clear hus3 hx hlx hv e4 wl2 ok2 nd2 pr2 len2
    walk_at "rd"
    -- the two that may be left out
    refine rd_ifJ (fun σ' H' => ∃ (k : Option V) (us : List Way), σ' = [some (.int c), some (.int p), some (.ref dq), some (.int U), some (.int D), some (.int m), some (.ref f), k] ∧ WL H1 H' f us ∧ (∀ u ∈ us, u.Ok m) ∧ us.Nodup ∧ (∀ u ∈ us, u.room ≤ (U : Int) + (D : Int) ∨ u.sign = "c") ∧ us.length ≤ 5 + U + D) ?_ ?_
    · walk_at "rd"
      refine rd_ixL (SqL.of (wl3.ext _ _ hd)) g4 ?_
      walk_at "rd"
      refine ite2 (fun h => ?_) (fun h => ?_)
      · walk_at "rd"
        refine ⟨wl3.ty (Ext.rfl' _), ?_⟩
        walk_at "rd"
        refine ⟨small_line (by simp), rd_new fun v H4 e4 hv _ => ?_⟩
        walk_at "rd"
        obtain ⟨xs, hx, hlx, wl4⟩ := wl3.push (w := ⟨m - 1, "down", m - 1, "c"⟩) hfn0 e4 hv
        refine rd_append hx (line16 (by omega)) ?_
        walk_at "rd"
        exact ⟨_, _, rfl, wl4, all_snoc ok3 ⟨by show 0 ≤ m - 1; omega, by show m - 1 < m; omega, by show 0 ≤ m - 1; omega, by show m - 1 < m; omega, okDn, sgC⟩, nodup_snoc nd3 fun z => by have : m - 1 ≤ (U : Int) + (D : Int) := pr3 _ z; omega, all_snocP (fun u hu => .inl (pr3 u hu)) (.inr rfl), by simp [len3]; omega⟩
      · walk_at "rd"
        exact ⟨_, us3, rfl, wl3, ok3, nd3, fun u hu => .inl (pr3 u hu), by omega⟩
    clear wl3 ok3 nd3 pr3 len3
    rintro σ' H7 ⟨k, us, rfl, wl, ok, nd', pr, len⟩
    walk_at "rd"
    refine rd_ifJ (fun σ' H' => ∃ (k : Option V) (us : List Way), σ' = [some (.int c), some (.int p), some (.ref dq), some (.int U), some (.int D), some (.int m), some (.ref f), k] ∧ WL H1 H' f us ∧ (∀ u ∈ us, u.Ok m) ∧ us.Nodup ∧ us.length ≤ 6 + U + D) ?_ ?_
    · walk_at "rd"
      refine rd_ixL (SqL.of (wl.ext _ _ hd)) g5 ?_
      walk_at "rd"
      refine ite2 (fun h => ?_) (fun h => ?_)
      · walk_at "rd"
        refine ⟨wl.ty (Ext.rfl' _), ?_⟩
        walk_at "rd"
        refine ⟨small_line (by simp), rd_new fun v H4 e4 hv _ => ?_⟩
        walk_at "rd"
        obtain ⟨xs, hx, hlx, wl4⟩ := wl.push (w := ⟨m - 1, "zero", 0, "b"⟩) hfn0 e4 hv
        refine rd_append hx (line16 (by omega)) ?_
        walk_at "rd"
        exact ⟨_, _, rfl, wl4, all_snoc ok ⟨by show 0 ≤ m - 1; omega, by show m - 1 < m; omega, by show (0 : Int) ≤ 0; decide, by show (0 : Int) < m; omega, okZ, sgB⟩, nodup_snoc nd' (fun z => (pr _ z).elim (fun y => by have : m - 1 ≤ (U : Int) + (D : Int) := y; omega) fun y => ne_bc y), by simp; omega⟩
      · walk_at "rd"
        exact ⟨_, us, rfl, wl, ok, nd', by omega⟩
    clear wl ok nd' pr len
    rintro σ' H8 ⟨k, us, rfl, wl, ok, nd', len⟩
    walk_at "rd"
    -- backward or not
    refine rd_ifJ (fun σ' H' => ∃ (k : Option V) (f : Addr) (cs : List Addr) (us : List Way), σ' = [some (.int c), some (.int p), some (.ref dq), some (.int U), some (.int D), some (.int m), some (.ref f), k] ∧ Ext H1 H' ∧ H' f = some (.lst (cs.map V.ref)) ∧ AlW H' cs us ∧ (∀ u ∈ us, u.Ok m) ∧ us.Nodup ∧ us.length ≤ 6 + U + D) ?_ ?_
    · walk_at "rd"
      refine rd_ixL (SqL.of (wl.ext _ _ hd)) g6 ?_
      walk_at "rd"
      obtain ⟨ew, cs, hcs, al⟩ := wl
      refine ite2 (fun h => ?_) (fun h => ?_)
      · walk_at "rd"
        refine ⟨rfl, rd_revLL (SqL.of hcs) (rd_new fun r H9 e9 hr9 _ => ?_)⟩
        walk_at "rd"
        exact ⟨_, r, cs.reverse, us.reverse, rfl, ew.trans e9, by rw [hr9, List.map_reverse], (al.ext e9).rev, fun u hu => ok u (List.mem_reverse.mp hu), List.pairwise_reverse.mpr (nd'.imp fun h => Ne.symm h), by rw [List.length_reverse]; omega⟩
      · walk_at "rd"
        exact ⟨_, f, cs, us, rfl, ew, hcs, al, ok, nd', by omega⟩
    clear wl ok nd' len
    rintro σ' H9 ⟨k, g, cs, us, rfl, ew, hcs, al, ok, nd', len⟩
    walk_at "rd"
    refine rd_tupL (SqL.of hcs) (rd_new fun r I1 i1 hr1 _ => ?_)
    walk_at "rd"
    refine ⟨small_line (by simp), rd_new fun t I2 i2 ht _ => ?_⟩
    exact q _ m us I2 (eH.trans (ew.trans (i1.trans i2))) (HouseAt.mk ht (((al.ext i1).ways hr1).ext i2)) ⟨by omega, by omega, by omega, ok, nd'⟩
end My
set_option Elab.async false
set_option linter.all false
set_option maxRecDepth 100000
namespace My
open PySem L2 St
set_option maxHeartbeats 4000000
local macro_rules | `(tactic| walk_at "cond") => `(tactic| first | decide | omega | (dsimp only; omega) | (unfold CMul; omega) | (unfold CPow; exact ⟨by decide, by decide, by decide⟩) | (dsimp only; exact ⟨by omega, by omega⟩) | exact .inr ⟨by decide, by decide⟩ | exact .inl ⟨by decide, by decide⟩ | (unfold SmallR; omega))
local macro_rules | `(tactic| walk_at "sq") => `(tactic| first | assumption | exact SqL.of (by assumption) | exact SqT.of (by assumption) | exact SqL.of (by solve_by_elim) | exact SqT.of (by solve_by_elim) | solve_by_elim)
local macro_rules | `(tactic| walk_at "rd") => do
  let ts ← ("seq ret retN asg drop ifS next name var c op un CB cons nil ints test B exb not and or andV orV notV ifE yes I0 I U EqI NeI EqB NeB call BM tup lst sl noPart part exi chain comp iL iT i1 i2 i3 for tTru intB max2 min2 sub gcons gnil aug ipI zip rev par par2 lam calV raise fs try bseq bnext bplain bif bcall enum gget gin revL leS disp dget lrev disp1 din dnin dput min3 iS iD bm0 revS".splitOn " ").toArray.mapM fun n =>
    let i := Lean.mkIdent (.mkSimple ("rd_" ++ n))
    if n == "var" || n == "aug" then `(tacticSeq| ((with_reducible apply $i); (exact rfl)))
    else if n == "I" then `(tacticSeq| ((with_reducible apply $i); (walk_at "cond")))
    else `(tacticSeq| with_reducible refine $i ?_)
  `(tactic| repeat (first $[| $ts]* | dsimp only))
def sp__law_house (K : PySem.W.Frag) : Sp := fun vs H Q _ => ∃ c p, vs = [.int c, .int p] ∧ 0 < p ∧ ∀ v m ws H', Ext H H' → HouseAt H' v m ws → HOuse m ws → Q v H'
abbrev s__law_house : Stmt := top 21
theorem sc__law_house : FnScope ["_law_cell_here", "_law_prime", "_law_kind", "_law_left"] ["_law_cell_here", "_law_prime"] (defScope s__law_house) := ⟨rfl, rfl, rfl, by decide +kernel, rfl, by decide +kernel, by decide +kernel⟩
theorem ok__law_house {P : Program} {w : World} {K : PySem.W.Frag} {mg : Str → Option Value} {base : Heap} (D : Dfn K mg "_law_house" s__law_house ["_law_cell_here", "_law_prime"]) (T : Blt mg) (C__law_drawn_house : Cal P w K mg base "_law_drawn_house" 3 ["_law_cell_here", "_law_prime"] (sp__law_drawn_house K)) (C__law_gate_house : Cal P w K mg base "_law_gate_house" 3 ["_law_cell_here", "_law_prime"] (sp__law_gate_house K)) (C__law_ring_house : Cal P w K mg base "_law_ring_house" 3 ["_law_cell_here", "_law_prime"] (sp__law_ring_house K)) (C__law_spare : Cal P w K mg base "_law_spare" 1 ["_law_cell_here", "_law_width"] (sp__law_spare K)) (C__law_draws : Cal P w K mg base "_law_draws" 2 ["_law_cell_here", "_law_widths", "_law_prime"] (sp__law_draws K)) : Cal P w K mg base "_law_house" 4 ["_law_cell_here", "_law_prime"] (sp__law_house K) := by
  have nd := (sc__law_house).nd
  refine D.ok sc__law_house (fun vs H Q E h => ?_) (fun X hX H vs Q E h => ?_)
  · obtain ⟨c, p, rfl, _⟩ := h; rfl
  · obtain ⟨f, cdv, A, outer, s, H0, E0, rfl, hr⟩ := hX
    obtain ⟨c, p, rfl, hp, q⟩ := h
    refine ⟨_, (no_implicit_lambda% (pss_cons (no_implicit_lambda% (ps_set (i := 2) nd rfl (Or.inl rfl) (no_implicit_lambda% (pe_ix (ix_listK K) (no_implicit_lambda% (pe_cal C__law_draws hr (no_implicit_lambda% (pa_cons (no_implicit_lambda% (pv 0)) (no_implicit_lambda% (pa_cons (no_implicit_lambda% (pe_lst (no_implicit_lambda% (pa_cons pe_int pa_nil)))) (no_implicit_lambda% (pa_cons (no_implicit_lambda% (pv 1)) pa_nil)))))))) pe_int (fun _ _ => rfl)))))
        (no_implicit_lambda% (pss_cons (no_implicit_lambda% (ps_set (i := 3) nd rfl (Or.inl rfl) (no_implicit_lambda% (pe_cal C__law_spare hr (no_implicit_lambda% (pa_cons (no_implicit_lambda% (pv 0)) (no_implicit_lambda% (pa_cons pe_int pa_nil))))))))
        (no_implicit_lambda% (pss_cons (no_implicit_lambda% (ps_if (no_implicit_lambda% (pt_cmpR op_eq (no_implicit_lambda% (pv 2)) pe_int (nomark _))) (no_implicit_lambda% (pss_one (no_implicit_lambda% (ps_ret (no_implicit_lambda% (pe_cal C__law_ring_house hr (no_implicit_lambda% (pa_cons (no_implicit_lambda% (pv 3)) (no_implicit_lambda% (pa_cons (no_implicit_lambda% (pv 1)) pa_nil)))))))))) pss_nil))
        (no_implicit_lambda% (pss_cons (no_implicit_lambda% (ps_if (no_implicit_lambda% (pt_cmpR op_eq (no_implicit_lambda% (pv 2)) pe_int (nomark _))) (no_implicit_lambda% (pss_one (no_implicit_lambda% (ps_ret (no_implicit_lambda% (pe_cal C__law_gate_house hr (no_implicit_lambda% (pa_cons (no_implicit_lambda% (pv 3)) (no_implicit_lambda% (pa_cons (no_implicit_lambda% (pv 1)) pa_nil)))))))))) pss_nil))
        (no_implicit_lambda% (pss_one (no_implicit_lambda% (ps_ret (no_implicit_lambda% (pe_cal C__law_drawn_house hr (no_implicit_lambda% (pa_cons (no_implicit_lambda% (pv 3)) (no_implicit_lambda% (pa_cons (no_implicit_lambda% (pv 1)) pa_nil)))))))))))))))))), ?_⟩
    walk_at "rd"
    refine ⟨small_line (by simp), rd_new fun w0 G1 f1 hw0 _ => ?_⟩
    walk_at "rd"
    refine ⟨c, w0, [8], p, rfl, hw0, by decide, by decide, hp, fun dq ds H1 e1 hd hdn hl hb => ?_⟩
    have eH : Ext H H1 := f1.trans e1
    obtain ⟨d0, g0, _⟩ := draws_at hl hb 0 rfl
    walk_at "rd"
    refine rd_ixL (SqL.of hd) g0 ?_
    walk_at "rd"
    refine ⟨c, 8, rfl, by decide, by decide, fun z => ?_⟩
    walk_at "rd"
    refine ite2 (fun h => ?_) (fun h => ?_)
    · walk_at "rd"
      exact ⟨z, p, rfl, hp, fun v m ws H' e hv ok => q v m ws H' (eH.trans e) hv ok⟩
    · walk_at "rd"
      refine ite2 (fun h => ?_) (fun h => ?_)
      · walk_at "rd"
        exact ⟨z, p, rfl, hp, fun v m ws H' e hv ok => q v m ws H' (eH.trans e) hv ok⟩
      · walk_at "rd"
        exact ⟨z, p, rfl, hp, fun v m ws H' e hv ok => q v m ws H' (eH.trans e) hv ok⟩
end My
set_option Elab.async false
set_option linter.all false
set_option maxRecDepth 100000
namespace My
open PySem L2 St
set_option maxHeartbeats 4000000
local macro_rules | `(tactic| walk_at "cond") => `(tactic| first | decide | omega | (dsimp only; omega) | (unfold CMul; omega) | (unfold CPow; exact ⟨by decide, by decide, by decide⟩) | (dsimp only; exact ⟨by omega, by omega⟩) | exact .inr ⟨by decide, by decide⟩ | exact .inl ⟨by decide, by decide⟩ | (unfold SmallR; omega))
local macro_rules | `(tactic| walk_at "sq") => `(tactic| first | assumption | exact SqL.of (by assumption) | exact SqT.of (by assumption) | exact SqL.of (by solve_by_elim) | exact SqT.of (by solve_by_elim) | solve_by_elim)
local macro_rules | `(tactic| walk_at "rd") => do
  let ts ← ("seq ret retN asg drop ifS next name var c op un CB cons nil ints test B exb not and or andV orV notV ifE yes I0 I U EqI NeI EqB NeB call BM tup lst sl noPart part exi chain comp iL iT i1 i2 i3 for tTru intB max2 min2 sub gcons gnil aug ipI zip rev par par2 lam calV raise fs try bseq bnext bplain bif bcall enum gget gin revL leS disp dget lrev disp1 din dnin dput min3 iS iD bm0 revS".splitOn " ").toArray.mapM fun n =>
    let i := Lean.mkIdent (.mkSimple ("rd_" ++ n))
    if n == "var" || n == "aug" then `(tacticSeq| ((with_reducible apply $i); (exact rfl)))
    else if n == "I" then `(tacticSeq| ((with_reducible apply $i); (walk_at "cond")))
    else `(tacticSeq| with_reducible refine $i ?_)
  `(tactic| repeat (first $[| $ts]* | dsimp only))
def deedN : Nat → Str
  | 0 => "up"
  | 1 => "down"
  | 2 => "stay"
  | _ => "zero"
theorem deedN_ok (k : Nat) : okDeed (deedN k) := by
  unfold deedN
  split
  · exact .inl rfl
  · exact .inr (.inl rfl)
  · exact .inr (.inr (.inl rfl))
  · exact .inr (.inr (.inr rfl))
theorem deedN_inj : ∀ i j : Fin 4, deedN i.1 = deedN j.1 → i = j := by decide +kernel
def wk (f : Int) (k : Nat) : Way := ⟨(0 + (k : Int)) / 4 % 12, deedN (k % 4), ((0 + (k : Int)) / 4 / 12 + f) % 12, ⟨#[97 + k / 4 / 12 % 10]⟩⟩
theorem wk_ok {f : Int} (k : Nat) : (wk f k).Ok 12 :=
  ⟨Int.emod_nonneg _ (by decide), Int.emod_lt_of_pos _ (by decide), Int.emod_nonneg _ (by decide), Int.emod_lt_of_pos _ (by decide), deedN_ok _, _, by omega, by omega, rfl⟩
theorem wk_inj {f : Int} {a b : Nat} (ha : a < 101) (hb : b < 101) (h : wk f a = wk f b) : a = b := by
  unfold wk at h
  simp only [Way.mk.injEq] at h
  obtain ⟨h1, h2, _, h4⟩ := h
  have e2 := deedN_inj ⟨a % 4, by omega⟩ ⟨b % 4, by omega⟩ h2
  have e2 : a % 4 = b % 4 := congrArg Fin.val e2
  have e4 : 97 + a / 4 / 12 % 10 = 97 + b / 4 / 12 % 10 := by
    have := congrArg (fun z : Str => z.cps[0]?) h4
    simpa using this
  omega
theorem pick_dn (k : Nat) : atI [V.str (Str.ofString "up"), V.str (Str.ofString "down"), V.str (Str.ofString "stay"), V.str (Str.ofString "zero")] ((0 + (k : Int)) % 4) = some (.str (deedN (k % 4))) := by
  have e : (0 + (k : Int)) % 4 = ((k % 4 : Nat) : Int) := by omega
  rw [e]
  have : k % 4 = 0 ∨ k % 4 = 1 ∨ k % 4 = 2 ∨ k % 4 = 3 := by omega
  rcases this with h | h | h | h <;> rw [h] <;> rfl
theorem aj_list : (Str.ofString "abcdefghij").cps.toList = List.range' 97 10 := by decide +kernel
theorem pick_aj (k : Nat) : atI (Str.ofString "abcdefghij").cps.toList ((0 + (k : Int)) / 4 / 12 % 10) = some (97 + k / 4 / 12 % 10) := by
  have e : (0 + (k : Int)) / 4 / 12 % 10 = ((k / 4 / 12 % 10 : Nat) : Int) := by omega
  rw [aj_list, e]
  refine atI_of (Int.natCast_nonneg _) ?_
  rw [Int.toNat_natCast, List.getElem?_range' (by omega)]
  congr 1
  omega
theorem lift_keys {ds : List (List Key)} (h : ∀ k ∈ ds, ∃ w : Way, k = w.key ∧ w.Ok 12) : ∃ ws : List Way, ds = ws.map Way.key ∧ ∀ w ∈ ws, w.Ok 12 := by
  induction ds with
  | nil => exact ⟨[], rfl, fun w hw => by cases hw⟩
  | cons d ds ih =>
    obtain ⟨ws, e, h1⟩ := ih fun k hk => h k (List.mem_cons_of_mem _ hk)
    obtain ⟨w, rfl, hw⟩ := h d List.mem_cons_self
    refine ⟨w :: ws, by rw [e]; rfl, fun u hu => ?_⟩
    rcases List.mem_cons.mp hu with rfl | hu
    · exact hw
    · exact h1 u hu
theorem keys_nodup {ws : List Way} (h : (ws.map Way.key).Nodup) : ws.Nodup := by
  unfold List.Nodup at h ⊢
  rw [List.pairwise_map] at h
  exact h.imp fun ne e => ne (by rw [e])
theorem first_nodup (f : Int) : (((List.range 101).map (wk f)).map Way.key).Nodup := by
  unfold List.Nodup
  rw [List.pairwise_map, List.pairwise_map]
  have : (List.range 101).Pairwise (fun a b => a < b ∧ b < 101) := by
    rw [List.pairwise_iff_getElem]
    intro i j hi hj hij
    rw [List.length_range] at hi hj
    rw [List.getElem_range, List.getElem_range]
    exact ⟨hij, hj⟩
  exact this.imp fun ⟨h1, h2⟩ e => Nat.ne_of_lt h1 (wk_inj (by omega) h2 (Way.key_inj e))
def sp__law_many_ways (K : PySem.W.Frag) : Sp := fun vs H Q _ => ∃ f, vs = [.int 12, .int f] ∧ ∀ (t : Addr) H' (ws : List Way), Ext H H' → WaysAt H' t (ws.map Way.key) → 101 ≤ ws.length → ws.length ≤ 1300 → ws.Nodup → (∀ w ∈ ws, w.Ok 12) → Q (.ref t) H'
abbrev s__law_many_ways : Stmt := top 25
theorem sc__law_many_ways : FnScope ["_law_many", "_law_first", "_law_found", "_law_k", "_law_deed"] ["_law_many", "_law_first"] (defScope s__law_many_ways) := ⟨rfl, rfl, rfl, by decide +kernel, rfl, by decide +kernel, by decide +kernel⟩
theorem ok__law_many_ways {P : Program} {w : World} {K : PySem.W.Frag} {mg : Str → Option Value} {base : Heap} (D : Dfn K mg "_law_many_ways" s__law_many_ways ["_law_many", "_law_first"]) (T : Blt mg) : Cal P w K mg base "_law_many_ways" 1 ["_law_many", "_law_first"] (sp__law_many_ways K) := by
  have nd := (sc__law_many_ways).nd
  refine D.ok sc__law_many_ways (fun vs H Q E h => ?_) (fun X hX H vs Q E h => ?_)
  · obtain ⟨f, rfl, _⟩ := h; rfl
  · obtain ⟨f, cdv, A, outer, s, H0, E0, rfl, hr⟩ := hX
    obtain ⟨f, rfl, q⟩ := h
    refine ⟨_, (no_implicit_lambda% (pss_cons (no_implicit_lambda% (ps_set (i := 2) nd rfl (Or.inl rfl) (no_implicit_lambda% (pe_lst pa_nil))))
        (no_implicit_lambda% (pss_cons (no_implicit_lambda% (ps_for PassesOwn.never rfl (no_implicit_lambda% (pi_range1 rfl T.range_ (no_implicit_lambda% (pa_cons pe_int pa_nil)))) (no_implicit_lambda% (pg_name (i := 3) nd rfl (Or.inl rfl))) (no_implicit_lambda% (pss_cons (no_implicit_lambda% (ps_set (i := 4) nd rfl (Or.inl rfl) (no_implicit_lambda% (pe_ix (ix_listK K) (no_implicit_lambda% (pe_lst (no_implicit_lambda% (pa_cons pe_str (no_implicit_lambda% (pa_cons pe_str (no_implicit_lambda% (pa_cons pe_str (no_implicit_lambda% (pa_cons pe_str pa_nil)))))))))) (no_implicit_lambda% (pe_op op_mod (no_implicit_lambda% (pv 3)) pe_int)) (fun _ _ => rfl)))))
        (no_implicit_lambda% (pss_one (no_implicit_lambda% (ps_expr (no_implicit_lambda% (pe_bmK K PySem.F.plainAttrs_list PySem.F.slot_list_append PySem.F.type_list_append mt_append (no_implicit_lambda% (pv 2)) (no_implicit_lambda% (pa_cons (no_implicit_lambda% (pe_tup (no_implicit_lambda% (pa_cons (no_implicit_lambda% (pe_op op_mod (no_implicit_lambda% (pe_op op_fdivL (no_implicit_lambda% (pv 3)) pe_int)) (no_implicit_lambda% (pv 0)))) (no_implicit_lambda% (pa_cons (no_implicit_lambda% (pv 4)) (no_implicit_lambda% (pa_cons (no_implicit_lambda% (pe_op op_mod (no_implicit_lambda% (pe_op op_add (no_implicit_lambda% (pe_op op_fdivL (no_implicit_lambda% (pe_op op_fdivL (no_implicit_lambda% (pv 3)) pe_int)) (no_implicit_lambda% (pv 0)))) (no_implicit_lambda% (pv 1)))) (no_implicit_lambda% (pv 0)))) (no_implicit_lambda% (pa_cons (no_implicit_lambda% (pe_ix ix_str pe_str (no_implicit_lambda% (pe_op op_mod (no_implicit_lambda% (pe_op op_fdivL (no_implicit_lambda% (pe_op op_fdivL (no_implicit_lambda% (pv 3)) pe_int)) (no_implicit_lambda% (pv 0)))) pe_int)) (fun _ _ => rfl))) pa_nil)))))))))) pa_nil))))))))))))
        (no_implicit_lambda% (pss_one (no_implicit_lambda% (ps_ret (no_implicit_lambda% (pe_callTy (call_tupK K) rfl T.tuple_ PyProof.Rows.boot_tuple (no_implicit_lambda% (pa_cons (no_implicit_lambda% (pe_callB (call_sortD hr) rfl T.sorted_ PyProof.Rows.boot_sorted (no_implicit_lambda% (pa_cons (no_implicit_lambda% (pe_callTy (call_setD hr) rfl T.set_ PyProof.Rows.boot_set (no_implicit_lambda% (pa_cons (no_implicit_lambda% (pv 2)) pa_nil)))) pa_nil)))) pa_nil)))))))))))), ?_⟩
    walk_at "rd"
    refine ⟨small_line (by simp), rd_new fun l H1 e1 hl hln => ?_⟩
    walk_at "rd"
    refine rd_i1x (by decide) ?_
    refine forR (fun i σ H3 => ∃ (k d : Option V), σ = [some (.int 12), some (.int f), some (.ref l), k, d] ∧ WL H H3 l ((List.range i).map (wk f))) ⟨none, none, rfl, WL.nil e1 hl⟩ ?_ ?_
    · rintro i σ H3 hi ⟨k, d, rfl, wl⟩
      walk_at "rd"
      refine ⟨small_line (by simp), rd_new fun dl H4 e4 hdl _ => ?_⟩
      walk_at "rd"
      refine rd_ixL (SqL.of hdl) (pick_dn i) ?_
      walk_at "rd"
      refine ⟨wl.ty e4, ?_⟩
      walk_at "rd"
      refine ⟨_, _, _, rfl, rfl, small9 (by decide +kernel), pick_aj i, ?_⟩
      walk_at "rd"
      refine ⟨small_line (by simp), rd_new fun v H5 e5 hv _ => ?_⟩
      walk_at "rd"
      obtain ⟨xs, hx, hlx, wl'⟩ := wl.push (w := wk f i) hln (e4.trans e5) hv
      refine rd_append hx (Nat.lt_of_le_of_lt (show xs.length ≤ 10000 by rw [hlx, List.length_map, List.length_range]; omega) (by decide)) ?_
      walk_at "rd"
      refine ⟨_, _, rfl, ?_⟩
      rw [List.range_succ, List.map_append]
      exact wl'
    · rintro σ H3 ⟨k, d, rfl, wl⟩
      obtain ⟨e3, bs, hbs, hal⟩ := wl
      have hN : (1300 : Int).toNat = 1300 := rfl
      rw [hN] at hal
      have hkeys : KeysAt H3 bs (((List.range 1300).map (wk f)).map Way.key) := by
        refine ⟨by rw [List.length_map]; exact hal.1, fun j b k e1 e2 => ?_⟩
        rw [List.getElem?_map] at e2
        obtain ⟨w', hw', rfl⟩ := Option.map_eq_some_iff.mp e2
        exact hal.2 j b w' e1 hw'
      walk_at "rd"
      refine ⟨l, bs, _, rfl, .inr hbs, hkeys, by rw [List.length_map, List.length_map, List.length_range]; decide, fun sl L hsl hnd hmem hL => ?_⟩
      have h1 : L.length ≤ 1300 := by
        have := len_le hnd fun k hk => (hmem k).mp hk
        rwa [List.length_map, List.length_map, List.length_map, List.length_range] at this
      have h2 : 101 ≤ L.length := by
        have := len_le (l := L.map Prod.snd) (first_nodup f) fun k hk => (hmem k).mpr (by
          obtain ⟨w', hw', rfl⟩ := List.mem_map.mp hk
          obtain ⟨i, hi, rfl⟩ := List.mem_map.mp hw'
          exact List.mem_map.mpr ⟨_, List.mem_map.mpr ⟨i, List.mem_range.mpr (Nat.lt_trans (List.mem_range.mp hi) (by decide)), rfl⟩, rfl⟩)
        rwa [List.length_map, List.length_map, List.length_map, List.length_range] at this
      have hof : ∀ k ∈ L.map Prod.snd, ∃ w' : Way, k = w'.key ∧ w'.Ok 12 := fun k hk => by
        obtain ⟨w', hw', rfl⟩ := List.mem_map.mp ((hmem k).mp hk)
        obtain ⟨i, hi, rfl⟩ := List.mem_map.mp hw'
        exact ⟨_, rfl, wk_ok i⟩
      walk_at "rd"
      have eS := ext_upd (o := setK P w sl L) hsl
      refine ⟨sl, L, rfl, upd_same, hnd, fun x hx => ⟨?_, eS _ _ (hL x hx)⟩, by omega, by omega, fun sl2 bs2 ds hs2 hdp hk2 => ?_⟩
      · obtain ⟨w', e, _⟩ := hof x.2 (List.mem_map.mpr ⟨x, hx, rfl⟩)
        rw [e]
        exact ⟨_, _, _, _, rfl⟩
      · walk_at "rd"
        have eT := ext_upd (o := .lst (bs2.map V.ref)) hs2
        refine rd_tupL (SqL.of upd_same) (rd_new fun t H6 e6 ht _ => ?_)
        obtain ⟨ws, ews, hok⟩ := lift_keys fun k hk => hof k (hdp.mem_iff.mp hk)
        have hwl : ws.length = L.length := by
          have := hdp.length_eq
          rwa [ews, List.length_map, List.length_map] at this
        refine q t H6 ws (e3.trans (eS.trans (eT.trans e6))) ?_ (by omega) (by omega) (keys_nodup (by rw [← ews]; exact hdp.nodup_iff.mpr hnd)) hok
        rw [ews] at hk2
        have hk6 := hk2.ext (eT.trans e6)
        exact ⟨bs2, ht, hk6.1, hk6.2⟩
end My
set_option Elab.async false
set_option linter.all false
set_option maxRecDepth 100000
namespace My
open PySem L2 St
set_option maxHeartbeats 4000000
local macro_rules | `(tactic| walk_at "cond") => `(tactic| first | decide | omega | (dsimp only; omega) | (unfold CMul; omega) | (unfold CPow; exact ⟨by decide, by decide, by decide⟩) | (dsimp only; exact ⟨by omega, by omega⟩) | exact .inr ⟨by decide, by decide⟩ | exact .inl ⟨by decide, by decide⟩ | (unfold SmallR; omega))
local macro_rules | `(tactic| walk_at "sq") => `(tactic| first | assumption | exact SqL.of (by assumption) | exact SqT.of (by assumption) | exact SqL.of (by solve_by_elim) | exact SqT.of (by solve_by_elim) | solve_by_elim)
local macro_rules | `(tactic| walk_at "rd") => do
  let ts ← ("seq ret retN asg drop ifS next name var c op un CB cons nil ints test B exb not and or andV orV notV ifE yes I0 I U EqI NeI EqB NeB call BM tup lst sl noPart part exi chain comp iL iT i1 i2 i3 for tTru intB max2 min2 sub gcons gnil aug ipI zip rev par par2 lam calV raise fs try bseq bnext bplain bif bcall enum gget gin revL leS disp dget lrev disp1 din dnin dput min3 iS iD bm0 revS".splitOn " ").toArray.mapM fun n =>
    let i := Lean.mkIdent (.mkSimple ("rd_" ++ n))
    if n == "var" || n == "aug" then `(tacticSeq| ((with_reducible apply $i); (exact rfl)))
    else if n == "I" then `(tacticSeq| ((with_reducible apply $i); (walk_at "cond")))
    else `(tacticSeq| with_reducible refine $i ?_)
  `(tactic| repeat (first $[| $ts]* | dsimp only))
def Ths (H : Hp) (n : Nat) (xs : List V) : Prop := ∀ x ∈ xs, Thg H n x
theorem Ths.ext {H H' : Hp} {n : Nat} {xs : List V} (e : Ext H H') (h : Ths H n xs) : Ths H' n xs := fun x hx => (h x hx).ext e
theorem Ths.cut {H : Hp} {n : Nat} {xs : List V} {lo hi : Option Int} (h : Ths H n xs) : Ths H n (cutV xs lo hi) := fun x hx => h x (List.mem_of_mem_drop (List.mem_of_mem_take hx))
theorem Ths.app {H : Hp} {n : Nat} {xs ys : List V} (h : Ths H n xs) (h' : Ths H n ys) : Ths H n (xs ++ ys) := fun x hx => (List.mem_append.mp hx).elim (h x) (h' x)
theorem Ths.nil (H : Hp) (n : Nat) : Ths H n [] := fun x hx => by cases hx
theorem Ths.cons {H : Hp} {n : Nat} {x : V} {xs : List V} (h : Thg H n x) (h' : Ths H n xs) : Ths H n (x :: xs) := fun y hy => by
  rcases List.mem_cons.mp hy with rfl | hy
  · exact h
  · exact h' y hy
theorem thg_tup {H : Hp} {n : Nat} {p : Addr} {xs : List V} (h : H p = some (.tup xs)) (hl : xs.length ≤ 2000) (hx : Ths H n xs) : Thg H (n + 1) (.ref p) := ⟨xs, .inl h, hl, hx⟩
theorem thg_lst {H : Hp} {n : Nat} {p : Addr} {xs : List V} (h : H p = some (.lst xs)) (hl : xs.length ≤ 2000) (hx : Ths H n xs) : Thg H (n + 1) (.ref p) := ⟨xs, .inr h, hl, hx⟩
theorem Thg.up {H : Hp} : ∀ {n : Nat} {v : V}, Thg H n v → Thg H (n + 1) v := by
  intro n
  induction n with
  | zero =>
    intro v h
    cases v <;> first | exact h | exact h.elim
  | succ n ih =>
    intro v h
    cases v with
    | ref p =>
      obtain ⟨xs, h1, h2, h3⟩ := h
      exact ⟨xs, h1, h2, fun x hx => ih (h3 x hx)⟩
    | _ => exact h
theorem Ths.up {H : Hp} {n : Nat} {xs : List V} (h : Ths H n xs) : Ths H (n + 1) xs := fun x hx => (h x hx).up
theorem thg_int (H : Hp) (n : Nat) (i : Int) : Thg H n (.int i) := by cases n <;> trivial
theorem thg_non (H : Hp) (n : Nat) : Thg H n .non := by cases n <;> trivial
theorem thg_bl (H : Hp) (n : Nat) (b : Bool) : Thg H n (.bl b) := by cases n <;> trivial
theorem thg_str (H : Hp) (n : Nat) {z : Str} (h : z.length ≤ 1000) : Thg H n (.str z) := by cases n <;> exact h
theorem cut_len {xs : List V} {lo hi : Option Int} {k : Nat} (h : xs.length ≤ k) : (cutV xs lo hi).length ≤ k := Nat.le_trans (cutV_length xs lo hi) h
theorem deed_len {z : Str} (h : okDeed z) : z.length ≤ 1000 := by
  rcases h with rfl | rfl | rfl | rfl <;> decide +kernel
theorem sign_len {z : Str} (h : okSign z) : z.length ≤ 1000 := by
  obtain ⟨c, _, _, rfl⟩ := h
  show 1 ≤ 1000
  decide
theorem way_ths {H : Hp} {m : Int} {w : Way} (ok : w.Ok m) : Ths H 0 w.vs :=
  .cons (thg_int _ _ _) (.cons (thg_str _ _ (deed_len ok.dd)) (.cons (thg_int _ _ _) (.cons (thg_str _ _ (sign_len ok.sg)) (.nil _ _))))
theorem house_ths {H : Hp} {v : V} {m : Int} {ws : List Way} (h : HouseAt H v m ws) (ok : HOuse m ws) : ∃ p q bs, v = .ref p ∧ H p = some (.tup [.int m, .ref q]) ∧ H q = some (.tup (bs.map V.ref)) ∧ bs.length = ws.length ∧ AlW H bs ws ∧ Ths H 1 (bs.map V.ref) := by
  obtain ⟨p, q, rfl, h1, h2⟩ := h
  obtain ⟨bs, h3, h4⟩ := h2.al
  refine ⟨p, q, bs, rfl, h1, h3, h4.1, h4, fun x hx => ?_⟩
  obtain ⟨b, hb, rfl⟩ := List.mem_map.mp hx
  obtain ⟨j, hj, e⟩ := List.mem_iff_getElem.mp hb
  have hjw : j < ws.length := by rw [← h4.1]; exact hj
  have hw : ws[j]? = some ws[j] := List.getElem?_eq_getElem hjw
  exact thg_tup (h4.2 j b _ (by rw [List.getElem?_eq_getElem hj, e]) hw) (by show 4 ≤ 2000; decide) (way_ths (ok.ok _ (List.getElem_mem _)))
def sp__law_signs (K : PySem.W.Frag) : Sp := fun vs H Q _ => vs = [] ∧ ∀ z : Str, z.length = 94 → Q (.str z) H
abbrev s__law_signs : Stmt := top 26
theorem sc__law_signs : FnScope ["_law_some"] [] (defScope s__law_signs) := ⟨rfl, rfl, rfl, by decide +kernel, rfl, by decide +kernel, by decide +kernel⟩
theorem ok__law_signs {P : Program} {w : World} {K : PySem.W.Frag} {mg : Str → Option Value} {base : Heap} (D : Dfn K mg "_law_signs" s__law_signs []) (T : Blt mg) : Cal P w K mg base "_law_signs" 1 [] (sp__law_signs K) := by
  have nd := (sc__law_signs).nd
  refine D.ok sc__law_signs (fun vs H Q E h => ?_) (fun X hX H vs Q E h => ?_)
  · obtain ⟨rfl, _⟩ := h; rfl
  · obtain ⟨f, cdv, A, outer, s, H0, E0, rfl, hr⟩ := hX
    obtain ⟨rfl, q⟩ := h
    refine ⟨_, (no_implicit_lambda% (pss_cons (no_implicit_lambda% (ps_set (i := 0) nd rfl (Or.inl rfl) pe_str))
        (no_implicit_lambda% (pss_one (no_implicit_lambda% (ps_ret (no_implicit_lambda% (pe_op op_addW (no_implicit_lambda% (pv 0)) pe_str)))))))), ?_⟩
    walk_at "rd"
    refine ⟨_, _, rfl, rfl, by decide +kernel, by decide +kernel, fun z hz => ?_⟩
    exact q z (hz.trans (by decide +kernel))
def sp__law_with_sign (K : PySem.W.Frag) : Sp := fun vs H Q _ => ∃ v m ws a z, vs = [v, .int a, .str z] ∧ HouseAt H v m ws ∧ HOuse m ws ∧ z.length ≤ 1000 ∧ ∀ u H', Ext H H' → Thg H' 4 u → Q u H'
abbrev s__law_with_sign : Stmt := top 27
theorem sc__law_with_sign : FnScope ["_law_house_here", "_law_way", "_law_sign", "_law_many", "_law_ways", "_law_at"] ["_law_house_here", "_law_way", "_law_sign"] (defScope s__law_with_sign) := ⟨rfl, rfl, rfl, by decide +kernel, rfl, by decide +kernel, by decide +kernel⟩
theorem ok__law_with_sign {P : Program} {w : World} {K : PySem.W.Frag} {mg : Str → Option Value} {base : Heap} (D : Dfn K mg "_law_with_sign" s__law_with_sign ["_law_house_here", "_law_way", "_law_sign"]) (T : Blt mg) : Cal P w K mg base "_law_with_sign" 1 ["_law_house_here", "_law_way", "_law_sign"] (sp__law_with_sign K) := by
  have nd := (sc__law_with_sign).nd
  refine D.ok sc__law_with_sign (fun vs H Q E h => ?_) (fun X hX H vs Q E h => ?_)
  · obtain ⟨v, m, ws, a, z, rfl, _⟩ := h; rfl
  · obtain ⟨f, cdv, A, outer, s, H0, E0, rfl, hr⟩ := hX
    obtain ⟨v, m, ws, a, z, rfl, hv, ok, hz, q⟩ := h
    obtain ⟨p, r, bs, rfl, h1, h2, hbl, hal, hts⟩ := house_ths hv ok
    have m1 := ok.m1
    have hfew := ok.few
    have hxl : (bs.map V.ref).length ≤ 100 := by rw [List.length_map, hbl]; exact hfew
    refine ⟨_, (no_implicit_lambda% (pss_cons (no_implicit_lambda% (ps_asg (no_implicit_lambda% (pv 0)) (no_implicit_lambda% (pg_tupK (n := 2) K rfl (pgs_cons (no_implicit_lambda% (pg_name (i := 3) nd rfl (Or.inl rfl))) (pgs_cons (no_implicit_lambda% (pg_name (i := 4) nd rfl (Or.inl rfl))) pgs_nil))))))
        (no_implicit_lambda% (pss_cons (no_implicit_lambda% (ps_if (no_implicit_lambda% (pt_cmpR op_eq (no_implicit_lambda% (pe_callB (call_lenK K) rfl T.len_ PySem.boot_len (no_implicit_lambda% (pa_cons (no_implicit_lambda% (pv 4)) pa_nil)))) pe_int (nomark _))) (no_implicit_lambda% (pss_one (no_implicit_lambda% (ps_ret (no_implicit_lambda% (pe_tup (no_implicit_lambda% (pa_cons (no_implicit_lambda% (pv 3)) (no_implicit_lambda% (pa_cons (no_implicit_lambda% (pe_tup (no_implicit_lambda% (pa_cons (no_implicit_lambda% (pe_tup (no_implicit_lambda% (pa_cons (no_implicit_lambda% (pe_op op_mod (no_implicit_lambda% (pv 1)) (no_implicit_lambda% (pv 3)))) (no_implicit_lambda% (pa_cons pe_str (no_implicit_lambda% (pa_cons pe_int (no_implicit_lambda% (pa_cons (no_implicit_lambda% (pv 2)) pa_nil)))))))))) pa_nil)))) pa_nil)))))))))) pss_nil))
        (no_implicit_lambda% (pss_cons (no_implicit_lambda% (ps_set (i := 5) nd rfl (Or.inl rfl) (no_implicit_lambda% (pe_op op_mod (no_implicit_lambda% (pv 1)) (no_implicit_lambda% (pe_callB (call_lenK K) rfl T.len_ PySem.boot_len (no_implicit_lambda% (pa_cons (no_implicit_lambda% (pv 4)) pa_nil))))))))
        (no_implicit_lambda% (pss_one (no_implicit_lambda% (ps_ret (no_implicit_lambda% (pe_tup (no_implicit_lambda% (pa_cons (no_implicit_lambda% (pv 3)) (no_implicit_lambda% (pa_cons (no_implicit_lambda% (pe_op op_catT1 (no_implicit_lambda% (pe_op op_catT1 (no_implicit_lambda% (pe_slice sl_tup1 (no_implicit_lambda% (pv 4)) po_none (po_some (no_implicit_lambda% (pv 5))))) (no_implicit_lambda% (pe_tup (no_implicit_lambda% (pa_cons (no_implicit_lambda% (pe_op op_catT1 (no_implicit_lambda% (pe_slice sl_tup1 (no_implicit_lambda% (pe_ix (ix_tupK K) (no_implicit_lambda% (pv 4)) (no_implicit_lambda% (pv 5)) (fun _ _ => rfl))) po_none (po_some pe_int))) (no_implicit_lambda% (pe_tup (no_implicit_lambda% (pa_cons (no_implicit_lambda% (pv 2)) pa_nil)))))) pa_nil)))))) (no_implicit_lambda% (pe_slice sl_tup1 (no_implicit_lambda% (pv 4)) (po_some (no_implicit_lambda% (pe_op op_add (no_implicit_lambda% (pv 5)) pe_int))) po_none)))) pa_nil)))))))))))))))), ?_⟩
    walk_at "rd"
    refine rd_gtup (SqT.of h1) rfl ?_
    walk_at "rd"
    refine rd_lenT (SqT.of h2) ?_
    walk_at "rd"
    refine ite2 (fun hc => ?_) (fun hc => ?_)
    · walk_at "rd"
      try refine rd_I (show (0 : Int) < m by omega) ?_
      walk_at "rd"
      refine ⟨small_line (by simp), rd_new fun p1 H1 e1 k1 _ => ?_⟩
      walk_at "rd"
      refine ⟨small_line (by simp), rd_new fun p2 H2 e2 k2 _ => ?_⟩
      walk_at "rd"
      refine ⟨small_line (by simp), rd_new fun p3 H3 e3 k3 _ => ?_⟩
      have t1 : Thg H1 1 (.ref p1) := thg_tup k1 (by simp) (.cons (thg_int _ _ _) (.cons (thg_str _ _ (by decide +kernel)) (.cons (thg_int _ _ _) (.cons (thg_str _ _ hz) (.nil _ _)))))
      have t2 : Thg H2 2 (.ref p2) := thg_tup k2 (by simp) (.cons (t1.ext e2) (.nil _ _))
      have t3 : Thg H3 3 (.ref p3) := thg_tup k3 (by simp) (.cons (thg_int _ _ _) (.cons (t2.ext e3) (.nil _ _)))
      exact q _ H3 (e1.trans (e2.trans e3)) t3.up
    · have hpos : 0 < bs.length := by
        rw [List.length_map] at hc
        simp only [decide_eq_true_eq] at hc
        omega
      walk_at "rd"
      refine rd_lenT (SqT.of h2) ?_
      try refine rd_I (show (0 : Int) < (((bs.map V.ref).length : Nat) : Int) by rw [List.length_map]; omega) ?_
      walk_at "rd"
      rw [List.length_map]
      have a0 : 0 ≤ a % ((bs.length : Nat) : Int) := Int.emod_nonneg _ (by omega)
      have a1 : a % ((bs.length : Nat) : Int) < ((bs.length : Nat) : Int) := Int.emod_lt_of_pos _ (by omega)
      generalize a % ((bs.length : Nat) : Int) = at_ at a0 a1 ⊢
      refine rd_slT1 h2 fun p1 H1 e1 k1 => ?_
      walk_at "rd"
      have hlt : at_.toNat < bs.length := by omega
      have hb : bs[at_.toNat]? = some bs[at_.toNat] := List.getElem?_eq_getElem hlt
      have hw : ws[at_.toNat]? = some ws[at_.toNat] := List.getElem?_eq_getElem (by omega)
      refine rd_ixT (SqT.of (e1 _ _ h2)) (v := .ref bs[at_.toNat]) (atI_of a0 (by rw [List.getElem?_map, hb]; rfl)) ?_
      walk_at "rd"
      have hwt := hal.2 _ _ _ hb hw
      have tw : Ths H 0 (ws[at_.toNat]).vs := way_ths (ok.ok _ (List.getElem_mem _))
      refine rd_slT1 (e1 _ _ hwt) fun p2 H2 e2 k2 => ?_
      walk_at "rd"
      refine ⟨small_line (by simp), rd_new fun p3 H3 e3 k3 _ => ?_⟩
      walk_at "rd"
      have l2 : (cutV (ws[at_.toNat]).vs none (some 3)).length ≤ 4 := cut_len (Nat.le_refl 4)
      refine rd_catT1 (e3 _ _ k2) k3 (small9 (by simp; omega)) fun p4 H4 e4 k4 => ?_
      have e04 : Ext H H4 := e1.trans (e2.trans (e3.trans e4))
      have t4 : Thg H4 1 (.ref p4) := thg_tup k4 (by simp; omega) ((tw.ext e04).cut.app (.cons (thg_str _ _ hz) (.nil _ _)))
      clear k2 k3 tw l2 hwt
      walk_at "rd"
      refine ⟨small_line (by simp), rd_new fun p5 H5 e5 k5 _ => ?_⟩
      walk_at "rd"
      have l1 : (cutV (bs.map V.ref) none (some at_)).length ≤ 100 := cut_len hxl
      refine rd_catT1 ((e2.trans (e3.trans (e4.trans e5))) _ _ k1) k5 (small9 (by simp; omega)) fun p6 H6 e6 k6 => ?_
      have e06 := e04.trans (e5.trans e6)
      walk_at "rd"
      refine rd_slT1 (e06 _ _ h2) fun p7 H7 e7 k7 => ?_
      walk_at "rd"
      have l7 : (cutV (bs.map V.ref) (some (at_ + 1)) none).length ≤ 100 := cut_len hxl
      refine rd_catT1 (e7 _ _ k6) k7 (small9 (by simp; omega)) fun p8 H8 e8 k8 => ?_
      have e08 := e06.trans (e7.trans e8)
      walk_at "rd"
      refine ⟨small_line (by simp), rd_new fun p9 H9 e9 k9 _ => ?_⟩
      have t8 : Thg H8 2 (.ref p8) := thg_tup k8 (by simp; omega) (((hts.ext e08).cut.app (.cons (t4.ext (e5.trans (e6.trans (e7.trans e8)))) (.nil _ _))).app (hts.ext e08).cut)
      have t9 : Thg H9 3 (.ref p9) := thg_tup k9 (by simp) (.cons (thg_int _ _ _) (.cons (t8.ext e9) (.nil _ _)))
      exact q _ H9 (e08.trans e9) t9.up
end My
set_option Elab.async false
set_option linter.all false
set_option maxRecDepth 100000
namespace My
open PySem L2 St
set_option maxHeartbeats 4000000
local macro_rules | `(tactic| walk_at "cond") => `(tactic| first | decide | omega | (dsimp only; omega) | (unfold CMul; omega) | (unfold CPow; exact ⟨by decide, by decide, by decide⟩) | (dsimp only; exact ⟨by omega, by omega⟩) | exact .inr ⟨by decide, by decide⟩ | exact .inl ⟨by decide, by decide⟩ | (unfold SmallR; omega))
local macro_rules | `(tactic| walk_at "sq") => `(tactic| first | assumption | exact SqL.of (by assumption) | exact SqT.of (by assumption) | exact SqL.of (by solve_by_elim) | exact SqT.of (by solve_by_elim) | solve_by_elim)
local macro_rules | `(tactic| walk_at "rd") => do
  let ts ← ("seq ret retN asg drop ifS next name var c op un CB cons nil ints test B exb not and or andV orV notV ifE yes I0 I U EqI NeI EqB NeB call BM tup lst sl noPart part exi chain comp iL iT i1 i2 i3 for tTru intB max2 min2 sub gcons gnil aug ipI zip rev par par2 lam calV raise fs try bseq bnext bplain bif bcall enum gget gin revL leS disp dget lrev disp1 din dnin dput min3 iS iD bm0 revS".splitOn " ").toArray.mapM fun n =>
    let i := Lean.mkIdent (.mkSimple ("rd_" ++ n))
    if n == "var" || n == "aug" then `(tacticSeq| ((with_reducible apply $i); (exact rfl)))
    else if n == "I" then `(tacticSeq| ((with_reducible apply $i); (walk_at "cond")))
    else `(tacticSeq| with_reducible refine $i ?_)
  `(tactic| repeat (first $[| $ts]* | dsimp only))
local macro_rules | `(tactic| walk_at "ds") => do
  let ts ← ("cons nil tup lst c var un U CB".splitOn " ").toArray.mapM fun n =>
    let i := Lean.mkIdent (.mkSimple ("rd_" ++ n))
    if n == "var" then `(tacticSeq| ((with_reducible apply $i); (exact rfl)))
    else `(tacticSeq| with_reducible refine $i ?_)
  `(tactic| repeat (first $[| $ts]* | dsimp only))
def TLst (H : Hp) (p : Addr) (d n : Nat) : Prop := ∃ xs, H p = some (.lst xs) ∧ xs.length ≤ n ∧ Ths H d xs
theorem TLst.ext {H H' : Hp} {p : Addr} {d n : Nat} (e : Ext H H') (h : TLst H p d n) : TLst H' p d n := by
  obtain ⟨xs, h1, h2, h3⟩ := h
  exact ⟨xs, e _ _ h1, h2, h3.ext e⟩
theorem log_all : ∀ i : Fin 12, (Int.natAbs (i.1 : Int)).log2 < 1920 := by decide +kernel
theorem log_small {i : Int} (h0 : 0 ≤ i) (h1 : i < 12) : i.natAbs.log2 < 1920 := by
  obtain ⟨k, rfl⟩ := Int.eq_ofNat_of_zero_le h0
  exact log_all ⟨k, by omega⟩
theorem str_all : ∀ i : Fin 12, ((toString (i.1 : Int) : String) : Str).length ≤ 1000 := by decide +kernel
theorem str_small {i : Int} (h0 : 0 ≤ i) (h1 : i < 12) : ((toString i : String) : Str).length ≤ 1000 := by
  obtain ⟨k, rfl⟩ := Int.eq_ofNat_of_zero_le h0
  exact str_all ⟨k, by omega⟩
def sp__law_bad_things (K : PySem.W.Frag) : Sp := fun vs H Q _ => ∃ v m ws a, vs = [v, .int a] ∧ HouseAt H v m ws ∧ HOuse m ws ∧ ∀ l H' xs, Ext H H' → H' l = some (.lst xs) → xs.length ≤ 200 → Ths H' 4 xs → Q (.ref l) H'
abbrev s__law_bad_things : Stmt := top 24
theorem sc__law_bad_things : FnScope ["_law_house_here", "_law_at", "_law_many", "_law_ways", "_law_found", "_law_room", "_law_deed", "_law_other", "_law_sign", "_law_low", "_law_high", "_law_some"] ["_law_house_here", "_law_at"] (defScope s__law_bad_things) := ⟨rfl, rfl, rfl, by decide +kernel, rfl, by decide +kernel, by decide +kernel⟩
theorem ok__law_bad_things {P : Program} {w : World} {K : PySem.W.Frag} {mg : Str → Option Value} {base : Heap} (D : Dfn K mg "_law_bad_things" s__law_bad_things ["_law_house_here", "_law_at"]) (T : Blt mg) : Cal P w K mg base "_law_bad_things" 1 ["_law_house_here", "_law_at"] (sp__law_bad_things K) := by
  have nd := (sc__law_bad_things).nd
  refine D.ok sc__law_bad_things (fun vs H Q E h => ?_) (fun X hX H vs Q E h => ?_)
  · obtain ⟨v, m, ws, a, rfl, _⟩ := h; rfl
  · obtain ⟨f, cdv, A, outer, s, H0, E0, rfl, hr⟩ := hX
    obtain ⟨v, m, ws, a, rfl, hv, ok, q⟩ := h
    obtain ⟨p, r, bs, rfl, h1, h2, hbl, hal, hts⟩ := house_ths hv ok
    have m1 := ok.m1
    have m2 := ok.m12
    have hfew := ok.few
    have hxl : (bs.map V.ref).length ≤ 100 := by rw [List.length_map, hbl]; exact hfew
    have tr : Thg H 2 (.ref r) := thg_tup h2 (Nat.le_trans hxl (by decide)) hts
    refine ⟨_, (no_implicit_lambda% (@pss_cons _ _ _ _ _ (no_implicit_lambda% (@ps_asg _ _ _ _ _ _ (no_implicit_lambda% (pv 0)) (no_implicit_lambda% (pg_tupK (n := 2) K rfl (pgs_cons (no_implicit_lambda% (pg_name (i := 2) nd rfl (Or.inr rfl))) (pgs_cons (no_implicit_lambda% (pg_name (i := 3) nd rfl (Or.inl rfl))) pgs_nil)))) rfl rfl rfl))
        (no_implicit_lambda% (@pss_cons _ _ _ _ _ (no_implicit_lambda% (@ps_set _ _ 4 _ _ _ _ nd rfl (Or.inl rfl) (no_implicit_lambda% (@pe_lst _ _ _ _ (no_implicit_lambda% (@pa_cons _ _ _ _ _ pe_non (no_implicit_lambda% (@pa_cons _ _ _ _ _ pe_bl (no_implicit_lambda% (@pa_cons _ _ _ _ _ pe_int (no_implicit_lambda% (@pa_cons _ _ _ _ _ pe_str (no_implicit_lambda% (@pa_cons _ _ _ _ _ (no_implicit_lambda% (@pe_tup _ _ _ _ _ pa_nil)) (no_implicit_lambda% (@pa_cons _ _ _ _ _ (no_implicit_lambda% (@pe_lst _ _ _ _ pa_nil)) (no_implicit_lambda% (@pa_cons _ _ _ _ _ (no_implicit_lambda% (@pe_tup _ _ _ _ _ (no_implicit_lambda% (@pa_cons _ _ _ _ _ (no_implicit_lambda% (pv 2)) pa_nil rfl)))) (no_implicit_lambda% (@pa_cons _ _ _ _ _ (no_implicit_lambda% (@pe_lst _ _ _ _ (no_implicit_lambda% (@pa_cons _ _ _ _ _ (no_implicit_lambda% (pv 2)) (no_implicit_lambda% (@pa_cons _ _ _ _ _ (no_implicit_lambda% (pv 3)) pa_nil rfl)) rfl)))) (no_implicit_lambda% (@pa_cons _ _ _ _ _ (no_implicit_lambda% (@pe_tup _ _ _ _ _ (no_implicit_lambda% (@pa_cons _ _ _ _ _ (no_implicit_lambda% (pv 2)) (no_implicit_lambda% (@pa_cons _ _ _ _ _ (no_implicit_lambda% (pe_callTy (call_listK K) rfl T.list_ PyProof.Rows.boot_list (no_implicit_lambda% (@pa_cons _ _ _ _ _ (no_implicit_lambda% (pv 3)) pa_nil rfl)))) pa_nil rfl)) rfl)))) (no_implicit_lambda% (@pa_cons _ _ _ _ _ (no_implicit_lambda% (@pe_tup _ _ _ _ _ (no_implicit_lambda% (@pa_cons _ _ _ _ _ (no_implicit_lambda% (pv 2)) (no_implicit_lambda% (@pa_cons _ _ _ _ _ (no_implicit_lambda% (pv 3)) (no_implicit_lambda% (@pa_cons _ _ _ _ _ (no_implicit_lambda% (@pe_tup _ _ _ _ _ pa_nil)) pa_nil rfl)) rfl)) rfl)))) (no_implicit_lambda% (@pa_cons _ _ _ _ _ (no_implicit_lambda% (@pe_tup _ _ _ _ _ (no_implicit_lambda% (@pa_cons _ _ _ _ _ (no_implicit_lambda% (pv 2)) (no_implicit_lambda% (@pa_cons _ _ _ _ _ pe_non pa_nil rfl)) rfl)))) pa_nil rfl)) rfl)) rfl)) rfl)) rfl)) rfl)) rfl)) rfl)) rfl)) rfl)) rfl)))) rfl (Or.inl rfl)))
        (no_implicit_lambda% (@pss_cons _ _ _ _ _ (no_implicit_lambda% (@ps_set _ _ 4 _ _ _ _ nd rfl (Or.inl rfl) (no_implicit_lambda% (pe_op op_cat (no_implicit_lambda% (pv 4)) (no_implicit_lambda% (@pe_lst _ _ _ _ (no_implicit_lambda% (@pa_lit _ _ _ _ _ (.tup (.cons .int (.cons (.tup .nil) .nil))) (no_implicit_lambda% (@pa_lit _ _ _ _ _ (.tup (.cons .int (.cons (.tup .nil) .nil))) (no_implicit_lambda% (@pa_cons _ _ _ _ _ (no_implicit_lambda% (@pe_tup _ _ _ _ _ (no_implicit_lambda% (@pa_cons _ _ _ _ _ (no_implicit_lambda% (pe_un un_neg pe_int)) (no_implicit_lambda% (@pa_cons _ _ _ _ _ (no_implicit_lambda% (@pe_tup _ _ _ _ _ pa_nil)) pa_nil rfl)) rfl)))) (no_implicit_lambda% (@pa_lit _ _ _ _ _ (.tup (.cons .bl (.cons (.tup .nil) .nil))) (no_implicit_lambda% (@pa_lit _ _ _ _ _ (.tup (.cons .str (.cons (.tup .nil) .nil))) (no_implicit_lambda% (@pa_cons _ _ _ _ _ (no_implicit_lambda% (@pe_tup _ _ _ _ _ (no_implicit_lambda% (@pa_cons _ _ _ _ _ pe_non (no_implicit_lambda% (@pa_cons _ _ _ _ _ (no_implicit_lambda% (pv 3)) pa_nil rfl)) rfl)))) (no_implicit_lambda% (@pa_lit _ _ _ _ _ (.tup (.cons .int (.cons (.tup (.cons (.tup .nil) .nil)) .nil))) (no_implicit_lambda% (@pa_lit _ _ _ _ _ (.tup (.cons .int (.cons (.tup (.cons .non .nil)) .nil))) (no_implicit_lambda% (@pa_cons _ _ _ _ _ (no_implicit_lambda% (pv 3)) pa_nil rfl)))))) rfl)))))) rfl)))))))))) rfl (Or.inl rfl)))
        (no_implicit_lambda% (@pss_cons _ _ _ _ _ (no_implicit_lambda% (@ps_asg _ _ _ _ _ _ (no_implicit_lambda% (@pe_tup _ _ _ _ _ (no_implicit_lambda% (@pa_cons _ _ _ _ _ pe_int (no_implicit_lambda% (@pa_cons _ _ _ _ _ pe_str (no_implicit_lambda% (@pa_cons _ _ _ _ _ pe_int (no_implicit_lambda% (@pa_cons _ _ _ _ _ pe_str pa_nil rfl)) rfl)) rfl)) rfl)))) (no_implicit_lambda% (pg_tupK (n := 4) K rfl (pgs_cons (no_implicit_lambda% (pg_name (i := 5) nd rfl (Or.inl rfl))) (pgs_cons (no_implicit_lambda% (pg_name (i := 6) nd rfl (Or.inl rfl))) (pgs_cons (no_implicit_lambda% (pg_name (i := 7) nd rfl (Or.inl rfl))) (pgs_cons (no_implicit_lambda% (pg_name (i := 8) nd rfl (Or.inl rfl))) pgs_nil)))))) rfl rfl rfl))
        (no_implicit_lambda% (@pss_cons _ _ _ _ _ (no_implicit_lambda% (@ps_set _ _ 9 _ _ _ _ nd rfl (Or.inr rfl) (no_implicit_lambda% (@pe_tup _ _ _ _ _ pa_nil)) rfl (Or.inl rfl)))
        (no_implicit_lambda% (@pss_cons _ _ _ _ _ (no_implicit_lambda% (@ps_set _ _ 10 _ _ _ _ nd rfl (Or.inr rfl) (no_implicit_lambda% (@pe_tup _ _ _ _ _ pa_nil)) rfl (Or.inl rfl)))
        (no_implicit_lambda% (@pss_cons _ _ _ _ _ (no_implicit_lambda% (ps_ifJ (no_implicit_lambda% (pt_cmpR op_gt (no_implicit_lambda% (pe_callB (call_lenK K) rfl T.len_ PySem.boot_len (no_implicit_lambda% (@pa_cons _ _ _ _ _ (no_implicit_lambda% (pv 3)) pa_nil rfl)))) pe_int (nomark _))) (no_implicit_lambda% (@pss_cons _ _ _ _ _ (no_implicit_lambda% (@ps_set _ _ 1 _ _ _ _ nd rfl (Or.inl rfl) (no_implicit_lambda% (pe_op op_mod (no_implicit_lambda% (pv 1)) (no_implicit_lambda% (pe_callB (call_lenK K) rfl T.len_ PySem.boot_len (no_implicit_lambda% (@pa_cons _ _ _ _ _ (no_implicit_lambda% (pv 3)) pa_nil rfl)))))) rfl (Or.inl rfl)))
        (no_implicit_lambda% (@pss_cons _ _ _ _ _ (no_implicit_lambda% (@ps_asg _ _ _ _ _ _ (no_implicit_lambda% (@pe_ix _ _ _ _ _ _ _ (ix_tupK K) (no_implicit_lambda% (pv 3)) (no_implicit_lambda% (pv 1)) (fun _ _ => rfl))) (no_implicit_lambda% (pg_tupK (n := 4) K rfl (pgs_cons (no_implicit_lambda% (pg_name (i := 5) nd rfl (Or.inl rfl))) (pgs_cons (no_implicit_lambda% (pg_name (i := 6) nd rfl (Or.inl rfl))) (pgs_cons (no_implicit_lambda% (pg_name (i := 7) nd rfl (Or.inl rfl))) (pgs_cons (no_implicit_lambda% (pg_name (i := 8) nd rfl (Or.inl rfl))) pgs_nil)))))) rfl rfl rfl))
        (no_implicit_lambda% (@pss_cons _ _ _ _ _ (no_implicit_lambda% (@ps_set _ _ 9 _ _ _ _ nd rfl (Or.inr rfl) (no_implicit_lambda% (pe_slice sl_tup1 (no_implicit_lambda% (pv 3)) po_none (po_some (no_implicit_lambda% (pv 1))))) rfl (Or.inl rfl)))
        (no_implicit_lambda% (@pss_one _ _ _ (no_implicit_lambda% (@ps_set _ _ 10 _ _ _ _ nd rfl (Or.inr rfl) (no_implicit_lambda% (pe_slice sl_tup1 (no_implicit_lambda% (pv 3)) (po_some (no_implicit_lambda% (pe_op op_add (no_implicit_lambda% (pv 1)) pe_int))) po_none)) rfl (Or.inl rfl))))))))))) pss_nil))
        (no_implicit_lambda% (@pss_cons _ _ _ _ _ (no_implicit_lambda% (@ps_set _ _ 11 _ _ _ _ nd rfl (Or.inl rfl) (no_implicit_lambda% (@pe_lst _ _ _ _ (no_implicit_lambda% (@pa_cons _ _ _ _ _ (no_implicit_lambda% (@pe_tup _ _ _ _ _ (no_implicit_lambda% (@pa_cons _ _ _ _ _ (no_implicit_lambda% (pv 2)) (no_implicit_lambda% (@pa_cons _ _ _ _ _ (no_implicit_lambda% (pv 6)) (no_implicit_lambda% (@pa_cons _ _ _ _ _ (no_implicit_lambda% (pv 7)) (no_implicit_lambda% (@pa_cons _ _ _ _ _ (no_implicit_lambda% (pv 8)) pa_nil rfl)) rfl)) rfl)) rfl)))) (no_implicit_lambda% (@pa_cons _ _ _ _ _ (no_implicit_lambda% (@pe_tup _ _ _ _ _ (no_implicit_lambda% (@pa_cons _ _ _ _ _ (no_implicit_lambda% (pv 5)) (no_implicit_lambda% (@pa_cons _ _ _ _ _ (no_implicit_lambda% (pv 6)) (no_implicit_lambda% (@pa_cons _ _ _ _ _ (no_implicit_lambda% (pv 2)) (no_implicit_lambda% (@pa_cons _ _ _ _ _ (no_implicit_lambda% (pv 8)) pa_nil rfl)) rfl)) rfl)) rfl)))) (no_implicit_lambda% (@pa_cons _ _ _ _ _ (no_implicit_lambda% (@pe_tup _ _ _ _ _ (no_implicit_lambda% (@pa_cons _ _ _ _ _ (no_implicit_lambda% (pe_un un_neg pe_int)) (no_implicit_lambda% (@pa_cons _ _ _ _ _ (no_implicit_lambda% (pv 6)) (no_implicit_lambda% (@pa_cons _ _ _ _ _ (no_implicit_lambda% (pv 7)) (no_implicit_lambda% (@pa_cons _ _ _ _ _ (no_implicit_lambda% (pv 8)) pa_nil rfl)) rfl)) rfl)) rfl)))) (no_implicit_lambda% (@pa_cons _ _ _ _ _ (no_implicit_lambda% (@pe_tup _ _ _ _ _ (no_implicit_lambda% (@pa_cons _ _ _ _ _ (no_implicit_lambda% (pv 5)) (no_implicit_lambda% (@pa_cons _ _ _ _ _ (no_implicit_lambda% (pv 6)) (no_implicit_lambda% (@pa_cons _ _ _ _ _ (no_implicit_lambda% (pe_un un_neg pe_int)) (no_implicit_lambda% (@pa_cons _ _ _ _ _ (no_implicit_lambda% (pv 8)) pa_nil rfl)) rfl)) rfl)) rfl)))) pa_nil rfl)) rfl)) rfl)) rfl)))) rfl (Or.inl rfl)))
        (no_implicit_lambda% (@pss_cons _ _ _ _ _ (no_implicit_lambda% (@ps_set _ _ 11 _ _ _ _ nd rfl (Or.inl rfl) (no_implicit_lambda% (pe_op op_cat (no_implicit_lambda% (pv 11)) (no_implicit_lambda% (@pe_lst _ _ _ _ (no_implicit_lambda% (@pa_cons _ _ _ _ _ (no_implicit_lambda% (@pe_tup _ _ _ _ _ (no_implicit_lambda% (@pa_cons _ _ _ _ _ (no_implicit_lambda% (pv 5)) (no_implicit_lambda% (@pa_cons _ _ _ _ _ pe_str (no_implicit_lambda% (@pa_cons _ _ _ _ _ (no_implicit_lambda% (pv 7)) (no_implicit_lambda% (@pa_cons _ _ _ _ _ (no_implicit_lambda% (pv 8)) pa_nil rfl)) rfl)) rfl)) rfl)))) (no_implicit_lambda% (@pa_cons _ _ _ _ _ (no_implicit_lambda% (@pe_tup _ _ _ _ _ (no_implicit_lambda% (@pa_cons _ _ _ _ _ (no_implicit_lambda% (pv 5)) (no_implicit_lambda% (@pa_cons _ _ _ _ _ pe_str (no_implicit_lambda% (@pa_cons _ _ _ _ _ (no_implicit_lambda% (pv 7)) (no_implicit_lambda% (@pa_cons _ _ _ _ _ (no_implicit_lambda% (pv 8)) pa_nil rfl)) rfl)) rfl)) rfl)))) (no_implicit_lambda% (@pa_cons _ _ _ _ _ (no_implicit_lambda% (@pe_tup _ _ _ _ _ (no_implicit_lambda% (@pa_cons _ _ _ _ _ (no_implicit_lambda% (pv 5)) (no_implicit_lambda% (@pa_cons _ _ _ _ _ pe_non (no_implicit_lambda% (@pa_cons _ _ _ _ _ (no_implicit_lambda% (pv 7)) (no_implicit_lambda% (@pa_cons _ _ _ _ _ (no_implicit_lambda% (pv 8)) pa_nil rfl)) rfl)) rfl)) rfl)))) pa_nil rfl)) rfl)) rfl)))))) rfl (Or.inl rfl)))
        (no_implicit_lambda% (@pss_cons _ _ _ _ _ (no_implicit_lambda% (@ps_set _ _ 11 _ _ _ _ nd rfl (Or.inl rfl) (no_implicit_lambda% (pe_op op_cat (no_implicit_lambda% (pv 11)) (no_implicit_lambda% (@pe_lst _ _ _ _ (no_implicit_lambda% (@pa_cons _ _ _ _ _ (no_implicit_lambda% (@pe_tup _ _ _ _ _ (no_implicit_lambda% (@pa_cons _ _ _ _ _ (no_implicit_lambda% (pv 5)) (no_implicit_lambda% (@pa_cons _ _ _ _ _ pe_int (no_implicit_lambda% (@pa_cons _ _ _ _ _ (no_implicit_lambda% (pv 7)) (no_implicit_lambda% (@pa_cons _ _ _ _ _ (no_implicit_lambda% (pv 8)) pa_nil rfl)) rfl)) rfl)) rfl)))) (no_implicit_lambda% (@pa_cons _ _ _ _ _ (no_implicit_lambda% (@pe_tup _ _ _ _ _ (no_implicit_lambda% (@pa_cons _ _ _ _ _ (no_implicit_lambda% (pv 5)) (no_implicit_lambda% (@pa_cons _ _ _ _ _ (no_implicit_lambda% (pv 6)) (no_implicit_lambda% (@pa_cons _ _ _ _ _ (no_implicit_lambda% (pv 7)) (no_implicit_lambda% (@pa_cons _ _ _ _ _ pe_str pa_nil rfl)) rfl)) rfl)) rfl)))) (no_implicit_lambda% (@pa_cons _ _ _ _ _ (no_implicit_lambda% (@pe_tup _ _ _ _ _ (no_implicit_lambda% (@pa_cons _ _ _ _ _ (no_implicit_lambda% (pv 5)) (no_implicit_lambda% (@pa_cons _ _ _ _ _ (no_implicit_lambda% (pv 6)) (no_implicit_lambda% (@pa_cons _ _ _ _ _ (no_implicit_lambda% (pv 7)) (no_implicit_lambda% (@pa_cons _ _ _ _ _ pe_str pa_nil rfl)) rfl)) rfl)) rfl)))) pa_nil rfl)) rfl)) rfl)))))) rfl (Or.inl rfl)))
        (no_implicit_lambda% (@pss_cons _ _ _ _ _ (no_implicit_lambda% (@ps_set _ _ 11 _ _ _ _ nd rfl (Or.inl rfl) (no_implicit_lambda% (pe_op op_cat (no_implicit_lambda% (pv 11)) (no_implicit_lambda% (@pe_lst _ _ _ _ (no_implicit_lambda% (@pa_cons _ _ _ _ _ (no_implicit_lambda% (@pe_tup _ _ _ _ _ (no_implicit_lambda% (@pa_cons _ _ _ _ _ (no_implicit_lambda% (pv 5)) (no_implicit_lambda% (@pa_cons _ _ _ _ _ (no_implicit_lambda% (pv 6)) (no_implicit_lambda% (@pa_cons _ _ _ _ _ (no_implicit_lambda% (pv 7)) (no_implicit_lambda% (@pa_cons _ _ _ _ _ pe_str pa_nil rfl)) rfl)) rfl)) rfl)))) (no_implicit_lambda% (@pa_cons _ _ _ _ _ (no_implicit_lambda% (@pe_tup _ _ _ _ _ (no_implicit_lambda% (@pa_cons _ _ _ _ _ (no_implicit_lambda% (pv 5)) (no_implicit_lambda% (@pa_cons _ _ _ _ _ (no_implicit_lambda% (pv 6)) (no_implicit_lambda% (@pa_cons _ _ _ _ _ (no_implicit_lambda% (pv 7)) (no_implicit_lambda% (@pa_cons _ _ _ _ _ pe_non pa_nil rfl)) rfl)) rfl)) rfl)))) (no_implicit_lambda% (@pa_cons _ _ _ _ _ (no_implicit_lambda% (@pe_tup _ _ _ _ _ (no_implicit_lambda% (@pa_cons _ _ _ _ _ (no_implicit_lambda% (pv 5)) (no_implicit_lambda% (@pa_cons _ _ _ _ _ (no_implicit_lambda% (pv 6)) (no_implicit_lambda% (@pa_cons _ _ _ _ _ (no_implicit_lambda% (pv 7)) (no_implicit_lambda% (@pa_cons _ _ _ _ _ pe_str pa_nil rfl)) rfl)) rfl)) rfl)))) pa_nil rfl)) rfl)) rfl)))))) rfl (Or.inl rfl)))
        (no_implicit_lambda% (@pss_cons _ _ _ _ _ (no_implicit_lambda% (@ps_set _ _ 11 _ _ _ _ nd rfl (Or.inl rfl) (no_implicit_lambda% (pe_op op_cat (no_implicit_lambda% (pv 11)) (no_implicit_lambda% (@pe_lst _ _ _ _ (no_implicit_lambda% (@pa_cons _ _ _ _ _ (no_implicit_lambda% (@pe_tup _ _ _ _ _ (no_implicit_lambda% (@pa_cons _ _ _ _ _ (no_implicit_lambda% (pv 5)) (no_implicit_lambda% (@pa_cons _ _ _ _ _ (no_implicit_lambda% (pv 6)) (no_implicit_lambda% (@pa_cons _ _ _ _ _ (no_implicit_lambda% (pv 7)) (no_implicit_lambda% (@pa_cons _ _ _ _ _ pe_int pa_nil rfl)) rfl)) rfl)) rfl)))) (no_implicit_lambda% (@pa_cons _ _ _ _ _ (no_implicit_lambda% (@pe_tup _ _ _ _ _ (no_implicit_lambda% (@pa_cons _ _ _ _ _ (no_implicit_lambda% (pv 5)) (no_implicit_lambda% (@pa_cons _ _ _ _ _ (no_implicit_lambda% (pv 6)) (no_implicit_lambda% (@pa_cons _ _ _ _ _ (no_implicit_lambda% (pv 7)) (no_implicit_lambda% (@pa_cons _ _ _ _ _ (no_implicit_lambda% (@pe_lst _ _ _ _ (no_implicit_lambda% (@pa_cons _ _ _ _ _ pe_str pa_nil rfl)))) pa_nil rfl)) rfl)) rfl)) rfl)))) (no_implicit_lambda% (@pa_cons _ _ _ _ _ (no_implicit_lambda% (@pe_lst _ _ _ _ (no_implicit_lambda% (@pa_cons _ _ _ _ _ (no_implicit_lambda% (pv 5)) (no_implicit_lambda% (@pa_cons _ _ _ _ _ (no_implicit_lambda% (pv 6)) (no_implicit_lambda% (@pa_cons _ _ _ _ _ (no_implicit_lambda% (pv 7)) (no_implicit_lambda% (@pa_cons _ _ _ _ _ (no_implicit_lambda% (pv 8)) pa_nil rfl)) rfl)) rfl)) rfl)))) pa_nil rfl)) rfl)) rfl)))))) rfl (Or.inl rfl)))
        (no_implicit_lambda% (@pss_cons _ _ _ _ _ (no_implicit_lambda% (@ps_set _ _ 11 _ _ _ _ nd rfl (Or.inl rfl) (no_implicit_lambda% (pe_op op_cat (no_implicit_lambda% (pv 11)) (no_implicit_lambda% (@pe_lst _ _ _ _ (no_implicit_lambda% (@pa_cons _ _ _ _ _ (no_implicit_lambda% (@pe_tup _ _ _ _ _ (no_implicit_lambda% (@pa_cons _ _ _ _ _ (no_implicit_lambda% (pv 5)) (no_implicit_lambda% (@pa_cons _ _ _ _ _ (no_implicit_lambda% (pv 6)) (no_implicit_lambda% (@pa_cons _ _ _ _ _ (no_implicit_lambda% (pv 7)) pa_nil rfl)) rfl)) rfl)))) (no_implicit_lambda% (@pa_cons _ _ _ _ _ (no_implicit_lambda% (@pe_tup _ _ _ _ _ (no_implicit_lambda% (@pa_cons _ _ _ _ _ (no_implicit_lambda% (pv 5)) (no_implicit_lambda% (@pa_cons _ _ _ _ _ (no_implicit_lambda% (pv 6)) (no_implicit_lambda% (@pa_cons _ _ _ _ _ (no_implicit_lambda% (pv 7)) (no_implicit_lambda% (@pa_cons _ _ _ _ _ (no_implicit_lambda% (pv 8)) (no_implicit_lambda% (@pa_cons _ _ _ _ _ (no_implicit_lambda% (pv 8)) pa_nil rfl)) rfl)) rfl)) rfl)) rfl)))) (no_implicit_lambda% (@pa_cons _ _ _ _ _ (no_implicit_lambda% (@pe_tup _ _ _ _ _ (no_implicit_lambda% (@pa_cons _ _ _ _ _ (no_implicit_lambda% (pe_callTy call_str_int rfl T.str_ PyProof.Rows.boot_str (no_implicit_lambda% (@pa_cons _ _ _ _ _ (no_implicit_lambda% (pv 5)) pa_nil rfl)))) (no_implicit_lambda% (@pa_cons _ _ _ _ _ (no_implicit_lambda% (pv 6)) (no_implicit_lambda% (@pa_cons _ _ _ _ _ (no_implicit_lambda% (pv 7)) (no_implicit_lambda% (@pa_cons _ _ _ _ _ (no_implicit_lambda% (pv 8)) pa_nil rfl)) rfl)) rfl)) rfl)))) (no_implicit_lambda% (@pa_cons _ _ _ _ _ pe_str (no_implicit_lambda% (@pa_cons _ _ _ _ _ pe_int pa_nil rfl)) rfl)) rfl)) rfl)) rfl)))))) rfl (Or.inl rfl)))
        (no_implicit_lambda% (@pss_cons _ _ _ _ _ (no_implicit_lambda% (@ps_set _ _ 11 _ _ _ _ nd rfl (Or.inl rfl) (no_implicit_lambda% (pe_op op_cat (no_implicit_lambda% (pv 11)) (no_implicit_lambda% (@pe_lst _ _ _ _ (no_implicit_lambda% (@pa_cons _ _ _ _ _ (no_implicit_lambda% (@pe_tup _ _ _ _ _ (no_implicit_lambda% (@pa_cons _ _ _ _ _ pe_bl (no_implicit_lambda% (@pa_cons _ _ _ _ _ (no_implicit_lambda% (pv 6)) (no_implicit_lambda% (@pa_cons _ _ _ _ _ (no_implicit_lambda% (pv 7)) (no_implicit_lambda% (@pa_cons _ _ _ _ _ (no_implicit_lambda% (pv 8)) pa_nil rfl)) rfl)) rfl)) rfl)))) (no_implicit_lambda% (@pa_cons _ _ _ _ _ (no_implicit_lambda% (@pe_tup _ _ _ _ _ (no_implicit_lambda% (@pa_cons _ _ _ _ _ (no_implicit_lambda% (pv 5)) (no_implicit_lambda% (@pa_cons _ _ _ _ _ (no_implicit_lambda% (pv 6)) (no_implicit_lambda% (@pa_cons _ _ _ _ _ pe_bl (no_implicit_lambda% (@pa_cons _ _ _ _ _ (no_implicit_lambda% (pv 8)) pa_nil rfl)) rfl)) rfl)) rfl)))) (no_implicit_lambda% (@pa_cons _ _ _ _ _ (no_implicit_lambda% (@pe_tup _ _ _ _ _ (no_implicit_lambda% (@pa_cons _ _ _ _ _ pe_non (no_implicit_lambda% (@pa_cons _ _ _ _ _ (no_implicit_lambda% (pv 6)) (no_implicit_lambda% (@pa_cons _ _ _ _ _ (no_implicit_lambda% (pv 7)) (no_implicit_lambda% (@pa_cons _ _ _ _ _ (no_implicit_lambda% (pv 8)) pa_nil rfl)) rfl)) rfl)) rfl)))) pa_nil rfl)) rfl)) rfl)))))) rfl (Or.inl rfl)))
        (no_implicit_lambda% (@pss_cons _ _ _ _ _ (no_implicit_lambda% (@ps_set _ _ 11 _ _ _ _ nd rfl (Or.inl rfl) (no_implicit_lambda% (pe_op op_cat (no_implicit_lambda% (pv 11)) (no_implicit_lambda% (@pe_lst _ _ _ _ (no_implicit_lambda% (@pa_cons _ _ _ _ _ (no_implicit_lambda% (@pe_tup _ _ _ _ _ (no_implicit_lambda% (@pa_cons _ _ _ _ _ (no_implicit_lambda% (pv 5)) (no_implicit_lambda% (@pa_cons _ _ _ _ _ pe_str (no_implicit_lambda% (@pa_cons _ _ _ _ _ (no_implicit_lambda% (pv 7)) (no_implicit_lambda% (@pa_cons _ _ _ _ _ (no_implicit_lambda% (pv 8)) pa_nil rfl)) rfl)) rfl)) rfl)))) pa_nil rfl)))))) rfl (Or.inl rfl)))
        (no_implicit_lambda% (@pss_cons _ _ _ _ _ (no_implicit_lambda% (@ps_set _ _ 11 _ _ _ _ nd rfl (Or.inl rfl) (no_implicit_lambda% (pe_op op_cat (no_implicit_lambda% (pv 11)) (no_implicit_lambda% (@pe_lst _ _ _ _ (no_implicit_lambda% (@pa_cons _ _ _ _ _ (no_implicit_lambda% (@pe_tup _ _ _ _ _ (no_implicit_lambda% (@pa_cons _ _ _ _ _ (no_implicit_lambda% (pv 5)) (no_implicit_lambda% (@pa_cons _ _ _ _ _ (no_implicit_lambda% (pv 6)) (no_implicit_lambda% (@pa_cons _ _ _ _ _ pe_non (no_implicit_lambda% (@pa_cons _ _ _ _ _ (no_implicit_lambda% (pv 8)) pa_nil rfl)) rfl)) rfl)) rfl)))) (no_implicit_lambda% (@pa_cons _ _ _ _ _ (no_implicit_lambda% (@pe_tup _ _ _ _ _ (no_implicit_lambda% (@pa_cons _ _ _ _ _ (no_implicit_lambda% (pv 5)) (no_implicit_lambda% (@pa_lit _ _ _ _ _ (.tup (.cons .str .nil)) (no_implicit_lambda% (@pa_cons _ _ _ _ _ (no_implicit_lambda% (pv 7)) (no_implicit_lambda% (@pa_cons _ _ _ _ _ (no_implicit_lambda% (pv 8)) pa_nil rfl)) rfl)))) rfl)))) (no_implicit_lambda% (@pa_cons _ _ _ _ _ (no_implicit_lambda% (@pe_tup _ _ _ _ _ (no_implicit_lambda% (@pa_cons _ _ _ _ _ (no_implicit_lambda% (pv 5)) (no_implicit_lambda% (@pa_cons _ _ _ _ _ (no_implicit_lambda% (pv 6)) (no_implicit_lambda% (@pa_cons _ _ _ _ _ (no_implicit_lambda% (pv 7)) (no_implicit_lambda% (@pa_cons _ _ _ _ _ pe_str pa_nil rfl)) rfl)) rfl)) rfl)))) pa_nil rfl)) rfl)) rfl)))))) rfl (Or.inl rfl)))
        (no_implicit_lambda% (@pss_cons _ _ _ _ _ (no_implicit_lambda% (@ps_set _ _ 4 _ _ _ _ nd rfl (Or.inl rfl) (no_implicit_lambda% (pe_op op_cat (no_implicit_lambda% (pv 4)) (no_implicit_lambda% (pe_comp ["_law_way"] [2, 10, 9] (no_implicit_lambda% (pi_listK K (no_implicit_lambda% (pv 11)))) (fun _ => (no_implicit_lambda% (pg_name (i := 0) (show (["_law_way", "_law_many", "_law_high", "_law_low"] : List Str).Nodup from by decide +kernel) rfl (Or.inl rfl) (Or.inr rfl)))) (fun _ => pcs_nil) (fun _ => (no_implicit_lambda% (@pe_tup _ _ _ _ _ (no_implicit_lambda% (@pa_cons _ _ _ _ _ (no_implicit_lambda% (pv 1)) (no_implicit_lambda% (@pa_cons _ _ _ _ _ (no_implicit_lambda% (pe_op op_catT1 (no_implicit_lambda% (pe_op op_catT1 (no_implicit_lambda% (pv 3)) (no_implicit_lambda% (@pe_tup _ _ _ _ _ (no_implicit_lambda% (@pa_cons _ _ _ _ _ (no_implicit_lambda% (pv 0)) pa_nil rfl)))))) (no_implicit_lambda% (pv 2)))) pa_nil rfl)) rfl))))))))) rfl (Or.inl rfl)))
        (no_implicit_lambda% (@pss_cons _ _ _ _ _ (no_implicit_lambda% (ps_ifJ (no_implicit_lambda% (pt_cmpR op_gt (no_implicit_lambda% (pe_callB (call_lenK K) rfl T.len_ PySem.boot_len (no_implicit_lambda% (@pa_cons _ _ _ _ _ (no_implicit_lambda% (pv 3)) pa_nil rfl)))) pe_int (nomark _))) (no_implicit_lambda% (@pss_one _ _ _ (no_implicit_lambda% (ps_expr (no_implicit_lambda% (pe_bmK K PySem.F.plainAttrs_list PySem.F.slot_list_append PySem.F.type_list_append mt_append (no_implicit_lambda% (pv 4)) (no_implicit_lambda% (@pa_cons _ _ _ _ _ (no_implicit_lambda% (@pe_tup _ _ _ _ _ (no_implicit_lambda% (@pa_cons _ _ _ _ _ (no_implicit_lambda% (pv 2)) (no_implicit_lambda% (@pa_cons _ _ _ _ _ (no_implicit_lambda% (pe_op op_catT1 (no_implicit_lambda% (pv 3)) (no_implicit_lambda% (@pe_tup _ _ _ _ _ (no_implicit_lambda% (@pa_cons _ _ _ _ _ (no_implicit_lambda% (@pe_ix _ _ _ _ _ _ _ (ix_tupK K) (no_implicit_lambda% (pv 3)) (no_implicit_lambda% (pv 1)) (fun _ _ => rfl))) pa_nil rfl)))))) pa_nil rfl)) rfl)))) pa_nil rfl)))))))) pss_nil))
        (no_implicit_lambda% (@pss_one _ _ _ (no_implicit_lambda% (@ps_ret _ _ _ _ (no_implicit_lambda% (pv 4)))))))))))))))))))))))))))))))))))))))))), ?_⟩
    walk_at "rd"
    refine rd_gtup (SqT.of h1) rfl ?_
    walk_at "rd"
    refine ⟨small_line (by simp), rd_new fun p1 G1 e1 k1 _ => ?_⟩
    walk_at "ds"
    refine ⟨small_line (by simp), rd_new fun p2 G2 e2 k2 _ => ?_⟩
    walk_at "ds"
    refine ⟨small_line (by simp), rd_new fun p3 G3 e3 k3 _ => ?_⟩
    walk_at "ds"
    refine ⟨small_line (by simp), rd_new fun p4 G4 e4 k4 _ => ?_⟩
    walk_at "ds"
    refine rd_listT (SqT.of ((e1.trans (e2.trans (e3.trans e4))) _ _ h2)) (rd_new fun p5 G5 e5 k5 _ => ?_)
    walk_at "ds"
    refine ⟨small_line (by simp), rd_new fun p6 G6 e6 k6 _ => ?_⟩
    walk_at "ds"
    refine ⟨small_line (by simp), rd_new fun p7 G7 e7 k7 _ => ?_⟩
    walk_at "ds"
    refine ⟨small_line (by simp), rd_new fun p8 G8 e8 k8 _ => ?_⟩
    walk_at "ds"
    refine ⟨small_line (by simp), rd_new fun p9 G9 e9 k9 _ => ?_⟩
    walk_at "ds"
    refine ⟨small_line (by simp), rd_new fun p10 G10 e10 k10 _ => ?_⟩
    walk_at "rd"
    have F1 : TLst G10 p10 4 11 := ⟨_, k10, by simp, (.cons (thg_non _ _) (.cons (thg_bl _ _ _) (.cons (thg_int _ _ _) (.cons (thg_str _ _ (by decide +kernel)) (.cons ((thg_tup (n := 3) k1 (by simp) (.nil _ _)).ext (e2.trans (e3.trans (e4.trans (e5.trans (e6.trans (e7.trans (e8.trans (e9.trans e10))))))))) (.cons ((thg_lst (n := 3) k2 (by simp) (.nil _ _)).ext (e3.trans (e4.trans (e5.trans (e6.trans (e7.trans (e8.trans (e9.trans e10)))))))) (.cons ((thg_tup (n := 3) k3 (by simp) (.cons (thg_int _ _ _) (.nil _ _))).ext (e4.trans (e5.trans (e6.trans (e7.trans (e8.trans (e9.trans e10))))))) (.cons ((thg_lst (n := 3) k4 (by simp) (.cons (thg_int _ _ _) (.cons (tr.up.ext (e1.trans (e2.trans (e3.trans e4)))) (.nil _ _)))).ext (e5.trans (e6.trans (e7.trans (e8.trans (e9.trans e10)))))) (.cons ((thg_tup (n := 3) k6 (by simp) (.cons (thg_int _ _ _) (.cons ((thg_lst (n := 2) k5 (Nat.le_trans hxl (by decide)) (hts.up.ext (e1.trans (e2.trans (e3.trans (e4.trans e5)))))).ext e6) (.nil _ _)))).ext (e7.trans (e8.trans (e9.trans e10)))) (.cons ((thg_tup (n := 3) k8 (by simp) (.cons (thg_int _ _ _) (.cons (tr.up.ext (e1.trans (e2.trans (e3.trans (e4.trans (e5.trans (e6.trans (e7.trans e8)))))))) (.cons ((thg_tup (n := 2) k7 (by simp) (.nil _ _)).ext e8) (.nil _ _))))).ext (e9.trans e10)) (.cons ((thg_tup (n := 3) k9 (by simp) (.cons (thg_int _ _ _) (.cons (thg_non _ _) (.nil _ _)))).ext e10) (.nil _ _))))))))))))⟩
    clear k1 k2 k3 k4 k5 k6 k7 k8 k9 k10
    have b10 : Ext H G10 := Ext.trans (Ext.rfl' H) (e1.trans (e2.trans (e3.trans (e4.trans (e5.trans (e6.trans (e7.trans (e8.trans (e9.trans e10)))))))))
    clear e1
    clear e2
    clear e3
    clear e4
    clear e5
    clear e6
    clear e7
    clear e8
    clear e9
    clear e10
    refine ⟨small_line (by simp), rd_new fun p11 G11 e11 k11 _ => ?_⟩
    walk_at "ds"
    refine ⟨small_line (by simp), rd_new fun p12 G12 e12 k12 _ => ?_⟩
    walk_at "ds"
    refine ⟨small_line (by simp), rd_new fun p13 G13 e13 k13 _ => ?_⟩
    walk_at "ds"
    refine ⟨small_line (by simp), rd_new fun p14 G14 e14 k14 _ => ?_⟩
    walk_at "ds"
    refine ⟨small_line (by simp), rd_new fun p15 G15 e15 k15 _ => ?_⟩
    walk_at "ds"
    refine ⟨small_line (by simp), rd_new fun p16 G16 e16 k16 _ => ?_⟩
    walk_at "ds"
    refine ⟨small_line (by simp), rd_new fun p17 G17 e17 k17 _ => ?_⟩
    walk_at "ds"
    refine ⟨small_line (by simp), rd_new fun p18 G18 e18 k18 _ => ?_⟩
    walk_at "ds"
    refine ⟨small_line (by simp), rd_new fun p19 G19 e19 k19 _ => ?_⟩
    walk_at "ds"
    refine ⟨small_line (by simp), rd_new fun p20 G20 e20 k20 _ => ?_⟩
    walk_at "ds"
    refine ⟨small_line (by simp), rd_new fun p21 G21 e21 k21 _ => ?_⟩
    walk_at "ds"
    refine ⟨small_line (by simp), rd_new fun p22 G22 e22 k22 _ => ?_⟩
    walk_at "ds"
    refine ⟨small_line (by simp), rd_new fun p23 G23 e23 k23 _ => ?_⟩
    walk_at "ds"
    refine ⟨small_line (by simp), rd_new fun p24 G24 e24 k24 _ => ?_⟩
    walk_at "ds"
    refine ⟨small_line (by simp), rd_new fun p25 G25 e25 k25 _ => ?_⟩
    walk_at "ds"
    refine ⟨small_line (by simp), rd_new fun p26 G26 e26 k26 _ => ?_⟩
    walk_at "ds"
    refine ⟨small_line (by simp), rd_new fun p27 G27 e27 k27 _ => ?_⟩
    walk_at "rd"
    have F2 : TLst G27 p27 4 9 := ⟨_, k27, by simp, (.cons ((thg_tup (n := 3) k12 (by simp) (.cons (thg_int _ _ _) (.cons ((thg_tup (n := 2) k11 (by simp) (.nil _ _)).ext e12) (.nil _ _)))).ext (e13.trans (e14.trans (e15.trans (e16.trans (e17.trans (e18.trans (e19.trans (e20.trans (e21.trans (e22.trans (e23.trans (e24.trans (e25.trans (e26.trans e27))))))))))))))) (.cons ((thg_tup (n := 3) k14 (by simp) (.cons (thg_int _ _ _) (.cons ((thg_tup (n := 2) k13 (by simp) (.nil _ _)).ext e14) (.nil _ _)))).ext (e15.trans (e16.trans (e17.trans (e18.trans (e19.trans (e20.trans (e21.trans (e22.trans (e23.trans (e24.trans (e25.trans (e26.trans e27))))))))))))) (.cons ((thg_tup (n := 3) k16 (by simp) (.cons (thg_int _ _ _) (.cons ((thg_tup (n := 2) k15 (by simp) (.nil _ _)).ext e16) (.nil _ _)))).ext (e17.trans (e18.trans (e19.trans (e20.trans (e21.trans (e22.trans (e23.trans (e24.trans (e25.trans (e26.trans e27))))))))))) (.cons ((thg_tup (n := 3) k18 (by simp) (.cons (thg_bl _ _ _) (.cons ((thg_tup (n := 2) k17 (by simp) (.nil _ _)).ext e18) (.nil _ _)))).ext (e19.trans (e20.trans (e21.trans (e22.trans (e23.trans (e24.trans (e25.trans (e26.trans e27))))))))) (.cons ((thg_tup (n := 3) k20 (by simp) (.cons (thg_str _ _ (by decide +kernel)) (.cons ((thg_tup (n := 2) k19 (by simp) (.nil _ _)).ext e20) (.nil _ _)))).ext (e21.trans (e22.trans (e23.trans (e24.trans (e25.trans (e26.trans e27))))))) (.cons ((thg_tup (n := 3) k21 (by simp) (.cons (thg_non _ _) (.cons ((tr.up.ext b10).ext (e11.trans (e12.trans (e13.trans (e14.trans (e15.trans (e16.trans (e17.trans (e18.trans (e19.trans (e20.trans e21))))))))))) (.nil _ _)))).ext (e22.trans (e23.trans (e24.trans (e25.trans (e26.trans e27)))))) (.cons ((thg_tup (n := 3) k24 (by simp) (.cons (thg_int _ _ _) (.cons ((thg_tup (n := 2) k23 (by simp) (.cons ((thg_tup (n := 1) k22 (by simp) (.nil _ _)).ext e23) (.nil _ _))).ext e24) (.nil _ _)))).ext (e25.trans (e26.trans e27))) (.cons ((thg_tup (n := 3) k26 (by simp) (.cons (thg_int _ _ _) (.cons ((thg_tup (n := 2) k25 (by simp) (.cons (thg_non _ _) (.nil _ _))).ext e26) (.nil _ _)))).ext e27) (.cons ((tr.up.up.ext b10).ext (e11.trans (e12.trans (e13.trans (e14.trans (e15.trans (e16.trans (e17.trans (e18.trans (e19.trans (e20.trans (e21.trans (e22.trans (e23.trans (e24.trans (e25.trans (e26.trans e27))))))))))))))))) (.nil _ _))))))))))⟩
    obtain ⟨xs1, x1, y1, z1⟩ := F1.ext (e11.trans (e12.trans (e13.trans (e14.trans (e15.trans (e16.trans (e17.trans (e18.trans (e19.trans (e20.trans (e21.trans (e22.trans (e23.trans (e24.trans (e25.trans (e26.trans e27))))))))))))))))
    obtain ⟨xs2, x2, y2, z2⟩ := F2
    refine rd_cat x1 x2 (small9 (by omega)) (rd_new fun p28 G28 e28 k28 _ => ?_)
    have F3 : TLst G28 p28 4 20 := ⟨_, k28, by rw [List.length_append]; omega, (z1.app z2).ext e28⟩
    clear k11 k12 k13 k14 k15 k16 k17 k18 k19 k20 k21 k22 k23 k24 k25 k26 k27 k28 x1 y1 z1 x2 y2 z2 F1
    have b28 : Ext H G28 := Ext.trans b10 (e11.trans (e12.trans (e13.trans (e14.trans (e15.trans (e16.trans (e17.trans (e18.trans (e19.trans (e20.trans (e21.trans (e22.trans (e23.trans (e24.trans (e25.trans (e26.trans (e27.trans e28)))))))))))))))))
    clear e11
    clear e12
    clear e13
    clear e14
    clear e15
    clear e16
    clear e17
    clear e18
    clear e19
    clear e20
    clear e21
    clear e22
    clear e23
    clear e24
    clear e25
    clear e26
    clear e27
    clear e28
    walk_at "rd"
    generalize hσ : List.set _ 4 (some (V.ref p28)) = σ0
    have hσ' : σ0 = [some (.ref p), some (.int a), some (.int m), some (.ref r), some (.ref p28), none, none, none, none, none, none, none] := hσ.symm
    clear hσ
    subst hσ'
    refine ⟨small_line (by simp), rd_new fun p29 G29 e29 k29 _ => ?_⟩
    walk_at "rd"
    refine rd_gtup (SqT.of k29) rfl ?_
    walk_at "rd"
    refine ⟨small_line (by simp), rd_new fun p30 G30 e30 k30 _ => ?_⟩
    walk_at "rd"
    refine ⟨small_line (by simp), rd_new fun p31 G31 e31 k31 _ => ?_⟩
    walk_at "rd"
    generalize hσ : List.set _ 10 (some (V.ref p31)) = σ0
    have hσ' : σ0 = [some (.ref p), some (.int a), some (.int m), some (.ref r), some (.ref p28), some (.int 0), some (.str (Str.ofString "up")), some (.int 0), some (.str (Str.ofString "a")), some (.ref p30), some (.ref p31), none] := hσ.symm
    clear hσ
    subst hσ'
    refine ⟨fun σ' J => ∃ (at_ i1 i2 : Int) (z1 z2 : Str) (lo hi : Addr) (xl xh : List V), (0 ≤ i1 ∧ i1 < 12) ∧ z1.length ≤ 1000 ∧ z2.length ≤ 1000 ∧ J lo = some (.tup xl) ∧ J hi = some (.tup xh) ∧ xl.length ≤ 100 ∧ xh.length ≤ 100 ∧ Ths J 2 xl ∧ Ths J 2 xh ∧ Ext G28 J ∧ (0 < bs.length → 0 ≤ at_ ∧ at_ < bs.length) ∧ σ' = [some (.ref p), some (.int at_), some (.int m), some (.ref r), some (.ref p28), some (.int i1), some (.str z1), some (.int i2), some (.str z2), some (.ref lo), some (.ref hi), none], ?_, ?_⟩
    · walk_at "rd"
      refine rd_lenT (SqT.of ((e29.trans (e30.trans e31)) _ _ (b28 _ _ h2))) ?_
      walk_at "rd"
      refine ite2 (fun hc => ?_) (fun hc => ?_)
      · have hpos : 0 < bs.length := by
          rw [List.length_map] at hc
          simp only [decide_eq_true_eq] at hc
          omega
        have eJ : Ext H G31 := b28.trans (e29.trans (e30.trans e31))
        walk_at "rd"
        refine rd_lenT (SqT.of (eJ _ _ h2)) ?_
        try refine rd_I (show (0 : Int) < (((bs.map V.ref).length : Nat) : Int) by rw [List.length_map]; omega) ?_
        walk_at "rd"
        rw [List.length_map]
        have a0 : 0 ≤ a % ((bs.length : Nat) : Int) := Int.emod_nonneg _ (by omega)
        have a1 : a % ((bs.length : Nat) : Int) < ((bs.length : Nat) : Int) := Int.emod_lt_of_pos _ (by omega)
        generalize a % ((bs.length : Nat) : Int) = at_ at a0 a1 ⊢
        have hlt : at_.toNat < bs.length := by omega
        have hlw : at_.toNat < ws.length := by omega
        obtain ⟨bv, hb⟩ : ∃ b, bs[at_.toNat]? = some b := ⟨_, List.getElem?_eq_getElem hlt⟩
        obtain ⟨⟨r0, d0, o0, g0⟩, hw⟩ : ∃ u, ws[at_.toNat]? = some u := ⟨_, List.getElem?_eq_getElem hlw⟩
        have hwt : H bv = some (.tup [.int r0, .str d0, .int o0, .str g0]) := hal.2 _ _ _ hb hw
        have wok := ok.ok _ (List.mem_of_getElem? hw)
        have w0 : 0 ≤ r0 := wok.r0
        have w1 : r0 < m := wok.r1
        have w2 : d0.length ≤ 1000 := deed_len wok.dd
        have w3 : g0.length ≤ 1000 := sign_len wok.sg
        refine rd_ixT (SqT.of (eJ _ _ h2)) (v := .ref bv) (atI_of a0 (by rw [List.getElem?_map, hb]; rfl)) ?_
        clear hb hw hlt hlw wok
        walk_at "rd"
        refine rd_gtup (SqT.of (eJ _ _ hwt)) rfl ?_
        walk_at "rd"
        refine rd_slT1 (eJ _ _ h2) fun lo J1 j1 kl => ?_
        walk_at "rd"
        refine rd_slT1 ((eJ.trans j1) _ _ h2) fun hi J2 j2 kh => ?_
        walk_at "rd"
        exact ⟨at_, r0, o0, d0, g0, lo, hi, _, _, ⟨w0, by omega⟩, w2, w3, j2 _ _ kl, kh, cut_len hxl, cut_len hxl, (hts.up.ext (eJ.trans (j1.trans j2))).cut, (hts.up.ext (eJ.trans (j1.trans j2))).cut, (e29.trans (e30.trans e31)).trans (j1.trans j2), fun _ => ⟨a0, a1⟩, rfl⟩
      · have hno : ¬ 0 < bs.length := by
          rw [List.length_map] at hc
          simp only [decide_eq_true_eq] at hc
          omega
        walk_at "rd"
        exact ⟨a, 0, 0, Str.ofString "up", Str.ofString "a", p30, p31, [], [], ⟨by decide, by decide⟩, by decide +kernel, by decide +kernel, (e31 _ _ k30), k31, by simp, by simp, .nil _ _, .nil _ _, (e29.trans (e30.trans e31)), fun hq => absurd hq hno, rfl⟩
    rintro σ' J ⟨at_, i1, i2, z1, z2, lo, hi, xl, xh, hi1, hz1, hz2, klo, khi, ll, lh, tl, th, ej, hat, rfl⟩
    clear k29 k30 k31 e29 e30 e31
    have bJ : Ext H J := b28.trans ej
    walk_at "rd"
    refine ⟨small_line (by simp), rd_new fun p32 G32 e32 k32 _ => ?_⟩
    walk_at "ds"
    refine ⟨small_line (by simp), rd_new fun p33 G33 e33 k33 _ => ?_⟩
    walk_at "ds"
    refine ⟨small_line (by simp), rd_new fun p34 G34 e34 k34 _ => ?_⟩
    walk_at "ds"
    refine ⟨small_line (by simp), rd_new fun p35 G35 e35 k35 _ => ?_⟩
    walk_at "ds"
    refine ⟨small_line (by simp), rd_new fun p36 G36 e36 k36 _ => ?_⟩
    walk_at "rd"
    have A1 : TLst G36 p36 2 4 := ⟨_, k36, by simp, (.cons ((thg_tup (n := 1) k32 (by simp) (.cons (thg_int _ _ _) (.cons (thg_str _ _ hz1) (.cons (thg_int _ _ _) (.cons (thg_str _ _ hz2) (.nil _ _)))))).ext (e33.trans (e34.trans (e35.trans e36)))) (.cons ((thg_tup (n := 1) k33 (by simp) (.cons (thg_int _ _ _) (.cons (thg_str _ _ hz1) (.cons (thg_int _ _ _) (.cons (thg_str _ _ hz2) (.nil _ _)))))).ext (e34.trans (e35.trans e36))) (.cons ((thg_tup (n := 1) k34 (by simp) (.cons (thg_int _ _ _) (.cons (thg_str _ _ hz1) (.cons (thg_int _ _ _) (.cons (thg_str _ _ hz2) (.nil _ _)))))).ext (e35.trans e36)) (.cons ((thg_tup (n := 1) k35 (by simp) (.cons (thg_int _ _ _) (.cons (thg_str _ _ hz1) (.cons (thg_int _ _ _) (.cons (thg_str _ _ hz2) (.nil _ _)))))).ext e36) (.nil _ _)))))⟩
    clear k32 k33 k34 k35 k36
    have b36 : Ext H G36 := Ext.trans bJ (e32.trans (e33.trans (e34.trans (e35.trans e36))))
    have c36 : Ext J G36 := (e32.trans (e33.trans (e34.trans (e35.trans e36))))
    clear e32 e33 e34 e35 e36
    refine ⟨small_line (by simp), rd_new fun p37 G37 e37 k37 _ => ?_⟩
    walk_at "ds"
    refine ⟨small_line (by simp), rd_new fun p38 G38 e38 k38 _ => ?_⟩
    walk_at "ds"
    refine ⟨small_line (by simp), rd_new fun p39 G39 e39 k39 _ => ?_⟩
    walk_at "ds"
    refine ⟨small_line (by simp), rd_new fun p40 G40 e40 k40 _ => ?_⟩
    walk_at "rd"
    have B0 : TLst G40 p40 2 3 := ⟨_, k40, by simp, (.cons ((thg_tup (n := 1) k37 (by simp) (.cons (thg_int _ _ _) (.cons (thg_str _ _ (by decide +kernel)) (.cons (thg_int _ _ _) (.cons (thg_str _ _ hz2) (.nil _ _)))))).ext (e38.trans (e39.trans e40))) (.cons ((thg_tup (n := 1) k38 (by simp) (.cons (thg_int _ _ _) (.cons (thg_str _ _ (by decide +kernel)) (.cons (thg_int _ _ _) (.cons (thg_str _ _ hz2) (.nil _ _)))))).ext (e39.trans e40)) (.cons ((thg_tup (n := 1) k39 (by simp) (.cons (thg_int _ _ _) (.cons (thg_non _ _) (.cons (thg_int _ _ _) (.cons (thg_str _ _ hz2) (.nil _ _)))))).ext e40) (.nil _ _))))⟩
    obtain ⟨xs1, x1, y1, q1⟩ := A1.ext (e37.trans (e38.trans (e39.trans e40)))
    obtain ⟨xs2, x2, y2, q2⟩ := B0
    refine rd_cat x1 x2 (small9 (by omega)) (rd_new fun p41 G41 e41 k41 _ => ?_)
    have A2 : TLst G41 p41 2 7 := ⟨_, k41, by rw [List.length_append]; omega, (q1.app q2).ext e41⟩
    clear k37 k38 k39 k40 k41 x1 y1 q1 x2 y2 q2 A1
    have b41 : Ext H G41 := Ext.trans b36 (e37.trans (e38.trans (e39.trans (e40.trans e41))))
    have c41 : Ext J G41 := Ext.trans c36 (e37.trans (e38.trans (e39.trans (e40.trans e41))))
    clear e37 e38 e39 e40 e41
    walk_at "rd"
    generalize hσ : List.set _ 11 (some (V.ref p41)) = σ0
    have hσ' : σ0 = [some (.ref p), some (.int at_), some (.int m), some (.ref r), some (.ref p28), some (.int i1), some (.str z1), some (.int i2), some (.str z2), some (.ref lo), some (.ref hi), some (.ref p41)] := hσ.symm
    clear hσ
    subst hσ'
    refine ⟨small_line (by simp), rd_new fun p42 G42 e42 k42 _ => ?_⟩
    walk_at "ds"
    refine ⟨small_line (by simp), rd_new fun p43 G43 e43 k43 _ => ?_⟩
    walk_at "ds"
    refine ⟨small_line (by simp), rd_new fun p44 G44 e44 k44 _ => ?_⟩
    walk_at "ds"
    refine ⟨small_line (by simp), rd_new fun p45 G45 e45 k45 _ => ?_⟩
    walk_at "rd"
    have B1 : TLst G45 p45 2 3 := ⟨_, k45, by simp, (.cons ((thg_tup (n := 1) k42 (by simp) (.cons (thg_int _ _ _) (.cons (thg_int _ _ _) (.cons (thg_int _ _ _) (.cons (thg_str _ _ hz2) (.nil _ _)))))).ext (e43.trans (e44.trans e45))) (.cons ((thg_tup (n := 1) k43 (by simp) (.cons (thg_int _ _ _) (.cons (thg_str _ _ hz1) (.cons (thg_int _ _ _) (.cons (thg_str _ _ (by decide +kernel)) (.nil _ _)))))).ext (e44.trans e45)) (.cons ((thg_tup (n := 1) k44 (by simp) (.cons (thg_int _ _ _) (.cons (thg_str _ _ hz1) (.cons (thg_int _ _ _) (.cons (thg_str _ _ (by decide +kernel)) (.nil _ _)))))).ext e45) (.nil _ _))))⟩
    obtain ⟨xs1, x1, y1, q1⟩ := A2.ext (e42.trans (e43.trans (e44.trans e45)))
    obtain ⟨xs2, x2, y2, q2⟩ := B1
    refine rd_cat x1 x2 (small9 (by omega)) (rd_new fun p46 G46 e46 k46 _ => ?_)
    have A3 : TLst G46 p46 2 10 := ⟨_, k46, by rw [List.length_append]; omega, (q1.app q2).ext e46⟩
    clear k42 k43 k44 k45 k46 x1 y1 q1 x2 y2 q2 A2
    have b46 : Ext H G46 := Ext.trans b41 (e42.trans (e43.trans (e44.trans (e45.trans e46))))
    have c46 : Ext J G46 := Ext.trans c41 (e42.trans (e43.trans (e44.trans (e45.trans e46))))
    clear e42 e43 e44 e45 e46
    walk_at "rd"
    generalize hσ : List.set _ 11 (some (V.ref p46)) = σ0
    have hσ' : σ0 = [some (.ref p), some (.int at_), some (.int m), some (.ref r), some (.ref p28), some (.int i1), some (.str z1), some (.int i2), some (.str z2), some (.ref lo), some (.ref hi), some (.ref p46)] := hσ.symm
    clear hσ
    subst hσ'
    refine ⟨small_line (by simp), rd_new fun p47 G47 e47 k47 _ => ?_⟩
    walk_at "ds"
    refine ⟨small_line (by simp), rd_new fun p48 G48 e48 k48 _ => ?_⟩
    walk_at "ds"
    refine ⟨small_line (by simp), rd_new fun p49 G49 e49 k49 _ => ?_⟩
    walk_at "ds"
    refine ⟨small_line (by simp), rd_new fun p50 G50 e50 k50 _ => ?_⟩
    walk_at "rd"
    have B2 : TLst G50 p50 2 3 := ⟨_, k50, by simp, (.cons ((thg_tup (n := 1) k47 (by simp) (.cons (thg_int _ _ _) (.cons (thg_str _ _ hz1) (.cons (thg_int _ _ _) (.cons (thg_str _ _ (by decide +kernel)) (.nil _ _)))))).ext (e48.trans (e49.trans e50))) (.cons ((thg_tup (n := 1) k48 (by simp) (.cons (thg_int _ _ _) (.cons (thg_str _ _ hz1) (.cons (thg_int _ _ _) (.cons (thg_non _ _) (.nil _ _)))))).ext (e49.trans e50)) (.cons ((thg_tup (n := 1) k49 (by simp) (.cons (thg_int _ _ _) (.cons (thg_str _ _ hz1) (.cons (thg_int _ _ _) (.cons (thg_str _ _ (by decide +kernel)) (.nil _ _)))))).ext e50) (.nil _ _))))⟩
    obtain ⟨xs1, x1, y1, q1⟩ := A3.ext (e47.trans (e48.trans (e49.trans e50)))
    obtain ⟨xs2, x2, y2, q2⟩ := B2
    refine rd_cat x1 x2 (small9 (by omega)) (rd_new fun p51 G51 e51 k51 _ => ?_)
    have A4 : TLst G51 p51 2 13 := ⟨_, k51, by rw [List.length_append]; omega, (q1.app q2).ext e51⟩
    clear k47 k48 k49 k50 k51 x1 y1 q1 x2 y2 q2 A3
    have b51 : Ext H G51 := Ext.trans b46 (e47.trans (e48.trans (e49.trans (e50.trans e51))))
    have c51 : Ext J G51 := Ext.trans c46 (e47.trans (e48.trans (e49.trans (e50.trans e51))))
    clear e47 e48 e49 e50 e51
    walk_at "rd"
    generalize hσ : List.set _ 11 (some (V.ref p51)) = σ0
    have hσ' : σ0 = [some (.ref p), some (.int at_), some (.int m), some (.ref r), some (.ref p28), some (.int i1), some (.str z1), some (.int i2), some (.str z2), some (.ref lo), some (.ref hi), some (.ref p51)] := hσ.symm
    clear hσ
    subst hσ'
    refine ⟨small_line (by simp), rd_new fun p52 G52 e52 k52 _ => ?_⟩
    walk_at "ds"
    refine ⟨small_line (by simp), rd_new fun p53 G53 e53 k53 _ => ?_⟩
    walk_at "ds"
    refine ⟨small_line (by simp), rd_new fun p54 G54 e54 k54 _ => ?_⟩
    walk_at "ds"
    refine ⟨small_line (by simp), rd_new fun p55 G55 e55 k55 _ => ?_⟩
    walk_at "ds"
    refine ⟨small_line (by simp), rd_new fun p56 G56 e56 k56 _ => ?_⟩
    walk_at "rd"
    have B3 : TLst G56 p56 2 3 := ⟨_, k56, by simp, (.cons ((thg_tup (n := 1) k52 (by simp) (.cons (thg_int _ _ _) (.cons (thg_str _ _ hz1) (.cons (thg_int _ _ _) (.cons (thg_int _ _ _) (.nil _ _)))))).ext (e53.trans (e54.trans (e55.trans e56)))) (.cons ((thg_tup (n := 1) k54 (by simp) (.cons (thg_int _ _ _) (.cons (thg_str _ _ hz1) (.cons (thg_int _ _ _) (.cons ((thg_lst (n := 0) k53 (by simp) (.cons (thg_str _ _ (by decide +kernel)) (.nil _ _))).ext e54) (.nil _ _)))))).ext (e55.trans e56)) (.cons ((thg_lst (n := 1) k55 (by simp) (.cons (thg_int _ _ _) (.cons (thg_str _ _ hz1) (.cons (thg_int _ _ _) (.cons (thg_str _ _ hz2) (.nil _ _)))))).ext e56) (.nil _ _))))⟩
    obtain ⟨xs1, x1, y1, q1⟩ := A4.ext (e52.trans (e53.trans (e54.trans (e55.trans e56))))
    obtain ⟨xs2, x2, y2, q2⟩ := B3
    refine rd_cat x1 x2 (small9 (by omega)) (rd_new fun p57 G57 e57 k57 _ => ?_)
    have A5 : TLst G57 p57 2 16 := ⟨_, k57, by rw [List.length_append]; omega, (q1.app q2).ext e57⟩
    clear k52 k53 k54 k55 k56 k57 x1 y1 q1 x2 y2 q2 A4
    have b57 : Ext H G57 := Ext.trans b51 (e52.trans (e53.trans (e54.trans (e55.trans (e56.trans e57)))))
    have c57 : Ext J G57 := Ext.trans c51 (e52.trans (e53.trans (e54.trans (e55.trans (e56.trans e57)))))
    clear e52 e53 e54 e55 e56 e57
    walk_at "rd"
    generalize hσ : List.set _ 11 (some (V.ref p57)) = σ0
    have hσ' : σ0 = [some (.ref p), some (.int at_), some (.int m), some (.ref r), some (.ref p28), some (.int i1), some (.str z1), some (.int i2), some (.str z2), some (.ref lo), some (.ref hi), some (.ref p57)] := hσ.symm
    clear hσ
    subst hσ'
    refine ⟨small_line (by simp), rd_new fun p58 G58 e58 k58 _ => ?_⟩
    walk_at "ds"
    refine ⟨small_line (by simp), rd_new fun p59 G59 e59 k59 _ => ?_⟩
    walk_at "ds"
    refine ⟨_, rfl, log_small hi1.1 hi1.2, ?_⟩
    walk_at "ds"
    refine ⟨small_line (by simp), rd_new fun p60 G60 e60 k60 _ => ?_⟩
    walk_at "ds"
    refine ⟨small_line (by simp), rd_new fun p61 G61 e61 k61 _ => ?_⟩
    walk_at "rd"
    have B4 : TLst G61 p61 2 5 := ⟨_, k61, by simp, (.cons ((thg_tup (n := 1) k58 (by simp) (.cons (thg_int _ _ _) (.cons (thg_str _ _ hz1) (.cons (thg_int _ _ _) (.nil _ _))))).ext (e59.trans (e60.trans e61))) (.cons ((thg_tup (n := 1) k59 (by simp) (.cons (thg_int _ _ _) (.cons (thg_str _ _ hz1) (.cons (thg_int _ _ _) (.cons (thg_str _ _ hz2) (.cons (thg_str _ _ hz2) (.nil _ _))))))).ext (e60.trans e61)) (.cons ((thg_tup (n := 1) k60 (by simp) (.cons (thg_str _ _ (str_small hi1.1 hi1.2)) (.cons (thg_str _ _ hz1) (.cons (thg_int _ _ _) (.cons (thg_str _ _ hz2) (.nil _ _)))))).ext e61) (.cons (thg_str _ _ (by decide +kernel)) (.cons (thg_int _ _ _) (.nil _ _))))))⟩
    obtain ⟨xs1, x1, y1, q1⟩ := A5.ext (e58.trans (e59.trans (e60.trans e61)))
    obtain ⟨xs2, x2, y2, q2⟩ := B4
    refine rd_cat x1 x2 (small9 (by omega)) (rd_new fun p62 G62 e62 k62 _ => ?_)
    have A6 : TLst G62 p62 2 21 := ⟨_, k62, by rw [List.length_append]; omega, (q1.app q2).ext e62⟩
    clear k58 k59 k60 k61 k62 x1 y1 q1 x2 y2 q2 A5
    have b62 : Ext H G62 := Ext.trans b57 (e58.trans (e59.trans (e60.trans (e61.trans e62))))
    have c62 : Ext J G62 := Ext.trans c57 (e58.trans (e59.trans (e60.trans (e61.trans e62))))
    clear e58 e59 e60 e61 e62
    walk_at "rd"
    generalize hσ : List.set _ 11 (some (V.ref p62)) = σ0
    have hσ' : σ0 = [some (.ref p), some (.int at_), some (.int m), some (.ref r), some (.ref p28), some (.int i1), some (.str z1), some (.int i2), some (.str z2), some (.ref lo), some (.ref hi), some (.ref p62)] := hσ.symm
    clear hσ
    subst hσ'
    refine ⟨small_line (by simp), rd_new fun p63 G63 e63 k63 _ => ?_⟩
    walk_at "ds"
    refine ⟨small_line (by simp), rd_new fun p64 G64 e64 k64 _ => ?_⟩
    walk_at "ds"
    refine ⟨small_line (by simp), rd_new fun p65 G65 e65 k65 _ => ?_⟩
    walk_at "ds"
    refine ⟨small_line (by simp), rd_new fun p66 G66 e66 k66 _ => ?_⟩
    walk_at "rd"
    have B5 : TLst G66 p66 2 3 := ⟨_, k66, by simp, (.cons ((thg_tup (n := 1) k63 (by simp) (.cons (thg_bl _ _ _) (.cons (thg_str _ _ hz1) (.cons (thg_int _ _ _) (.cons (thg_str _ _ hz2) (.nil _ _)))))).ext (e64.trans (e65.trans e66))) (.cons ((thg_tup (n := 1) k64 (by simp) (.cons (thg_int _ _ _) (.cons (thg_str _ _ hz1) (.cons (thg_bl _ _ _) (.cons (thg_str _ _ hz2) (.nil _ _)))))).ext (e65.trans e66)) (.cons ((thg_tup (n := 1) k65 (by simp) (.cons (thg_non _ _) (.cons (thg_str _ _ hz1) (.cons (thg_int _ _ _) (.cons (thg_str _ _ hz2) (.nil _ _)))))).ext e66) (.nil _ _))))⟩
    obtain ⟨xs1, x1, y1, q1⟩ := A6.ext (e63.trans (e64.trans (e65.trans e66)))
    obtain ⟨xs2, x2, y2, q2⟩ := B5
    refine rd_cat x1 x2 (small9 (by omega)) (rd_new fun p67 G67 e67 k67 _ => ?_)
    have A7 : TLst G67 p67 2 24 := ⟨_, k67, by rw [List.length_append]; omega, (q1.app q2).ext e67⟩
    clear k63 k64 k65 k66 k67 x1 y1 q1 x2 y2 q2 A6
    have b67 : Ext H G67 := Ext.trans b62 (e63.trans (e64.trans (e65.trans (e66.trans e67))))
    have c67 : Ext J G67 := Ext.trans c62 (e63.trans (e64.trans (e65.trans (e66.trans e67))))
    clear e63 e64 e65 e66 e67
    walk_at "rd"
    generalize hσ : List.set _ 11 (some (V.ref p67)) = σ0
    have hσ' : σ0 = [some (.ref p), some (.int at_), some (.int m), some (.ref r), some (.ref p28), some (.int i1), some (.str z1), some (.int i2), some (.str z2), some (.ref lo), some (.ref hi), some (.ref p67)] := hσ.symm
    clear hσ
    subst hσ'
    refine ⟨small_line (by simp), rd_new fun p68 G68 e68 k68 _ => ?_⟩
    walk_at "ds"
    refine ⟨small_line (by simp), rd_new fun p69 G69 e69 k69 _ => ?_⟩
    walk_at "rd"
    have B6 : TLst G69 p69 2 1 := ⟨_, k69, by simp, (.cons ((thg_tup (n := 1) k68 (by simp) (.cons (thg_int _ _ _) (.cons (thg_str _ _ (by decide +kernel)) (.cons (thg_int _ _ _) (.cons (thg_str _ _ hz2) (.nil _ _)))))).ext e69) (.nil _ _))⟩
    obtain ⟨xs1, x1, y1, q1⟩ := A7.ext (e68.trans e69)
    obtain ⟨xs2, x2, y2, q2⟩ := B6
    refine rd_cat x1 x2 (small9 (by omega)) (rd_new fun p70 G70 e70 k70 _ => ?_)
    have A8 : TLst G70 p70 2 25 := ⟨_, k70, by rw [List.length_append]; omega, (q1.app q2).ext e70⟩
    clear k68 k69 k70 x1 y1 q1 x2 y2 q2 A7
    have b70 : Ext H G70 := Ext.trans b67 (e68.trans (e69.trans e70))
    have c70 : Ext J G70 := Ext.trans c67 (e68.trans (e69.trans e70))
    clear e68 e69 e70
    walk_at "rd"
    generalize hσ : List.set _ 11 (some (V.ref p70)) = σ0
    have hσ' : σ0 = [some (.ref p), some (.int at_), some (.int m), some (.ref r), some (.ref p28), some (.int i1), some (.str z1), some (.int i2), some (.str z2), some (.ref lo), some (.ref hi), some (.ref p70)] := hσ.symm
    clear hσ
    subst hσ'
    refine ⟨small_line (by simp), rd_new fun p71 G71 e71 k71 _ => ?_⟩
    walk_at "ds"
    refine ⟨small_line (by simp), rd_new fun p72 G72 e72 k72 _ => ?_⟩
    walk_at "ds"
    refine ⟨small_line (by simp), rd_new fun p73 G73 e73 k73 _ => ?_⟩
    walk_at "ds"
    refine ⟨small_line (by simp), rd_new fun p74 G74 e74 k74 _ => ?_⟩
    walk_at "ds"
    refine ⟨small_line (by simp), rd_new fun p75 G75 e75 k75 _ => ?_⟩
    walk_at "rd"
    have B7 : TLst G75 p75 2 3 := ⟨_, k75, by simp, (.cons ((thg_tup (n := 1) k71 (by simp) (.cons (thg_int _ _ _) (.cons (thg_str _ _ hz1) (.cons (thg_non _ _) (.cons (thg_str _ _ hz2) (.nil _ _)))))).ext (e72.trans (e73.trans (e74.trans e75)))) (.cons ((thg_tup (n := 1) k73 (by simp) (.cons (thg_int _ _ _) (.cons ((thg_tup (n := 0) k72 (by simp) (.cons (thg_str _ _ (by decide +kernel)) (.nil _ _))).ext e73) (.cons (thg_int _ _ _) (.cons (thg_str _ _ hz2) (.nil _ _)))))).ext (e74.trans e75)) (.cons ((thg_tup (n := 1) k74 (by simp) (.cons (thg_int _ _ _) (.cons (thg_str _ _ hz1) (.cons (thg_int _ _ _) (.cons (thg_str _ _ (by decide +kernel)) (.nil _ _)))))).ext e75) (.nil _ _))))⟩
    obtain ⟨xs1, x1, y1, q1⟩ := A8.ext (e71.trans (e72.trans (e73.trans (e74.trans e75))))
    obtain ⟨xs2, x2, y2, q2⟩ := B7
    refine rd_cat x1 x2 (small9 (by omega)) (rd_new fun p76 G76 e76 k76 _ => ?_)
    have A9 : TLst G76 p76 2 28 := ⟨_, k76, by rw [List.length_append]; omega, (q1.app q2).ext e76⟩
    clear k71 k72 k73 k74 k75 k76 x1 y1 q1 x2 y2 q2 A8
    have b76 : Ext H G76 := Ext.trans b70 (e71.trans (e72.trans (e73.trans (e74.trans (e75.trans e76)))))
    have c76 : Ext J G76 := Ext.trans c70 (e71.trans (e72.trans (e73.trans (e74.trans (e75.trans e76)))))
    clear e71 e72 e73 e74 e75 e76
    walk_at "rd"
    generalize hσ : List.set _ 11 (some (V.ref p76)) = σ0
    have hσ' : σ0 = [some (.ref p), some (.int at_), some (.int m), some (.ref r), some (.ref p28), some (.int i1), some (.str z1), some (.int i2), some (.str z2), some (.ref lo), some (.ref hi), some (.ref p76)] := hσ.symm
    clear hσ
    subst hσ'
    obtain ⟨ss, s1, s2, s3⟩ := A9
    refine rd_iLx (SqL.of s1) ?_
    refine comp_list (xs := ss) (fun i ys H' => Ext G76 H' ∧ Ths H' 4 ys ∧ ys.length = i) (small9 (by omega)) ⟨fun _ _ z => z, .nil _ _, rfl⟩ (fun i ys H' _ h => ⟨SqL.of (h.1 _ _ s1), Nat.le_of_eq h.2.2⟩) ?_ ?_
    · rintro i x ys H' hx ⟨e, ht, hl⟩
      have tx := s3 x (List.mem_of_getElem? hx)
      walk_at "rd"
      refine iteT ?_
      walk_at "rd"
      refine ⟨small_line (by simp), rd_new fun u1 J1 j1 v1 _ => ?_⟩
      walk_at "rd"
      refine rd_catT1 ((c76.trans (e.trans j1)) _ _ klo) v1 (small9 (by simp; omega)) fun u2 J2 j2 v2 => ?_
      walk_at "rd"
      refine rd_catT1 v2 ((c76.trans (e.trans (j1.trans j2))) _ _ khi) (small9 (by simp; omega)) fun u3 J3 j3 v3 => ?_
      walk_at "rd"
      refine ⟨small_line (by simp), rd_new fun u4 J4 j4 v4 _ => ?_⟩
      have eA : Ext G76 J3 := e.trans (j1.trans (j2.trans j3))
      have t3 : Thg J3 3 (.ref u3) := thg_tup v3 (by simp; omega) (((tl.ext (c76.trans eA)).app (.cons (tx.ext eA) (.nil _ _))).app (th.ext (c76.trans eA)))
      have t4 : Thg J4 4 (.ref u4) := thg_tup v4 (by simp) (.cons (thg_int _ _ _) (.cons (t3.ext j4) (.nil _ _)))
      exact ⟨eA.trans j4, (ht.ext (j1.trans (j2.trans (j3.trans j4)))).app (.cons t4 (.nil _ _)), by rw [List.length_append, hl]; rfl⟩
    · rintro ys H' pl ⟨e, ht, hl⟩ hpl
      have eP : Ext G76 (upd H' pl (.lst ys)) := e.trans (ext_upd hpl)
      have tP : TLst (upd H' pl (.lst ys)) pl 4 ss.length := ⟨ys, upd_same, Nat.le_of_eq hl, ht.ext (ext_upd hpl)⟩
      generalize upd H' pl (.lst ys) = J5 at eP tP ⊢
      obtain ⟨ys', y1, y2, y3⟩ := tP
      obtain ⟨xs1, x1, x2, x3⟩ := F3.ext (ej.trans (c76.trans eP))
      refine rd_cat x1 y1 (small9 (by omega)) (rd_new fun pf J6 e6 k6 f6 => ?_)
      have b6 : Ext H J6 := b76.trans (eP.trans e6)
      have hpf : H pf = none := (b76.trans eP).none f6
      have l6 : (xs1 ++ ys').length ≤ 100 := by rw [List.length_append]; omega
      have t5 : Ths J5 4 (xs1 ++ ys') := x3.app y3
      have t6 : Ths J6 4 (xs1 ++ ys') := t5.ext e6
      generalize xs1 ++ ys' = xs6 at k6 l6 t5 t6
      clear ht hl hpl y1 y2 y3 x1 x2 x3 eP s1 s2 s3 klo khi tl th F3
      walk_at "rd"
      refine ⟨fun σ' J7 => ∃ xs, J7 pf = some (.lst xs) ∧ xs.length ≤ 200 ∧ Ths J7 4 xs ∧ Ext H J7 ∧ σ' = [some (.ref p), some (.int at_), some (.int m), some (.ref r), some (.ref pf), some (.int i1), some (.str z1), some (.int i2), some (.str z2), some (.ref lo), some (.ref hi), some (.ref p76)], ?_, ?_⟩
      · walk_at "rd"
        refine rd_lenT (SqT.of (b6 _ _ h2)) ?_
        walk_at "rd"
        refine ite2 (fun hc => ?_) (fun hc => ?_)
        · have hpos : 0 < bs.length := by
            rw [List.length_map] at hc
            simp only [decide_eq_true_eq] at hc
            omega
          obtain ⟨a0, a1⟩ := hat hpos
          have hlt : at_.toNat < bs.length := by omega
          obtain ⟨bv, hb⟩ : ∃ b, bs[at_.toNat]? = some b := ⟨_, List.getElem?_eq_getElem hlt⟩
          have tb : Thg H 1 (.ref bv) := hts _ (List.mem_map.mpr ⟨bv, List.mem_of_getElem? hb, rfl⟩)
          walk_at "rd"
          refine ⟨rd_tyL (SqL.of k6), ?_⟩
          walk_at "rd"
          refine rd_ixT (SqT.of (b6 _ _ h2)) (v := .ref bv) (atI_of a0 (by rw [List.getElem?_map, hb]; rfl)) ?_
          walk_at "rd"
          refine ⟨small_line (by simp), rd_new fun u1 J1 j1 v1 _ => ?_⟩
          walk_at "rd"
          refine rd_catT1 ((b6.trans j1) _ _ h2) v1 (small9 (by simp; omega)) fun u2 J2 j2 v2 => ?_
          walk_at "rd"
          refine ⟨small_line (by simp), rd_new fun u3 J3 j3 v3 _ => ?_⟩
          walk_at "rd"
          have jA : Ext J6 J3 := j1.trans (j2.trans j3)
          refine rd_append (jA _ _ k6) (Nat.lt_of_le_of_lt l6 (by decide)) ?_
          walk_at "rd"
          have n2 : u2 ≠ pf := by
            rintro rfl
            have := (j1.trans j2) _ _ k6
            rw [v2] at this
            cases this
          have n3 : u3 ≠ pf := by
            rintro rfl
            have := jA _ _ k6
            rw [v3] at this
            cases this
          have eW : Ext H (upd J3 pf (.lst (xs6 ++ [.ref u3]))) := ext_write (b6.trans jA) hpf
          have eW5 : Ext J5 (upd J3 pf (.lst (xs6 ++ [.ref u3]))) := ext_write (e6.trans jA) f6
          have t2 : Thg (upd J3 pf (.lst (xs6 ++ [.ref u3]))) 2 (.ref u2) := thg_tup ((upd_ne n2).trans (j3 _ _ v2)) (by simp; omega) ((hts.ext eW).app (.cons (tb.ext eW) (.nil _ _)))
          have t3 : Thg (upd J3 pf (.lst (xs6 ++ [.ref u3]))) 3 (.ref u3) := thg_tup ((upd_ne n3).trans v3) (by simp) (.cons (thg_int _ _ _) (.cons t2 (.nil _ _)))
          exact ⟨_, upd_same, by simp; omega, (t5.ext eW5).app (.cons t3.up (.nil _ _)), eW, rfl⟩
        · walk_at "rd"
          exact ⟨xs6, k6, Nat.le_trans l6 (by decide), t6, b6, rfl⟩
      · rintro σ' J7 ⟨xs, g1, g2, g3, g4, rfl⟩
        walk_at "rd"
        exact q pf J7 xs g4 g1 g2 g3
end My
set_option Elab.async false
set_option linter.all false
set_option maxRecDepth 100000
namespace My
open PySem L2 St
set_option maxHeartbeats 4000000
local macro_rules | `(tactic| walk_at "cond") => `(tactic| first | decide | omega | (dsimp only; omega) | (unfold CMul; omega) | (unfold CPow; exact ⟨by decide, by decide, by decide⟩) | (dsimp only; exact ⟨by omega, by omega⟩) | exact .inr ⟨by decide, by decide⟩ | exact .inl ⟨by decide, by decide⟩ | (unfold SmallR; omega))
local macro_rules | `(tactic| walk_at "sq") => `(tactic| first | assumption | exact SqL.of (by assumption) | exact SqT.of (by assumption) | exact SqL.of (by solve_by_elim) | exact SqT.of (by solve_by_elim) | solve_by_elim)
local macro_rules | `(tactic| walk_at "rd") => do
  let ts ← ("seq ret retN asg drop ifS next name var c op un CB cons nil ints test B exb not and or andV orV notV ifE yes I0 I U EqI NeI EqB NeB call BM tup lst sl noPart part exi chain comp iL iT i1 i2 i3 for tTru intB max2 min2 sub gcons gnil aug ipI zip rev par par2 lam calV raise fs try bseq bnext bplain bif bcall enum gget gin revL leS disp dget lrev disp1 din dnin dput min3 iS iD bm0 revS".splitOn " ").toArray.mapM fun n =>
    let i := Lean.mkIdent (.mkSimple ("rd_" ++ n))
    if n == "var" || n == "aug" then `(tacticSeq| ((with_reducible apply $i); (exact rfl)))
    else if n == "I" then `(tacticSeq| ((with_reducible apply $i); (walk_at "cond")))
    else `(tacticSeq| with_reducible refine $i ?_)
  `(tactic| repeat (first $[| $ts]* | dsimp only))
theorem sign1_ok {c : Nat} (h1 : 97 ≤ c) (h2 : c ≤ 122) : sign1 ⟨#[c]⟩ = true := by
  have ea : (Str.ofString "a").cps.toList = [97] := by decide +kernel
  have ez : (Str.ofString "z").cps.toList = [122] := by decide +kernel
  unfold sign1
  rw [ea, ez]
  show (!decide (([c] : List Nat) < [97]) && !decide (([122] : List Nat) < [c])) = true
  rw [decide_eq_false (fun z => by rw [List.cons_lt_cons_iff] at z; simp at z; omega), decide_eq_false (fun z => by rw [List.cons_lt_cons_iff] at z; simp at z; omega)]
  rfl
theorem deedV_ok {z : Str} (h : okDeed z) : deedV (.str z) = true := by
  rcases h with rfl | rfl | rfl | rfl <;> decide +kernel
theorem wayV_ok {H : Hp} {b : Addr} {m : Int} {w : Way} (h : H b = some (.tup w.vs)) (ok : w.Ok m) : wayV H m (.ref b) = true := by
  rw [way_tup h]
  obtain ⟨c, h1, h2, e⟩ := ok.sg
  unfold Way.vs wayL
  dsimp only
  rw [room_yes ok.r0 ok.r1, room_yes ok.o0 ok.o1, deedV_ok ok.dd, e]
  unfold signV
  dsimp only
  rw [sign1_ok h1 h2]
  rfl
theorem al_keys {H : Hp} : ∀ {bs : List Addr} {ws : List Way}, AlW H bs ws → (bs.map V.ref).map (keyV H) = ws.map Way.key
  | [], [], _ => rfl
  | [], _ :: _, h => by cases h.1
  | _ :: _, [], h => by cases h.1
  | b :: bs, w :: ws, h => by
    rw [List.map_cons, List.map_cons, List.map_cons, al_keys (bs := bs) (ws := ws) ⟨Nat.succ.inj h.1, fun j b w e1 e2 => h.2 (j + 1) b w e1 e2⟩, key_tup (h.2 0 b w rfl rfl)]
    rfl
theorem al_all {H : Hp} {m : Int} {bs : List Addr} {ws : List Way} (h : AlW H bs ws) (ok : ∀ w ∈ ws, w.Ok m) : (bs.map V.ref).all (wayV H m) = true := by
  rw [List.all_eq_true]
  intro x hx
  obtain ⟨b, hb, rfl⟩ := List.mem_map.mp hx
  obtain ⟨j, hj, e⟩ := List.mem_iff_getElem.mp hb
  have hjw : j < ws.length := by rw [← h.1]; exact hj
  exact wayV_ok (h.2 j b _ (by rw [List.getElem?_eq_getElem hj, e]) (List.getElem?_eq_getElem hjw)) (ok _ (List.getElem_mem hjw))
theorem house_is {H : Hp} {p q : Addr} {m : Int} {bs : List Addr} {ws : List Way} (h1 : H p = some (.tup [.int m, .ref q])) (h2 : H q = some (.tup (bs.map V.ref))) (h3 : AlW H bs ws) (m1 : 1 ≤ m) (m2 : m ≤ 12) (ok : ∀ w ∈ ws, w.Ok m) (nd : ws.Nodup) : houseV H (.ref p) = decide (ws.length ≤ 100) := by
  rw [house_tup h1]
  unfold houseL
  dsimp only
  rw [decide_eq_true m1, decide_eq_true m2, ways_tup h2]
  unfold waysL
  have hk : (ws.map Way.key).Nodup := by
    unfold List.Nodup at nd ⊢
    rw [List.pairwise_map]
    exact nd.imp fun ne e => ne (Way.key_inj e)
  rw [al_all h3 ok, al_keys h3, decide_eq_true hk, List.length_map, h3.1]
  simp
theorem waysV_ext {H H' : Hp} {m : Int} {n : Nat} {v : V} (e : Ext H H') (h : Thg H (n + 1) v) : waysV H' m v = waysV H m v := by
  cases v with
  | ref p =>
    obtain ⟨xs, h1, _, h3⟩ := h
    unfold waysV
    dsimp only
    rcases h1 with h1 | h1
    · rw [h1, e _ _ h1]
      dsimp only
      unfold waysL
      have e1 : xs.all (wayV H' m) = xs.all (wayV H m) := by
        rw [Bool.eq_iff_iff, List.all_eq_true, List.all_eq_true]
        exact ⟨fun z x hx => by rw [← wayV_ext e (h3 x hx)]; exact z x hx, fun z x hx => by rw [wayV_ext e (h3 x hx)]; exact z x hx⟩
      have e2 : xs.map (keyV H') = xs.map (keyV H) := List.map_congr_left fun x hx => keyV_ext e (h3 x hx)
      rw [e1, e2]
    · rw [h1, e _ _ h1]
  | _ => rfl
theorem houseV_ext {H H' : Hp} {v : V} (e : Ext H H') (h : Thg H 4 v) : houseV H' v = houseV H v := by
  cases v with
  | ref p =>
    obtain ⟨xs, h1, _, h3⟩ := h
    unfold houseV
    dsimp only
    rcases h1 with h1 | h1
    · rw [h1, e _ _ h1]
      dsimp only
      unfold houseL
      split
      · rename_i m q _hl
        rw [waysV_ext e (h3 q (by simp))]
      · rfl
    · rw [h1, e _ _ h1]
  | _ => rfl
theorem cut_take {xs : List V} {k : Nat} : cutV xs none (some (k : Int)) = xs.take k := by
  unfold cutV
  rw [HT.sIx_none, HT.sIx_nat, List.drop_zero, Nat.sub_zero]
  by_cases h : k ≤ xs.length
  · rw [Nat.min_eq_left h]
  · rw [Nat.min_eq_right (by omega), List.take_of_length_le (Nat.le_refl _), List.take_of_length_le (by omega)]
theorem ways_thg {H : Hp} {q : Addr} {bs : List Addr} {ws : List Way} {m : Int} (h2 : H q = some (.tup (bs.map V.ref))) (h3 : AlW H bs ws) (ok : ∀ w ∈ ws, w.Ok m) (hl : ws.length ≤ 2000) : Thg H 2 (.ref q) := by
  refine thg_tup h2 (by rw [List.length_map, h3.1]; exact hl) fun x hx => ?_
  obtain ⟨b, hb, rfl⟩ := List.mem_map.mp hx
  obtain ⟨j, hj, e⟩ := List.mem_iff_getElem.mp hb
  have hjw : j < ws.length := by rw [← h3.1]; exact hj
  exact thg_tup (h3.2 j b _ (by rw [List.getElem?_eq_getElem hj, e]) (List.getElem?_eq_getElem hjw)) (by show 4 ≤ 2000; decide) (way_ths (ok _ (List.getElem_mem hjw)))
theorem al_take {H : Hp} {bs : List Addr} {ws : List Way} (h : AlW H bs ws) (k : Nat) : AlW H (bs.take k) (ws.take k) := by
  refine ⟨by rw [List.length_take, List.length_take, h.1], fun j b w e1 e2 => ?_⟩
  rw [List.getElem?_take] at e1 e2
  split at e1
  · rename_i hj
    rw [if_pos hj] at e2
    exact h.2 j b w e1 e2
  · cases e1
def sp_law (K : PySem.W.Frag) : Sp := fun vs H Q _ => ∃ (a : Addr) (ns : List Int), vs = [.ref a] ∧ SqL K H a (ns.map V.int) ∧ ns.length ≤ 63 ∧ ∀ H', Q (.bl true) H'
abbrev s_law : Stmt := top 28
theorem sc_law : FnScope ["_law_script", "_law_house_here", "_law_way", "_law_signs_here", "_law_some", "_law_thing", "_law_found", "_law_ways", "_law_k"] ["_law_script"] (defScope s_law) := ⟨rfl, rfl, rfl, by decide +kernel, rfl, by decide +kernel, by decide +kernel⟩
theorem ok_law {P : Program} {w : World} {K : PySem.W.Frag} {mg : Str → Option Value} {base : Heap} {f : Addr} {fd : FuncData} (F : Fun K "law" "law" s_law f fd) (T : Blt mg) (C_is_house : Cal P w K mg base "is_house" 5 ["thing"] (sp_is_house K)) (C__law_many_ways : Cal P w K mg base "_law_many_ways" 1 ["_law_many", "_law_first"] (sp__law_many_ways K)) (C__law_bad_things : Cal P w K mg base "_law_bad_things" 1 ["_law_house_here", "_law_at"] (sp__law_bad_things K)) (C__law_is_house : Cal P w K mg base "_law_is_house" 2 ["_law_thing"] (sp__law_is_house K)) (C__law_with_sign : Cal P w K mg base "_law_with_sign" 1 ["_law_house_here", "_law_way", "_law_sign"] (sp__law_with_sign K)) (C__law_draws : Cal P w K mg base "_law_draws" 2 ["_law_cell_here", "_law_widths", "_law_prime"] (sp__law_draws K)) (C__law_cell : Cal P w K mg base "_law_cell" 1 ["_law_script", "_law_k"] (sp__law_cell K)) (C__law_signs : Cal P w K mg base "_law_signs" 1 [] (sp__law_signs K)) (C__law_house : Cal P w K mg base "_law_house" 4 ["_law_cell_here", "_law_prime"] (sp__law_house K)) : FnOk P w K mg base CX0 6 f fd ["_law_script"] (sp_law K) := by
  have nd := (sc_law).nd
  refine F.ok sc_law (fun vs H Q E h => ?_) (fun cdv A outer s H vs Q E hr h => ?_)
  · obtain ⟨a, ns, rfl, _⟩ := h; rfl
  · obtain ⟨a, ns, rfl, ha, hl, q⟩ := h
    refine ⟨_, (no_implicit_lambda% (pss_cons (no_implicit_lambda% (ps_set (i := 1) nd rfl (Or.inr rfl) (no_implicit_lambda% (pe_cal C__law_house hr (no_implicit_lambda% (pa_cons (no_implicit_lambda% (pe_cal C__law_cell hr (no_implicit_lambda% (pa_cons (no_implicit_lambda% (pv 0)) (no_implicit_lambda% (pa_cons pe_int pa_nil)))))) (no_implicit_lambda% (pa_cons pe_int pa_nil))))))))
        (no_implicit_lambda% (pss_cons (no_implicit_lambda% (ps_set (i := 2) nd rfl (Or.inr rfl) (no_implicit_lambda% (pe_cal C__law_draws hr (no_implicit_lambda% (pa_cons (no_implicit_lambda% (pe_cal C__law_cell hr (no_implicit_lambda% (pa_cons (no_implicit_lambda% (pv 0)) (no_implicit_lambda% (pa_cons pe_int pa_nil)))))) (no_implicit_lambda% (pa_cons (no_implicit_lambda% (pe_lst (no_implicit_lambda% (pa_cons pe_int (no_implicit_lambda% (pa_cons pe_int (no_implicit_lambda% (pa_cons pe_int pa_nil)))))))) (no_implicit_lambda% (pa_cons pe_int pa_nil))))))))))
        (no_implicit_lambda% (pss_cons (no_implicit_lambda% (ps_if (no_implicit_lambda% (pt_cmpR op_isNotB (no_implicit_lambda% (pe_cal C_is_house hr (no_implicit_lambda% (pa_cons (no_implicit_lambda% (pv 1)) pa_nil)))) pe_bl (nomark _))) (no_implicit_lambda% (pss_one (no_implicit_lambda% (ps_ret pe_bl)))) pss_nil))
        (no_implicit_lambda% (pss_cons (no_implicit_lambda% (ps_setComp (i := 3) ["_law_k"] [] nd rfl (Or.inl rfl) (no_implicit_lambda% (pi_listK K (no_implicit_lambda% (pe_cal C__law_draws hr (no_implicit_lambda% (pa_cons (no_implicit_lambda% (pe_cal C__law_cell hr (no_implicit_lambda% (pa_cons (no_implicit_lambda% (pv 0)) (no_implicit_lambda% (pa_cons pe_int pa_nil)))))) (no_implicit_lambda% (pa_cons (no_implicit_lambda% (pe_lst (no_implicit_lambda% (pa_cons pe_int (no_implicit_lambda% (pa_cons pe_int (no_implicit_lambda% (pa_cons pe_int pa_nil)))))))) (no_implicit_lambda% (pa_cons pe_int pa_nil)))))))))) (fun _ => (no_implicit_lambda% (pg_name (i := 0) (show (["_law_k"] : List Str).Nodup from by decide +kernel) rfl (Or.inl rfl) (Or.inr rfl)))) (fun _ => pcs_nil) (fun _ => (no_implicit_lambda% (pe_ix ix_str (no_implicit_lambda% (pe_cal0 C__law_signs hr)) (no_implicit_lambda% (pv 0)) (fun _ _ => rfl))))))
        (no_implicit_lambda% (pss_cons (no_implicit_lambda% (ps_set (i := 3) nd rfl (Or.inl rfl) (no_implicit_lambda% (pe_op op_cat (no_implicit_lambda% (pv 3)) (no_implicit_lambda% (pe_lst (no_implicit_lambda% (pa_cons (no_implicit_lambda% (pe_ix ix_str pe_str (no_implicit_lambda% (pe_ix (ix_listK K) (no_implicit_lambda% (pe_cal C__law_draws hr (no_implicit_lambda% (pa_cons (no_implicit_lambda% (pe_cal C__law_cell hr (no_implicit_lambda% (pa_cons (no_implicit_lambda% (pv 0)) (no_implicit_lambda% (pa_cons pe_int pa_nil)))))) (no_implicit_lambda% (pa_cons (no_implicit_lambda% (pe_lst (no_implicit_lambda% (pa_cons pe_int pa_nil)))) (no_implicit_lambda% (pa_cons pe_int pa_nil)))))))) pe_int (fun _ _ => rfl))) (fun _ _ => rfl))) pa_nil))))))))
        (no_implicit_lambda% (pss_cons (no_implicit_lambda% (ps_setComp (i := 4) ["_law_sign"] [1, 2] nd rfl (Or.inl rfl) (no_implicit_lambda% (pi_listK K (no_implicit_lambda% (pv 3)))) (fun _ => (no_implicit_lambda% (pg_name (i := 0) (show (["_law_sign", "_law_house_here", "_law_way"] : List Str).Nodup from by decide +kernel) rfl (Or.inl rfl) (Or.inr rfl)))) (fun _ => pcs_nil) (fun _ => (no_implicit_lambda% (pe_cal C__law_with_sign hr (no_implicit_lambda% (pa_cons (no_implicit_lambda% (pv 1)) (no_implicit_lambda% (pa_cons (no_implicit_lambda% (pe_ix (ix_listK K) (no_implicit_lambda% (pv 2)) pe_int (fun _ _ => rfl))) (no_implicit_lambda% (pa_cons (no_implicit_lambda% (pv 0)) pa_nil)))))))))))
        (no_implicit_lambda% (pss_cons (no_implicit_lambda% (ps_for PassesOwn.never rfl (no_implicit_lambda% (pi_listK K (no_implicit_lambda% (pe_op op_cat (no_implicit_lambda% (pv 4)) (no_implicit_lambda% (pe_cal C__law_bad_things hr (no_implicit_lambda% (pa_cons (no_implicit_lambda% (pv 1)) (no_implicit_lambda% (pa_cons (no_implicit_lambda% (pe_ix (ix_listK K) (no_implicit_lambda% (pv 2)) pe_int (fun _ _ => rfl))) pa_nil)))))))))) (no_implicit_lambda% (pg_name (i := 5) nd rfl (Or.inl rfl))) (no_implicit_lambda% (pss_cons (no_implicit_lambda% (ps_set (i := 6) nd rfl (Or.inl rfl) (no_implicit_lambda% (pe_cal C_is_house hr (no_implicit_lambda% (pa_cons (no_implicit_lambda% (pv 5)) pa_nil))))))
        (no_implicit_lambda% (pss_one (no_implicit_lambda% (ps_if (no_implicit_lambda% (PW.pt (pw_or (no_implicit_lambda% (pt_not (no_implicit_lambda% (pt_val (no_implicit_lambda% (pe_callB call_isi rfl T.isinstance_ PyProof.Rows.boot_isinstance (no_implicit_lambda% (pa_cons (no_implicit_lambda% (pv 6)) (no_implicit_lambda% (pa_cons (no_implicit_lambda% (pe_bltn (v := .ty "bool") rfl T.bool_ PyProof.Rows.boot_bool rfl)) pa_nil)))))))))) (pw_or1 (no_implicit_lambda% (pt_cmpR op_ne (no_implicit_lambda% (pv 6)) (no_implicit_lambda% (pe_cal C__law_is_house hr (no_implicit_lambda% (pa_cons (no_implicit_lambda% (pv 5)) pa_nil)))) (nomark _))))))) (no_implicit_lambda% (pss_one (no_implicit_lambda% (ps_ret pe_bl)))) pss_nil))))))))
        (no_implicit_lambda% (pss_cons (no_implicit_lambda% (ps_ifJ (no_implicit_lambda% (pt_cmpR op_eq (no_implicit_lambda% (pe_ix (ix_listK K) (no_implicit_lambda% (pv 2)) pe_int (fun _ _ => rfl))) pe_int (nomark _))) (no_implicit_lambda% (pss_cons (no_implicit_lambda% (ps_set (i := 7) nd rfl (Or.inl rfl) (no_implicit_lambda% (pe_cal C__law_many_ways hr (no_implicit_lambda% (pa_cons pe_int (no_implicit_lambda% (pa_cons (no_implicit_lambda% (pe_ix (ix_listK K) (no_implicit_lambda% (pv 2)) pe_int (fun _ _ => rfl))) pa_nil))))))))
        (no_implicit_lambda% (pss_one (no_implicit_lambda% (ps_for PassesOwn.never rfl (no_implicit_lambda% (pi_tupK K (no_implicit_lambda% (pe_tup (no_implicit_lambda% (pa_cons pe_int (no_implicit_lambda% (pa_cons pe_int (no_implicit_lambda% (pa_cons pe_int pa_nil)))))))))) (no_implicit_lambda% (pg_name (i := 8) nd rfl (Or.inl rfl))) (no_implicit_lambda% (pss_one (no_implicit_lambda% (ps_if (no_implicit_lambda% (pt_cmpR op_ne (no_implicit_lambda% (pe_cal C_is_house hr (no_implicit_lambda% (pa_cons (no_implicit_lambda% (pe_tup (no_implicit_lambda% (pa_cons pe_int (no_implicit_lambda% (pa_cons (no_implicit_lambda% (pe_slice sl_tup1 (no_implicit_lambda% (pv 7)) po_none (po_some (no_implicit_lambda% (pv 8))))) pa_nil)))))) pa_nil)))) (no_implicit_lambda% (pe_cmpR op_lt (no_implicit_lambda% (pv 8)) pe_int (nomark _))) (nomark _))) (no_implicit_lambda% (pss_one (no_implicit_lambda% (ps_ret pe_bl)))) pss_nil)))))))))) pss_nil))
        (no_implicit_lambda% (pss_one (no_implicit_lambda% (ps_ret (no_implicit_lambda% (pe_cmpR op_isB (no_implicit_lambda% (pe_cal C_is_house hr (no_implicit_lambda% (pa_cons (no_implicit_lambda% (pv 1)) pa_nil)))) pe_bl (nomark _))))))))))))))))))))))), ?_⟩
    walk_at "rd"
    refine ⟨a, ns, 0, rfl, ha, hl, by decide, fun z => ?_⟩
    walk_at "rd"
    refine ⟨z, _, rfl, by decide, fun v m ws H1 e1 hv ok => ?_⟩
    walk_at "rd"
    refine ⟨a, ns, 1, rfl, ha.ext e1, hl, by decide, fun z2 => ?_⟩
    walk_at "rd"
    refine ⟨small_line (by simp), rd_new fun w0 H2 e2 hw0 _ => ?_⟩
    walk_at "rd"
    refine mk_draws [100, 4, 12] hw0 (by decide) (by decide) (by decide) fun dq ds H3 e3 hd _ hdl hdb => ?_
    have hdl3 : ds.length = 3 := hdl
    match ds, hdl3 with
    | [d0, d1, d2], _ =>
    have eA := e1.trans (e2.trans e3)
    have hv3 := hv.ext (e2.trans e3)
    clear hdb hdl hw0 e1 e2 e3 hv
    obtain ⟨p, r, bs, rfl, h1, h2, hbl, hal, hts⟩ := house_ths hv3 ok
    have hT : Thg H3 4 (.ref p) := (thg_tup (n := 2) h1 (by simp) (.cons (thg_int _ _ _) (.cons (thg_tup h2 (by rw [List.length_map, hbl]; exact Nat.le_trans ok.few (by decide)) hts) (.nil _ _)))).up
    have hH : houseV H3 (.ref p) = true := by
      rw [house_is h1 h2 hal ok.m1 ok.m12 ok.ok ok.nd, decide_eq_true ok.few]
    walk_at "rd"
    refine ⟨_, rfl, hT, fun H4 e4 => ?_⟩
    rw [hH]
    walk_at "rd"
    refine ⟨true, true, rfl, rfl, ?_⟩
    refine rd_exb (iteF ?_)
    walk_at "rd"
    refine ⟨a, ns, 2, rfl, ha.ext (eA.trans e4), hl, by decide, fun z3 => ?_⟩
    walk_at "rd"
    refine ⟨small_line (by simp), rd_new fun w1 H5 e5 hw1 _ => ?_⟩
    walk_at "rd"
    refine mk_draws [94, 94, 94] hw1 (by decide) (by decide) (by decide) fun fl fs H6 e6 hfl _ hfn hfb => ?_
    have hfn : fs.length = 3 := hfn
    have e46 : Ext H3 H6 := e4.trans (e5.trans e6)
    clear hw1 e4 e5 e6
    refine rd_iLx (SqL.of hfl) ?_
    refine comp_list (xs := List.map V.int fs) (fun i ys Hc => Hc = H6 ∧ ∃ us : List Str, ys = us.map V.str ∧ us.length = i ∧ ∀ u ∈ us, u.length ≤ 1000) (small9 (by rw [List.length_map]; omega)) ⟨rfl, [], rfl, rfl, fun u hu => (by cases hu)⟩ (fun i ys Hc _ h => ⟨by rw [h.1]; exact SqL.of hfl, by obtain ⟨_, us, rfl, h2, _⟩ := h; rw [List.length_map, h2]; exact Nat.le_refl _⟩) ?_ ?_
    · rintro i v ys Hc hv ⟨rfl, us, rfl, hul, hu⟩
      rw [List.getElem?_map] at hv
      obtain ⟨s, hs, rfl⟩ := Option.map_eq_some_iff.mp hv
      have hi := (List.getElem?_eq_some_iff.mp hs).1
      have hsb : 0 ≤ s ∧ s < 94 := by
        have : i = 0 ∨ i = 1 ∨ i = 2 := by omega
        rcases this with rfl | rfl | rfl <;> exact hfb _ s 94 hs rfl
      walk_at "rd"
      refine iteT ?_
      walk_at "rd"
      refine ⟨rfl, fun zz hzz => ?_⟩
      walk_at "rd"
      have hzl : zz.cps.toList.length = 94 := by rw [Array.length_toList]; exact hzz
      have hlt : s.toNat < zz.cps.toList.length := by omega
      refine ⟨zz, s, _, rfl, rfl, small9 (by omega), atI_of hsb.1 (List.getElem?_eq_getElem hlt), ?_⟩
      refine ⟨rfl, us ++ [⟨#[zz.cps.toList[s.toNat]]⟩], by rw [List.map_append]; rfl, by rw [List.length_append, hul]; rfl, fun u hu' => ?_⟩
      rcases List.mem_append.mp hu' with x | x
      · exact hu u x
      · rw [List.mem_singleton] at x
        subst x
        show 1 ≤ 1000
        decide
    · rintro ys Hc pl ⟨rfl, us, rfl, hul, hu⟩ hpl
      rw [List.length_map, hfn] at hul
      have e47 : Ext H3 (upd Hc pl (.lst (us.map V.str))) := e46.trans (ext_upd hpl)
      have kus : (upd Hc pl (.lst (us.map V.str))) pl = some (.lst (us.map V.str)) := upd_same
      generalize upd Hc pl (.lst (us.map V.str)) = H7 at e47 kus ⊢
      clear hpl hfl hfb e46
      walk_at "rd"
      refine ⟨a, ns, 3, rfl, ha.ext (eA.trans e47), hl, by decide, fun z5 => ?_⟩
      walk_at "rd"
      refine ⟨small_line (by simp), rd_new fun w2 H8 e8 hw2 _ => ?_⟩
      walk_at "rd"
      refine mk_draws [26] hw2 (by decide) (by decide) (by decide) fun gl gs H9 e9 hgl _ hgn hgb => ?_
      have hgn : gs.length = 1 := hgn
      match gs, hgn with
      | [g0], _ =>
      have hg0 := hgb 0 g0 26 rfl rfl
      walk_at "rd"
      refine rd_ixL (SqL.of hgl) (v := .int g0) rfl ?_
      walk_at "rd"
      have hal26 : g0.toNat < (Str.ofString "abcdefghijklmnopqrstuvwxyz").cps.toList.length := by
        rw [alpha_list, List.length_range']
        omega
      refine ⟨_, g0, _, rfl, rfl, small9 (by decide +kernel), atI_of hg0.1 (List.getElem?_eq_getElem hal26), ?_⟩
      generalize (Str.ofString "abcdefghijklmnopqrstuvwxyz").cps.toList[g0.toNat] = ch
      walk_at "rd"
      refine ⟨small_line (by simp), rd_new fun w3 H10 e10 hw3 _ => ?_⟩
      walk_at "rd"
      refine rd_cat ((e8.trans (e9.trans e10)) _ _ kus) hw3 (small9 (by simp [hul])) (rd_new fun sl H11 e11 hsl _ => ?_)
      have eB : Ext H3 H11 := e47.trans (e8.trans (e9.trans (e10.trans e11)))
      have hsl : H11 sl = some (.lst ((us ++ [(⟨#[ch]⟩ : Str)]).map V.str)) := by rw [List.map_append]; exact hsl
      have hu2 : ∀ u ∈ us ++ [(⟨#[ch]⟩ : Str)], u.length ≤ 1000 := fun u hu' => by
        rcases List.mem_append.mp hu' with x | x
        · exact hu u x
        · rw [List.mem_singleton] at x
          subst x
          show 1 ≤ 1000
          decide
      have hul2 : (us ++ [(⟨#[ch]⟩ : Str)]).length = 4 := by rw [List.length_append, hul]; rfl
      generalize us ++ [(⟨#[ch]⟩ : Str)] = zs at hsl hu2 hul2
      clear e47 e8 e9 e10 e11 kus hw2 hw3 hgl hgb hal26 hg0 hu hul
      walk_at "rd"
      refine rd_iLx (SqL.of hsl) ?_
      refine comp_list (xs := List.map V.str zs) (fun i ys Hc => Ext H11 Hc ∧ Ths Hc 4 ys ∧ ys.length = i) (small9 (by rw [List.length_map]; omega)) ⟨fun _ _ z => z, .nil _ _, rfl⟩ (fun i ys Hc _ h => ⟨SqL.of (h.1 _ _ hsl), Nat.le_of_eq h.2.2⟩) ?_ ?_
      · rintro i v ys Hc hv ⟨e, ht, hyl⟩
        rw [List.getElem?_map] at hv
        obtain ⟨s, hs, rfl⟩ := Option.map_eq_some_iff.mp hv
        walk_at "rd"
        refine iteT ?_
        walk_at "rd"
        refine rd_ixL (SqL.of ((eB.trans e) _ _ hd)) (v := .int d0) rfl ?_
        walk_at "rd"
        refine ⟨_, m, ws, d0, s, rfl, hv3.ext (eB.trans e), ok, hu2 s (List.mem_of_getElem? hs), fun u Hd ed tu => ?_⟩
        exact ⟨e.trans ed, (ht.ext ed).app (.cons tu (.nil _ _)), by rw [List.length_append, hyl]; rfl⟩
      · rintro ys Hc pl2 ⟨e, ht, hyl⟩ hpl2
        rw [List.length_map, hul2] at hyl
        have eC : Ext H3 (upd Hc pl2 (.lst ys)) := eB.trans (e.trans (ext_upd hpl2))
        have tC : TLst (upd Hc pl2 (.lst ys)) pl2 4 4 := ⟨ys, upd_same, Nat.le_of_eq hyl, ht.ext (ext_upd hpl2)⟩
        generalize upd Hc pl2 (.lst ys) = H12 at eC tC ⊢
        clear hpl2 hsl hu2 ht
        walk_at "rd"
        refine rd_ixL (SqL.of (eC _ _ hd)) (v := .int d0) rfl ?_
        walk_at "rd"
        refine ⟨_, m, ws, d0, rfl, hv3.ext eC, ok, fun bl H13 xb e13 hb1 hb2 hb3 => ?_⟩
        walk_at "rd"
        obtain ⟨xc, c1, c2, c3⟩ := tC.ext e13
        refine rd_cat c1 hb1 (small9 (by omega)) (rd_new fun tl H14 e14 htl _ => ?_)
        have eD : Ext H3 H14 := eC.trans (e13.trans e14)
        have tD : Ths H14 4 (xc ++ xb) := (c3.app hb3).ext e14
        have lD : (xc ++ xb).length ≤ 300 := by rw [List.length_append]; omega
        generalize xc ++ xb = xt at htl tD lD
        clear eC c1 c2 c3 hb1 hb2 hb3 tC
        refine rd_iLx (SqL.of htl) ?_
        refine forL (xs := xt) (fun j σ Hf => ∃ k1 k2, σ = [some (.ref a), some (.ref p), some (.ref dq), some (.ref sl), some (.ref pl2), k1, k2, none, none] ∧ Ext H14 Hf) ⟨none, none, rfl, fun _ _ z => z⟩ (fun j σ Hf _ h => SqL.of (h.choose_spec.choose_spec.2 _ _ htl)) ?_ ?_
        · rintro j x σ Hf hx ⟨k1, k2, rfl, ef⟩
          have tx := (tD x (List.mem_of_getElem? hx)).ext ef
          walk_at "rd"
          refine ⟨x, rfl, tx, fun Hg eg => ?_⟩
          walk_at "rd"
          refine rd_isi (n := "bool") (b := true) rfl rfl ?_
          walk_at "rd"
          refine iteF ?_
          walk_at "rd"
          refine ⟨x, rfl, tx.ext eg, fun Hh eh => ?_⟩
          rw [houseV_ext eg tx]
          refine rd_NeB ?_
          rw [beq_self_eq_true]
          walk_at "rd"
          refine iteF ?_
          walk_at "rd"
          exact ⟨_, _, rfl, ef.trans (eg.trans eh)⟩
        · rintro σ Hf ⟨k1, k2, rfl, ef⟩
          have eE : Ext H3 Hf := eD.trans ef
          walk_at "rd"
          refine ⟨fun σ' J => ∃ k1 k2 k3 k4, σ' = [some (.ref a), some (.ref p), some (.ref dq), some (.ref sl), some (.ref pl2), k1, k2, k3, k4] ∧ Ext H3 J, ?_, ?_⟩
          · walk_at "rd"
            refine rd_ixL (SqL.of (eE _ _ hd)) (v := .int d1) rfl ?_
            walk_at "rd"
            refine ite2 (fun hc => ?_) (fun hc => ?_)
            · walk_at "rd"
              refine rd_ixL (SqL.of (eE _ _ hd)) (v := .int d2) rfl ?_
              walk_at "rd"
              refine ⟨d2, rfl, fun tq Hm us em hus ul1 ul2 und uok => ?_⟩
              obtain ⟨cs, hcs, hca⟩ := hus.al
              have eF : Ext H3 Hm := eE.trans em
              walk_at "rd"
              refine ⟨small_line (by simp), rd_new fun kt Hn en hkt _ => ?_⟩
              refine rd_iTx (SqT.of hkt) ?_
              refine forT (xs := [.int 99, .int 100, .int 101]) (fun i σ Ho => ∃ k4, σ = [some (.ref a), some (.ref p), some (.ref dq), some (.ref sl), some (.ref pl2), k1, k2, some (.ref tq), k4] ∧ Ext Hn Ho) ⟨_, rfl, fun _ _ z => z⟩ (fun i σ Ho _ h => SqT.of (h.choose_spec.2 _ _ hkt)) ?_ ?_
              · rintro i x σ Ho hx ⟨k4, rfl, eo⟩
                obtain ⟨k, rfl, hk1, hk2⟩ : ∃ k : Nat, x = .int (k : Int) ∧ 99 ≤ k ∧ k ≤ 101 := by
                  match i, hx with
                  | 0, hx => cases hx; exact ⟨99, rfl, by decide, by decide⟩
                  | 1, hx => cases hx; exact ⟨100, rfl, by decide, by decide⟩
                  | 2, hx => cases hx; exact ⟨101, rfl, by decide, by decide⟩
                have eG : Ext Hm Ho := en.trans eo
                walk_at "rd"
                refine rd_slT1 (eG _ _ hcs) fun cq Hp ep hcq => ?_
                walk_at "rd"
                refine ⟨small_line (by simp), rd_new fun hq Hq eq hhq _ => ?_⟩
                rw [cut_take, ← List.map_take] at hcq
                have eI : Ext Hm Hq := eG.trans (ep.trans eq)
                have hat := (al_take hca k).ext eI
                have uok' : ∀ u ∈ us.take k, u.Ok 12 := fun u hu' => uok u (List.mem_of_mem_take hu')
                have hlen : (us.take k).length = k := by rw [List.length_take]; omega
                have tq' : Thg Hq 4 (.ref hq) := (thg_tup (n := 2) hhq (by simp) (.cons (thg_int _ _ _) (.cons (ways_thg (eq _ _ hcq) hat uok' (by omega)) (.nil _ _)))).up
                walk_at "rd"
                refine ⟨_, rfl, tq', fun Hr er => ?_⟩
                rw [house_is hhq (eq _ _ hcq) hat (by decide) (by decide) uok' (und.sublist (List.take_sublist _ _)), hlen]
                walk_at "rd"
                have eb : decide (k ≤ 100) = decide ((k : Int) < 101) := decide_eq_decide.mpr (by omega)
                rw [eb, beq_self_eq_true]
                refine iteF ?_
                walk_at "rd"
                exact ⟨_, rfl, eo.trans (ep.trans (eq.trans er))⟩
              · rintro σ Ho ⟨k4, rfl, eo⟩
                exact ⟨_, _, _, _, rfl, eF.trans (en.trans eo)⟩
            · walk_at "rd"
              exact ⟨_, _, _, _, rfl, eE⟩
          · rintro σ' J ⟨k1, k2, k3, k4, rfl, eJ⟩
            walk_at "rd"
            refine ⟨_, rfl, hT.ext eJ, fun Hz ez => ?_⟩
            rw [houseV_ext eJ hT, hH]
            walk_at "rd"
            exact ⟨true, true, rfl, rfl, q _⟩
theorem all_mk {l : PySem.W.OpenLaw} {w : World} {K : PySem.W.Frag} {h : Heap} {mg : Str → Option Value} {fa : Addr} (X : K.In h) (G : h.Ns mainGlobals mg) (hfa : mg "law" = some (.ref fa))
    {f0 : Addr} {od0 an0 : Option Addr} {sl0 : Array (Option Value)} {oc0 kV0 dc0 pm0 cd0 ct0 : Value} (a0 : PySem.W.nsIn K mainGlobals "is_sign" = some (some (.ref f0))) (l0 : K.lookup f0 = some ⟨oc0, od0, .func (PySem.W.fnOf "is_sign" "is_sign" (defArgs s_is_sign) (defBody s_is_sign) (defScope s_is_sign) .none kV0 dc0 pm0 an0 cd0 ct0), sl0⟩) (c0 : PySem.W.codeIn K cd0 "is_sign" = true) (k0 : PySem.W.keepIn K (.ref f0) = true)
    {f1 : Addr} {od1 an1 : Option Addr} {sl1 : Array (Option Value)} {oc1 kV1 dc1 pm1 cd1 ct1 : Value} (a1 : PySem.W.nsIn K mainGlobals "is_deed" = some (some (.ref f1))) (l1 : K.lookup f1 = some ⟨oc1, od1, .func (PySem.W.fnOf "is_deed" "is_deed" (defArgs s_is_deed) (defBody s_is_deed) (defScope s_is_deed) .none kV1 dc1 pm1 an1 cd1 ct1), sl1⟩) (c1 : PySem.W.codeIn K cd1 "is_deed" = true) (k1 : PySem.W.keepIn K (.ref f1) = true)
    {f2 : Addr} {od2 an2 : Option Addr} {sl2 : Array (Option Value)} {oc2 kV2 dc2 pm2 cd2 ct2 : Value} (a2 : PySem.W.nsIn K mainGlobals "is_whole" = some (some (.ref f2))) (l2 : K.lookup f2 = some ⟨oc2, od2, .func (PySem.W.fnOf "is_whole" "is_whole" (defArgs s_is_whole) (defBody s_is_whole) (defScope s_is_whole) .none kV2 dc2 pm2 an2 cd2 ct2), sl2⟩) (c2 : PySem.W.codeIn K cd2 "is_whole" = true) (k2 : PySem.W.keepIn K (.ref f2) = true)
    {f3 : Addr} {od3 an3 : Option Addr} {sl3 : Array (Option Value)} {oc3 kV3 dc3 pm3 cd3 ct3 : Value} (a3 : PySem.W.nsIn K mainGlobals "is_room" = some (some (.ref f3))) (l3 : K.lookup f3 = some ⟨oc3, od3, .func (PySem.W.fnOf "is_room" "is_room" (defArgs s_is_room) (defBody s_is_room) (defScope s_is_room) .none kV3 dc3 pm3 an3 cd3 ct3), sl3⟩) (c3 : PySem.W.codeIn K cd3 "is_room" = true) (k3 : PySem.W.keepIn K (.ref f3) = true)
    {f4 : Addr} {od4 an4 : Option Addr} {sl4 : Array (Option Value)} {oc4 kV4 dc4 pm4 cd4 ct4 : Value} (a4 : PySem.W.nsIn K mainGlobals "is_way" = some (some (.ref f4))) (l4 : K.lookup f4 = some ⟨oc4, od4, .func (PySem.W.fnOf "is_way" "is_way" (defArgs s_is_way) (defBody s_is_way) (defScope s_is_way) .none kV4 dc4 pm4 an4 cd4 ct4), sl4⟩) (c4 : PySem.W.codeIn K cd4 "is_way" = true) (k4 : PySem.W.keepIn K (.ref f4) = true)
    {f5 : Addr} {od5 an5 : Option Addr} {sl5 : Array (Option Value)} {oc5 kV5 dc5 pm5 cd5 ct5 : Value} (a5 : PySem.W.nsIn K mainGlobals "are_ways" = some (some (.ref f5))) (l5 : K.lookup f5 = some ⟨oc5, od5, .func (PySem.W.fnOf "are_ways" "are_ways" (defArgs s_are_ways) (defBody s_are_ways) (defScope s_are_ways) .none kV5 dc5 pm5 an5 cd5 ct5), sl5⟩) (c5 : PySem.W.codeIn K cd5 "are_ways" = true) (k5 : PySem.W.keepIn K (.ref f5) = true)
    {f6 : Addr} {od6 an6 : Option Addr} {sl6 : Array (Option Value)} {oc6 kV6 dc6 pm6 cd6 ct6 : Value} (a6 : PySem.W.nsIn K mainGlobals "is_house" = some (some (.ref f6))) (l6 : K.lookup f6 = some ⟨oc6, od6, .func (PySem.W.fnOf "is_house" "is_house" (defArgs s_is_house) (defBody s_is_house) (defScope s_is_house) .none kV6 dc6 pm6 an6 cd6 ct6), sl6⟩) (c6 : PySem.W.codeIn K cd6 "is_house" = true) (k6 : PySem.W.keepIn K (.ref f6) = true)
    {f7 : Addr} {od7 an7 : Option Addr} {sl7 : Array (Option Value)} {oc7 kV7 dc7 pm7 cd7 ct7 : Value} (a7 : PySem.W.nsIn K mainGlobals "_law_many_ways" = some (some (.ref f7))) (l7 : K.lookup f7 = some ⟨oc7, od7, .func (PySem.W.fnOf "_law_many_ways" "_law_many_ways" (defArgs s__law_many_ways) (defBody s__law_many_ways) (defScope s__law_many_ways) .none kV7 dc7 pm7 an7 cd7 ct7), sl7⟩) (c7 : PySem.W.codeIn K cd7 "_law_many_ways" = true) (k7 : PySem.W.keepIn K (.ref f7) = true)
    {f8 : Addr} {od8 an8 : Option Addr} {sl8 : Array (Option Value)} {oc8 kV8 dc8 pm8 cd8 ct8 : Value} (a8 : PySem.W.nsIn K mainGlobals "_law_bad_things" = some (some (.ref f8))) (l8 : K.lookup f8 = some ⟨oc8, od8, .func (PySem.W.fnOf "_law_bad_things" "_law_bad_things" (defArgs s__law_bad_things) (defBody s__law_bad_things) (defScope s__law_bad_things) .none kV8 dc8 pm8 an8 cd8 ct8), sl8⟩) (c8 : PySem.W.codeIn K cd8 "_law_bad_things" = true) (k8 : PySem.W.keepIn K (.ref f8) = true)
    {f9 : Addr} {od9 an9 : Option Addr} {sl9 : Array (Option Value)} {oc9 kV9 dc9 pm9 cd9 ct9 : Value} (a9 : PySem.W.nsIn K mainGlobals "_law_whole" = some (some (.ref f9))) (l9 : K.lookup f9 = some ⟨oc9, od9, .func (PySem.W.fnOf "_law_whole" "_law_whole" (defArgs s__law_whole) (defBody s__law_whole) (defScope s__law_whole) .none kV9 dc9 pm9 an9 cd9 ct9), sl9⟩) (c9 : PySem.W.codeIn K cd9 "_law_whole" = true) (k9 : PySem.W.keepIn K (.ref f9) = true)
    {f10 : Addr} {od10 an10 : Option Addr} {sl10 : Array (Option Value)} {oc10 kV10 dc10 pm10 cd10 ct10 : Value} (a10 : PySem.W.nsIn K mainGlobals "_law_is_house" = some (some (.ref f10))) (l10 : K.lookup f10 = some ⟨oc10, od10, .func (PySem.W.fnOf "_law_is_house" "_law_is_house" (defArgs s__law_is_house) (defBody s__law_is_house) (defScope s__law_is_house) .none kV10 dc10 pm10 an10 cd10 ct10), sl10⟩) (c10 : PySem.W.codeIn K cd10 "_law_is_house" = true) (k10 : PySem.W.keepIn K (.ref f10) = true)
    {f11 : Addr} {od11 an11 : Option Addr} {sl11 : Array (Option Value)} {oc11 kV11 dc11 pm11 cd11 ct11 : Value} (a11 : PySem.W.nsIn K mainGlobals "_law_with_sign" = some (some (.ref f11))) (l11 : K.lookup f11 = some ⟨oc11, od11, .func (PySem.W.fnOf "_law_with_sign" "_law_with_sign" (defArgs s__law_with_sign) (defBody s__law_with_sign) (defScope s__law_with_sign) .none kV11 dc11 pm11 an11 cd11 ct11), sl11⟩) (c11 : PySem.W.codeIn K cd11 "_law_with_sign" = true) (k11 : PySem.W.keepIn K (.ref f11) = true)
    {f12 : Addr} {od12 an12 : Option Addr} {sl12 : Array (Option Value)} {oc12 kV12 dc12 pm12 cd12 ct12 : Value} (a12 : PySem.W.nsIn K mainGlobals "_law_mixed" = some (some (.ref f12))) (l12 : K.lookup f12 = some ⟨oc12, od12, .func (PySem.W.fnOf "_law_mixed" "_law_mixed" (defArgs s__law_mixed) (defBody s__law_mixed) (defScope s__law_mixed) .none kV12 dc12 pm12 an12 cd12 ct12), sl12⟩) (c12 : PySem.W.codeIn K cd12 "_law_mixed" = true) (k12 : PySem.W.keepIn K (.ref f12) = true)
    {f13 : Addr} {od13 an13 : Option Addr} {sl13 : Array (Option Value)} {oc13 kV13 dc13 pm13 cd13 ct13 : Value} (a13 : PySem.W.nsIn K mainGlobals "_law_draws" = some (some (.ref f13))) (l13 : K.lookup f13 = some ⟨oc13, od13, .func (PySem.W.fnOf "_law_draws" "_law_draws" (defArgs s__law_draws) (defBody s__law_draws) (defScope s__law_draws) .none kV13 dc13 pm13 an13 cd13 ct13), sl13⟩) (c13 : PySem.W.codeIn K cd13 "_law_draws" = true) (k13 : PySem.W.keepIn K (.ref f13) = true)
    {f14 : Addr} {od14 an14 : Option Addr} {sl14 : Array (Option Value)} {oc14 kV14 dc14 pm14 cd14 ct14 : Value} (a14 : PySem.W.nsIn K mainGlobals "_law_cell" = some (some (.ref f14))) (l14 : K.lookup f14 = some ⟨oc14, od14, .func (PySem.W.fnOf "_law_cell" "_law_cell" (defArgs s__law_cell) (defBody s__law_cell) (defScope s__law_cell) .none kV14 dc14 pm14 an14 cd14 ct14), sl14⟩) (c14 : PySem.W.codeIn K cd14 "_law_cell" = true) (k14 : PySem.W.keepIn K (.ref f14) = true)
    {f15 : Addr} {od15 an15 : Option Addr} {sl15 : Array (Option Value)} {oc15 kV15 dc15 pm15 cd15 ct15 : Value} (a15 : PySem.W.nsIn K mainGlobals "_law_signs" = some (some (.ref f15))) (l15 : K.lookup f15 = some ⟨oc15, od15, .func (PySem.W.fnOf "_law_signs" "_law_signs" (defArgs s__law_signs) (defBody s__law_signs) (defScope s__law_signs) .none kV15 dc15 pm15 an15 cd15 ct15), sl15⟩) (c15 : PySem.W.codeIn K cd15 "_law_signs" = true) (k15 : PySem.W.keepIn K (.ref f15) = true)
    {f16 : Addr} {od16 an16 : Option Addr} {sl16 : Array (Option Value)} {oc16 kV16 dc16 pm16 cd16 ct16 : Value} (a16 : PySem.W.nsIn K mainGlobals "_law_unlike" = some (some (.ref f16))) (l16 : K.lookup f16 = some ⟨oc16, od16, .func (PySem.W.fnOf "_law_unlike" "_law_unlike" (defArgs s__law_unlike) (defBody s__law_unlike) (defScope s__law_unlike) .none kV16 dc16 pm16 an16 cd16 ct16), sl16⟩) (c16 : PySem.W.codeIn K cd16 "_law_unlike" = true) (k16 : PySem.W.keepIn K (.ref f16) = true)
    {f17 : Addr} {od17 an17 : Option Addr} {sl17 : Array (Option Value)} {oc17 kV17 dc17 pm17 cd17 ct17 : Value} (a17 : PySem.W.nsIn K mainGlobals "_law_drawn_house" = some (some (.ref f17))) (l17 : K.lookup f17 = some ⟨oc17, od17, .func (PySem.W.fnOf "_law_drawn_house" "_law_drawn_house" (defArgs s__law_drawn_house) (defBody s__law_drawn_house) (defScope s__law_drawn_house) .none kV17 dc17 pm17 an17 cd17 ct17), sl17⟩) (c17 : PySem.W.codeIn K cd17 "_law_drawn_house" = true) (k17 : PySem.W.keepIn K (.ref f17) = true)
    {f18 : Addr} {od18 an18 : Option Addr} {sl18 : Array (Option Value)} {oc18 kV18 dc18 pm18 cd18 ct18 : Value} (a18 : PySem.W.nsIn K mainGlobals "_law_gate_house" = some (some (.ref f18))) (l18 : K.lookup f18 = some ⟨oc18, od18, .func (PySem.W.fnOf "_law_gate_house" "_law_gate_house" (defArgs s__law_gate_house) (defBody s__law_gate_house) (defScope s__law_gate_house) .none kV18 dc18 pm18 an18 cd18 ct18), sl18⟩) (c18 : PySem.W.codeIn K cd18 "_law_gate_house" = true) (k18 : PySem.W.keepIn K (.ref f18) = true)
    {f19 : Addr} {od19 an19 : Option Addr} {sl19 : Array (Option Value)} {oc19 kV19 dc19 pm19 cd19 ct19 : Value} (a19 : PySem.W.nsIn K mainGlobals "_law_ring_house" = some (some (.ref f19))) (l19 : K.lookup f19 = some ⟨oc19, od19, .func (PySem.W.fnOf "_law_ring_house" "_law_ring_house" (defArgs s__law_ring_house) (defBody s__law_ring_house) (defScope s__law_ring_house) .none kV19 dc19 pm19 an19 cd19 ct19), sl19⟩) (c19 : PySem.W.codeIn K cd19 "_law_ring_house" = true) (k19 : PySem.W.keepIn K (.ref f19) = true)
    {f20 : Addr} {od20 an20 : Option Addr} {sl20 : Array (Option Value)} {oc20 kV20 dc20 pm20 cd20 ct20 : Value} (a20 : PySem.W.nsIn K mainGlobals "_law_spare" = some (some (.ref f20))) (l20 : K.lookup f20 = some ⟨oc20, od20, .func (PySem.W.fnOf "_law_spare" "_law_spare" (defArgs s__law_spare) (defBody s__law_spare) (defScope s__law_spare) .none kV20 dc20 pm20 an20 cd20 ct20), sl20⟩) (c20 : PySem.W.codeIn K cd20 "_law_spare" = true) (k20 : PySem.W.keepIn K (.ref f20) = true)
    {f21 : Addr} {od21 an21 : Option Addr} {sl21 : Array (Option Value)} {oc21 kV21 dc21 pm21 cd21 ct21 : Value} (a21 : PySem.W.nsIn K mainGlobals "_law_house" = some (some (.ref f21))) (l21 : K.lookup f21 = some ⟨oc21, od21, .func (PySem.W.fnOf "_law_house" "_law_house" (defArgs s__law_house) (defBody s__law_house) (defScope s__law_house) .none kV21 dc21 pm21 an21 cd21 ct21), sl21⟩) (c21 : PySem.W.codeIn K cd21 "_law_house" = true) (k21 : PySem.W.keepIn K (.ref f21) = true)
    {f22 : Addr} {od22 an22 : Option Addr} {sl22 : Array (Option Value)} {oc22 kV22 dc22 pm22 cd22 ct22 : Value} (a22 : PySem.W.nsIn K mainGlobals "law" = some (some (.ref f22))) (l22 : K.lookup f22 = some ⟨oc22, od22, .func (PySem.W.fnOf "law" "law" (defArgs s_law) (defBody s_law) (defScope s_law) .none kV22 dc22 pm22 an22 cd22 ct22), sl22⟩) (c22 : PySem.W.codeIn K cd22 "law" = true) (k22 : PySem.W.keepIn K (.ref f22) = true)
    (z0 : PySem.W.nsIn K mainGlobals "len" = some none)
    (z1 : PySem.W.nsIn K mainGlobals "isinstance" = some none)
    (z2 : PySem.W.nsIn K mainGlobals "tuple" = some none)
    (z3 : PySem.W.nsIn K mainGlobals "list" = some none)
    (z4 : PySem.W.nsIn K mainGlobals "int" = some none)
    (z5 : PySem.W.nsIn K mainGlobals "bool" = some none)
    (z6 : PySem.W.nsIn K mainGlobals "range" = some none)
    (z7 : PySem.W.nsIn K mainGlobals "zip" = some none)
    (z8 : PySem.W.nsIn K mainGlobals "max" = some none)
    (z9 : PySem.W.nsIn K mainGlobals "min" = some none)
    (z10 : PySem.W.nsIn K mainGlobals "abs" = some none)
    (z11 : PySem.W.nsIn K mainGlobals "all" = some none)
    (z12 : PySem.W.nsIn K mainGlobals "set" = some none)
    (z13 : PySem.W.nsIn K mainGlobals "str" = some none)
    (z14 : PySem.W.nsIn K mainGlobals "sorted" = some none)
    {t0 : Tok} (v0 : PySem.W.nsIn K mainGlobals "GREATEST_WAYS" = some (some (.int 100 t0)))
    {t1 : Tok} (v1 : PySem.W.nsIn K mainGlobals "GREATEST_MANY" = some (some (.int 12 t1)))
    {e0 : Addr} {q0_0 u0_0 q0_1 u0_1 q0_2 u0_2 q0_3 u0_3 : Tok} {ep0 : Nat} (x0 : PySem.W.nsIn K mainGlobals "TURNED" = some (some (.ref e0))) (y0 : K.lookup e0 = some (gdO w [("up", q0_0, .str "down" u0_0), ("down", q0_1, .str "up" u0_1), ("stay", q0_2, .str "stay" u0_2), ("zero", q0_3, .str "zero" u0_3)] ep0)) (w0 : (e0 == sysModules) = false)
    : ∃ fd : FuncData, (∀ (s : Shared) (v : Value), BindsTo s fd ⟨[v], []⟩ [("_law_script", v)]) ∧ ∀ base : Heap, K.In base → base.Ns mainGlobals mg → FnOk l.prog w K mg base CX0 6 fa fd ["_law_script"] (sp_law K) := by
  have e := hfa.symm.trans (PySem.W.mg_of X G a22)
  cases e
  have T : Blt mg := ⟨PySem.W.mg_none_of X G z0, PySem.W.mg_none_of X G z1, PySem.W.mg_none_of X G z2, PySem.W.mg_none_of X G z3, PySem.W.mg_none_of X G z4, PySem.W.mg_none_of X G z5, PySem.W.mg_none_of X G z6, PySem.W.mg_none_of X G z7, PySem.W.mg_none_of X G z8, PySem.W.mg_none_of X G z9, PySem.W.mg_none_of X G z10, PySem.W.mg_none_of X G z11, PySem.W.mg_none_of X G z12, PySem.W.mg_none_of X G z13, PySem.W.mg_none_of X G z14⟩
  have D0 : Dfn K mg "is_sign" s_is_sign ["thing"] := ⟨f0, _, PySem.W.mg_of X G a0, fun_mk (st := s_is_sign) l0 c0 k0, (fun_mk (st := s_is_sign) l0 c0 k0).binds (ps := ["thing"]) fun _ _ _ _ _ _ us hl => match us, hl with | [_], _ => rfl⟩
  have D1 : Dfn K mg "is_deed" s_is_deed ["thing"] := ⟨f1, _, PySem.W.mg_of X G a1, fun_mk (st := s_is_deed) l1 c1 k1, (fun_mk (st := s_is_deed) l1 c1 k1).binds (ps := ["thing"]) fun _ _ _ _ _ _ us hl => match us, hl with | [_], _ => rfl⟩
  have D2 : Dfn K mg "is_whole" s_is_whole ["thing"] := ⟨f2, _, PySem.W.mg_of X G a2, fun_mk (st := s_is_whole) l2 c2 k2, (fun_mk (st := s_is_whole) l2 c2 k2).binds (ps := ["thing"]) fun _ _ _ _ _ _ us hl => match us, hl with | [_], _ => rfl⟩
  have D3 : Dfn K mg "is_room" s_is_room ["thing", "many"] := ⟨f3, _, PySem.W.mg_of X G a3, fun_mk (st := s_is_room) l3 c3 k3, (fun_mk (st := s_is_room) l3 c3 k3).binds (ps := ["thing", "many"]) fun _ _ _ _ _ _ us hl => match us, hl with | [_, _], _ => rfl⟩
  have D4 : Dfn K mg "is_way" s_is_way ["thing", "many"] := ⟨f4, _, PySem.W.mg_of X G a4, fun_mk (st := s_is_way) l4 c4 k4, (fun_mk (st := s_is_way) l4 c4 k4).binds (ps := ["thing", "many"]) fun _ _ _ _ _ _ us hl => match us, hl with | [_, _], _ => rfl⟩
  have D5 : Dfn K mg "are_ways" s_are_ways ["thing", "many"] := ⟨f5, _, PySem.W.mg_of X G a5, fun_mk (st := s_are_ways) l5 c5 k5, (fun_mk (st := s_are_ways) l5 c5 k5).binds (ps := ["thing", "many"]) fun _ _ _ _ _ _ us hl => match us, hl with | [_, _], _ => rfl⟩
  have D6 : Dfn K mg "is_house" s_is_house ["thing"] := ⟨f6, _, PySem.W.mg_of X G a6, fun_mk (st := s_is_house) l6 c6 k6, (fun_mk (st := s_is_house) l6 c6 k6).binds (ps := ["thing"]) fun _ _ _ _ _ _ us hl => match us, hl with | [_], _ => rfl⟩
  have D7 : Dfn K mg "_law_many_ways" s__law_many_ways ["_law_many", "_law_first"] := ⟨f7, _, PySem.W.mg_of X G a7, fun_mk (st := s__law_many_ways) l7 c7 k7, (fun_mk (st := s__law_many_ways) l7 c7 k7).binds (ps := ["_law_many", "_law_first"]) fun _ _ _ _ _ _ us hl => match us, hl with | [_, _], _ => rfl⟩
  have D8 : Dfn K mg "_law_bad_things" s__law_bad_things ["_law_house_here", "_law_at"] := ⟨f8, _, PySem.W.mg_of X G a8, fun_mk (st := s__law_bad_things) l8 c8 k8, (fun_mk (st := s__law_bad_things) l8 c8 k8).binds (ps := ["_law_house_here", "_law_at"]) fun _ _ _ _ _ _ us hl => match us, hl with | [_, _], _ => rfl⟩
  have D9 : Dfn K mg "_law_whole" s__law_whole ["_law_found"] := ⟨f9, _, PySem.W.mg_of X G a9, fun_mk (st := s__law_whole) l9 c9 k9, (fun_mk (st := s__law_whole) l9 c9 k9).binds (ps := ["_law_found"]) fun _ _ _ _ _ _ us hl => match us, hl with | [_], _ => rfl⟩
  have D10 : Dfn K mg "_law_is_house" s__law_is_house ["_law_thing"] := ⟨f10, _, PySem.W.mg_of X G a10, fun_mk (st := s__law_is_house) l10 c10 k10, (fun_mk (st := s__law_is_house) l10 c10 k10).binds (ps := ["_law_thing"]) fun _ _ _ _ _ _ us hl => match us, hl with | [_], _ => rfl⟩
  have D11 : Dfn K mg "_law_with_sign" s__law_with_sign ["_law_house_here", "_law_way", "_law_sign"] := ⟨f11, _, PySem.W.mg_of X G a11, fun_mk (st := s__law_with_sign) l11 c11 k11, (fun_mk (st := s__law_with_sign) l11 c11 k11).binds (ps := ["_law_house_here", "_law_way", "_law_sign"]) fun _ _ _ _ _ _ us hl => match us, hl with | [_, _, _], _ => rfl⟩
  have D12 : Dfn K mg "_law_mixed" s__law_mixed ["_law_cell_here", "_law_k", "_law_prime"] := ⟨f12, _, PySem.W.mg_of X G a12, fun_mk (st := s__law_mixed) l12 c12 k12, (fun_mk (st := s__law_mixed) l12 c12 k12).binds (ps := ["_law_cell_here", "_law_k", "_law_prime"]) fun _ _ _ _ _ _ us hl => match us, hl with | [_, _, _], _ => rfl⟩
  have D13 : Dfn K mg "_law_draws" s__law_draws ["_law_cell_here", "_law_widths", "_law_prime"] := ⟨f13, _, PySem.W.mg_of X G a13, fun_mk (st := s__law_draws) l13 c13 k13, (fun_mk (st := s__law_draws) l13 c13 k13).binds (ps := ["_law_cell_here", "_law_widths", "_law_prime"]) fun _ _ _ _ _ _ us hl => match us, hl with | [_, _, _], _ => rfl⟩
  have D14 : Dfn K mg "_law_cell" s__law_cell ["_law_script", "_law_k"] := ⟨f14, _, PySem.W.mg_of X G a14, fun_mk (st := s__law_cell) l14 c14 k14, (fun_mk (st := s__law_cell) l14 c14 k14).binds (ps := ["_law_script", "_law_k"]) fun _ _ _ _ _ _ us hl => match us, hl with | [_, _], _ => rfl⟩
  have D15 : Dfn K mg "_law_signs" s__law_signs [] := ⟨f15, _, PySem.W.mg_of X G a15, fun_mk (st := s__law_signs) l15 c15 k15, (fun_mk (st := s__law_signs) l15 c15 k15).binds (ps := []) fun _ _ _ _ _ _ us hl => match us, hl with | [], _ => rfl⟩
  have D16 : Dfn K mg "_law_unlike" s__law_unlike ["_law_ways"] := ⟨f16, _, PySem.W.mg_of X G a16, fun_mk (st := s__law_unlike) l16 c16 k16, (fun_mk (st := s__law_unlike) l16 c16 k16).binds (ps := ["_law_ways"]) fun _ _ _ _ _ _ us hl => match us, hl with | [_], _ => rfl⟩
  have D17 : Dfn K mg "_law_drawn_house" s__law_drawn_house ["_law_cell_here", "_law_prime"] := ⟨f17, _, PySem.W.mg_of X G a17, fun_mk (st := s__law_drawn_house) l17 c17 k17, (fun_mk (st := s__law_drawn_house) l17 c17 k17).binds (ps := ["_law_cell_here", "_law_prime"]) fun _ _ _ _ _ _ us hl => match us, hl with | [_, _], _ => rfl⟩
  have D18 : Dfn K mg "_law_gate_house" s__law_gate_house ["_law_cell_here", "_law_prime"] := ⟨f18, _, PySem.W.mg_of X G a18, fun_mk (st := s__law_gate_house) l18 c18 k18, (fun_mk (st := s__law_gate_house) l18 c18 k18).binds (ps := ["_law_cell_here", "_law_prime"]) fun _ _ _ _ _ _ us hl => match us, hl with | [_, _], _ => rfl⟩
  have D19 : Dfn K mg "_law_ring_house" s__law_ring_house ["_law_cell_here", "_law_prime"] := ⟨f19, _, PySem.W.mg_of X G a19, fun_mk (st := s__law_ring_house) l19 c19 k19, (fun_mk (st := s__law_ring_house) l19 c19 k19).binds (ps := ["_law_cell_here", "_law_prime"]) fun _ _ _ _ _ _ us hl => match us, hl with | [_, _], _ => rfl⟩
  have D20 : Dfn K mg "_law_spare" s__law_spare ["_law_cell_here", "_law_width"] := ⟨f20, _, PySem.W.mg_of X G a20, fun_mk (st := s__law_spare) l20 c20 k20, (fun_mk (st := s__law_spare) l20 c20 k20).binds (ps := ["_law_cell_here", "_law_width"]) fun _ _ _ _ _ _ us hl => match us, hl with | [_, _], _ => rfl⟩
  have D21 : Dfn K mg "_law_house" s__law_house ["_law_cell_here", "_law_prime"] := ⟨f21, _, PySem.W.mg_of X G a21, fun_mk (st := s__law_house) l21 c21 k21, (fun_mk (st := s__law_house) l21 c21 k21).binds (ps := ["_law_cell_here", "_law_prime"]) fun _ _ _ _ _ _ us hl => match us, hl with | [_, _], _ => rfl⟩
  refine ⟨PySem.W.fnOf "law" "law" (defArgs s_law) (defBody s_law) (defScope s_law) .none kV22 dc22 pm22 an22 cd22 ct22, fun s v => .of_eq rfl, fun base KB GB => ?_⟩
  have C0 : Cal l.prog w K mg base "is_sign" 1 ["thing"] (sp_is_sign K) := ok_is_sign D0 T
  have C1 : Cal l.prog w K mg base "is_deed" 1 ["thing"] (sp_is_deed K) := ok_is_deed D1 T ⟨_, PySem.W.mg_of X G x0, gdk_TURNED y0 w0⟩
  have C2 : Cal l.prog w K mg base "is_whole" 1 ["thing"] (sp_is_whole K) := ok_is_whole D2 T
  have C3 : Cal l.prog w K mg base "is_room" 2 ["thing", "many"] (sp_is_room K) := ok_is_room D3 T C2
  have C4 : Cal l.prog w K mg base "is_way" 3 ["thing", "many"] (sp_is_way K) := ok_is_way D4 T C0 C1 C3
  have C5 : Cal l.prog w K mg base "are_ways" 4 ["thing", "many"] (sp_are_ways K) := ok_are_ways D5 T ⟨_, PySem.W.mg_of X G v0⟩ C4
  have C6 : Cal l.prog w K mg base "is_house" 5 ["thing"] (sp_is_house K) := ok_is_house D6 T ⟨_, PySem.W.mg_of X G v1⟩ C5 C2
  have C7 : Cal l.prog w K mg base "_law_many_ways" 1 ["_law_many", "_law_first"] (sp__law_many_ways K) := ok__law_many_ways D7 T
  have C8 : Cal l.prog w K mg base "_law_bad_things" 1 ["_law_house_here", "_law_at"] (sp__law_bad_things K) := ok__law_bad_things D8 T
  have C9 : Cal l.prog w K mg base "_law_whole" 1 ["_law_found"] (sp__law_whole K) := ok__law_whole D9 T
  have C10 : Cal l.prog w K mg base "_law_is_house" 2 ["_law_thing"] (sp__law_is_house K) := ok__law_is_house D10 T C9
  have C11 : Cal l.prog w K mg base "_law_with_sign" 1 ["_law_house_here", "_law_way", "_law_sign"] (sp__law_with_sign K) := ok__law_with_sign D11 T
  have C12 : Cal l.prog w K mg base "_law_mixed" 1 ["_law_cell_here", "_law_k", "_law_prime"] (sp__law_mixed K) := ok__law_mixed D12 T
  have C13 : Cal l.prog w K mg base "_law_draws" 2 ["_law_cell_here", "_law_widths", "_law_prime"] (sp__law_draws K) := ok__law_draws D13 T C12
  have C14 : Cal l.prog w K mg base "_law_cell" 1 ["_law_script", "_law_k"] (sp__law_cell K) := ok__law_cell D14 T
  have C15 : Cal l.prog w K mg base "_law_signs" 1 [] (sp__law_signs K) := ok__law_signs D15 T
  have C16 : Cal l.prog w K mg base "_law_unlike" 1 ["_law_ways"] (sp__law_unlike K) := ok__law_unlike D16 T
  have C17 : Cal l.prog w K mg base "_law_drawn_house" 3 ["_law_cell_here", "_law_prime"] (sp__law_drawn_house K) := ok__law_drawn_house D17 T C16 C13
  have C18 : Cal l.prog w K mg base "_law_gate_house" 3 ["_law_cell_here", "_law_prime"] (sp__law_gate_house K) := ok__law_gate_house D18 T C16 C13
  have C19 : Cal l.prog w K mg base "_law_ring_house" 3 ["_law_cell_here", "_law_prime"] (sp__law_ring_house K) := ok__law_ring_house D19 T C13
  have C20 : Cal l.prog w K mg base "_law_spare" 1 ["_law_cell_here", "_law_width"] (sp__law_spare K) := ok__law_spare D20 T
  have C21 : Cal l.prog w K mg base "_law_house" 4 ["_law_cell_here", "_law_prime"] (sp__law_house K) := ok__law_house D21 T C17 C18 C19 C20 C13
  exact ok_law (fun_mk (st := s_law) l22 c22 k22) T C6 C7 C8 C10 C11 C13 C14 C15 C21
theorem walk {l : PySem.W.OpenLaw} {q : Program} {loose : List Str} {XP : (Str → Option Value) → Heap → Prop} {YP : World → Heap → Prop} {d : DefRec} {K : Params → PySem.W.Frag} (hn : l.most = some 63) (hdf : d.params.defaults = [])
    (hY : ∀ (w : World) (h : Heap), YP w h → (K w.params).In h)
    (F : ∀ (w : World) (mg : Str → Option Value) (fa : Addr) (h : Heap), (K w.params).In h → h.Ns mainGlobals mg → mg d.name = some (.ref fa) →
      ∃ fd : FuncData, (∀ (s : Shared) (u : Value), BindsTo s fd ⟨[u], []⟩ [("_law_script", u)]) ∧ ∀ base : Heap, (K w.params).In base → base.Ns mainGlobals mg → FnOk l.prog w (K w.params) mg base CX0 6 fa fd ["_law_script"] (sp_law (K w.params))) :
    PySem.W.WalkO q loose XP YP l.row.toRowW d [] (fun f vs => PySem.call f vs) :=
  L2.walk_of (n := 63) (k := 6) (x := "_law_script") (CX := fun _ => CX0) (sp := fun w => sp_law (K w.params)) hn (by decide) hdf ⟨rfl, by decide, by decide⟩ hY F (fun _ _ a ns hl _ hS => ⟨a, ns, rfl, hS, hl, fun _ => rfl⟩) fun _ _ _ _ _ z => z
end My
open PySem PySem.W PyProof.Rows
set_option maxRecDepth 100000 in
set_option maxHeartbeats 0 in
theorem PySem.Challenge.cw_stairrooms_k13_is_house_holds : PySem.Challenge.rw_stairrooms_k13_is_house.Holds := by
  w_on; o_law; k_head; (case hw => w_witness2)
  k_fill
  refine My.walk (l := PySem.Challenge.rw_stairrooms_k13_is_house) rfl rfl (fun w h Y => PySem.W.kIn_of Y) ?F
  case F =>
    intro w mg fa h KX G hmg
    refine' My.all_mk KX G hmg ?a0 ?l0 ?c0 ?k0 ?a1 ?l1 ?c1 ?k1 ?a2 ?l2 ?c2 ?k2 ?a3 ?l3 ?c3 ?k3 ?a4 ?l4 ?c4 ?k4 ?a5 ?l5 ?c5 ?k5 ?a6 ?l6 ?c6 ?k6 ?a7 ?l7 ?c7 ?k7 ?a8 ?l8 ?c8 ?k8 ?a9 ?l9 ?c9 ?k9 ?a10 ?l10 ?c10 ?k10 ?a11 ?l11 ?c11 ?k11 ?a12 ?l12 ?c12 ?k12 ?a13 ?l13 ?c13 ?k13 ?a14 ?l14 ?c14 ?k14 ?a15 ?l15 ?c15 ?k15 ?a16 ?l16 ?c16 ?k16 ?a17 ?l17 ?c17 ?k17 ?a18 ?l18 ?c18 ?k18 ?a19 ?l19 ?c19 ?k19 ?a20 ?l20 ?c20 ?k20 ?a21 ?l21 ?c21 ?k21 ?a22 ?l22 ?c22 ?k22 ?z0 ?z1 ?z2 ?z3 ?z4 ?z5 ?z6 ?z7 ?z8 ?z9 ?z10 ?z11 ?z12 ?z13 ?z14 ?v0 ?v1 ?x0 ?y0 ?w0
    (case a0 => k_is); (case l0 => k_is); (case c0 => k_is); (case k0 => k_is)
    (case a1 => k_is); (case l1 => k_is); (case c1 => k_is); (case k1 => k_is)
    (case a2 => k_is); (case l2 => k_is); (case c2 => k_is); (case k2 => k_is)
    (case a3 => k_is); (case l3 => k_is); (case c3 => k_is); (case k3 => k_is)
    (case a4 => k_is); (case l4 => k_is); (case c4 => k_is); (case k4 => k_is)
    (case a5 => k_is); (case l5 => k_is); (case c5 => k_is); (case k5 => k_is)
    (case a6 => k_is); (case l6 => k_is); (case c6 => k_is); (case k6 => k_is)
    (case a7 => k_is); (case l7 => k_is); (case c7 => k_is); (case k7 => k_is)
    (case a8 => k_is); (case l8 => k_is); (case c8 => k_is); (case k8 => k_is)
    (case a9 => k_is); (case l9 => k_is); (case c9 => k_is); (case k9 => k_is)
    (case a10 => k_is); (case l10 => k_is); (case c10 => k_is); (case k10 => k_is)
    (case a11 => k_is); (case l11 => k_is); (case c11 => k_is); (case k11 => k_is)
    (case a12 => k_is); (case l12 => k_is); (case c12 => k_is); (case k12 => k_is)
    (case a13 => k_is); (case l13 => k_is); (case c13 => k_is); (case k13 => k_is)
    (case a14 => k_is); (case l14 => k_is); (case c14 => k_is); (case k14 => k_is)
    (case a15 => k_is); (case l15 => k_is); (case c15 => k_is); (case k15 => k_is)
    (case a16 => k_is); (case l16 => k_is); (case c16 => k_is); (case k16 => k_is)
    (case a17 => k_is); (case l17 => k_is); (case c17 => k_is); (case k17 => k_is)
    (case a18 => k_is); (case l18 => k_is); (case c18 => k_is); (case k18 => k_is)
    (case a19 => k_is); (case l19 => k_is); (case c19 => k_is); (case k19 => k_is)
    (case a20 => k_is); (case l20 => k_is); (case c20 => k_is); (case k20 => k_is)
    (case a21 => k_is); (case l21 => k_is); (case c21 => k_is); (case k21 => k_is)
    (case a22 => k_is); (case l22 => k_is); (case c22 => k_is); (case k22 => k_is)
    (case z0 => k_is)
    (case z1 => k_is)
    (case z2 => k_is)
    (case z3 => k_is)
    (case z4 => k_is)
    (case z5 => k_is)
    (case z6 => k_is)
    (case z7 => k_is)
    (case z8 => k_is)
    (case z9 => k_is)
    (case z10 => k_is)
    (case z11 => k_is)
    (case z12 => k_is)
    (case z13 => k_is)
    (case z14 => k_is)
    (case v0 => k_is)
    (case v1 => k_is)
    (case x0 => k_is); (case y0 => k_is); (case w0 => first | rfl | k_is)
