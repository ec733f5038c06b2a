import PyProof.Rows.All
import Wide.All
import OpenK.AllK
import Wide.FinOn
import Lean
import PyProof.EqAt
import PyProof.EqKinds
import PyProof.TupleCall
import PySem.Challenge.RW_figuresort_k31_steps_of_heap_walks
set_option compiler.extract_closed false
-- CHANGE: your row's module here, as the last of these rows
set_option Elab.async false
set_option linter.all false
set_option maxRecDepth 100000
namespace L2
open PySem PySem.Spec PyProof.Rows

noncomputable abbrev Key := Sum Int Str
noncomputable def keyIs : Key → Value → Bool
  | .inl k, v => Value.isInt k v
  | .inr x, v => Value.isStrOf x v
noncomputable def keyH (w : World) : Key → Int
  | .inl k => hashInt k
  | .inr x => hashStr w x
theorem keyIs_shape : ∀ {k : Key} {v : Value}, keyIs k v = true → (∃ i t, k = Sum.inl i ∧ v = Value.int i t) ∨ (∃ x t, k = Sum.inr x ∧ v = Value.str x t)
  | .inl i, v, h => by
    obtain ⟨t, e⟩ := Value.isInt_shape (k := i) (v := v) h
    exact .inl ⟨i, t, rfl, e⟩
  | .inr x, v, h => by
    obtain ⟨t, e⟩ := Value.isStrOf_shape (x := x) (v := v) h
    exact .inr ⟨x, t, rfl, e⟩
theorem key_ll (a b : Int) : decide ((Sum.inl a : Key) = Sum.inl b) = (a == b) := by
  by_cases e : a = b
  · subst e; simp
  · have h : ¬ (Sum.inl a : Key) = Sum.inl b := fun q => e (Sum.inl.inj q)
    rw [decide_eq_false h]
    exact (beq_eq_false_iff_ne.mpr e).symm
theorem key_rr (a b : Str) : decide ((Sum.inr a : Key) = Sum.inr b) = decide (a = b) := by
  by_cases e : a = b
  · subst e; simp
  · have h : ¬ (Sum.inr a : Key) = Sum.inr b := fun q => e (Sum.inr.inj q)
    rw [decide_eq_false h, decide_eq_false e]
theorem key_lr (a : Int) (b : Str) : decide ((Sum.inl a : Key) = Sum.inr b) = false := decide_eq_false (fun q => nomatch q)
theorem key_rl (a : Str) (b : Int) : decide ((Sum.inr a : Key) = Sum.inl b) = false := decide_eq_false (fun q => nomatch q)

noncomputable def mixKind (prog : Program) (w : World) : PySem.KeyKind prog w Key where
  is := keyIs
  hash := keyH w
  inj := fun v a b ha hb => by
    rcases keyIs_shape ha with ⟨i, t, rfl, rfl⟩ | ⟨x, t, rfl, rfl⟩
    · rcases keyIs_shape hb with ⟨j, u, rfl, e⟩ | ⟨y, u, rfl, e⟩
      · injection e with e1 _; rw [e1]
      · exact nomatch e
    · rcases keyIs_shape hb with ⟨j, u, rfl, e⟩ | ⟨y, u, rfl, e⟩
      · exact nomatch e
      · injection e with e1 _; rw [e1]
  byValue := fun k v h => by
    rcases keyIs_shape h with ⟨i, t, rfl, rfl⟩ | ⟨x, t, rfl, rfl⟩ <;> rfl
  pyHash := fun hv h => by
    rcases keyIs_shape hv with ⟨i, t, rfl, rfl⟩ | ⟨x, t, rfl, rfl⟩
    · exact wpAny_pyHash_int h
    · exact wpAny_pyHash_str h
  eqBool := fun hu hv h => by
    rcases keyIs_shape hu with ⟨i, t, rfl, rfl⟩ | ⟨x, t, rfl, rfl⟩
    · rcases keyIs_shape hv with ⟨j, u, rfl, rfl⟩ | ⟨y, u, rfl, rfl⟩
      · rw [key_ll] at h; exact wpAny_eqBool_int h
      · rw [key_lr] at h; exact SeqAt.EqAt.int_str i t y u _ _ _ _ h
    · rcases keyIs_shape hv with ⟨j, u, rfl, rfl⟩ | ⟨y, u, rfl, rfl⟩
      · rw [key_rl] at h; exact SeqAt.EqAt.str_int x t j u _ _ _ _ h
      · rw [key_rr] at h; exact wpAny_eqBool_str h
  «strs» := fun k x t v h => by
    rcases keyIs_shape h with ⟨i, u, rfl, e⟩ | ⟨y, u, rfl, e⟩
    · exact nomatch e
    · injection e with e1 _
      subst e1
      cases v <;> rfl

end L2

namespace L2
open PySem PySem.Spec PyProof.Rows

inductive V where
  | non | bl (b : Bool) | int (i : Int) | str (x : Str) | byt (b : Array UInt8) | flt (b : UInt64) | ref (a : Addr) | ty (n : String)
  deriving DecidableEq

noncomputable def RelV : V → Value → Prop
  | .non, u => u = Value.none
  | .bl b, u => u = Value.bool b
  | .int i, u => ∃ t, u = Value.int i t
  | .str x, u => ∃ t, u = Value.str x t
  | .byt b, u => ∃ t, u = Value.bytes b t
  | .flt b, u => ∃ t, u = Value.float b t
  | .ref a, u => u = Value.ref a
  | .ty n, u => u = Value.type n

noncomputable abbrev Vals : List V → List Value → Prop := Paired RelV
theorem Vals.length {xs : List V} {us : List Value} (r : Vals xs us) : xs.length = us.length := Paired.length r
theorem Vals.get : ∀ {xs : List V} {us : List Value} {i : Nat} {x : V}, Vals xs us → xs[i]? = some x → ∃ u, us[i]? = some u ∧ RelV x u
  | _, _, _, _, .nil, e => by simp at e
  | _, _, 0, _, .cons r _, e => by simp at e; subst e; exact ⟨_, rfl, r⟩
  | _, _, i + 1, x, .cons _ t, e => by
    obtain ⟨u, h1, h2⟩ := Vals.get (i := i) (x := x) t (by simpa using e)
    exact ⟨u, by simpa using h1, h2⟩
theorem Vals.set {x : V} {u : Value} (r : RelV x u) : ∀ {xs : List V} {us : List Value} (i : Nat), Vals xs us → Vals (xs.set i x) (us.set i u)
  | _, _, _, .nil => .nil
  | _, _, 0, .cons _ t => .cons r t
  | _, _, i + 1, .cons q t => .cons q (Vals.set r i t)
theorem Vals.append : ∀ {xs ys : List V} {us ws : List Value}, Vals xs us → Vals ys ws → Vals (xs ++ ys) (us ++ ws)
  | _, _, _, _, .nil, s => s
  | _, _, _, _, .cons r t, s => .cons r (Vals.append t s)
theorem Vals.take : ∀ {xs : List V} {us : List Value} (n : Nat), Vals xs us → Vals (xs.take n) (us.take n)
  | _, _, 0, _ => .nil
  | _, _, _ + 1, .nil => .nil
  | _, _, n + 1, .cons r t => .cons r (Vals.take n t)
theorem Vals.drop : ∀ {xs : List V} {us : List Value} (n : Nat), Vals xs us → Vals (xs.drop n) (us.drop n)
  | _, _, 0, r => r
  | _, _, _ + 1, .nil => .nil
  | _, _, n + 1, .cons _ t => Vals.drop n t
noncomputable def RelO : Option V → Option Value → Prop
  | some v, some u => RelV v u
  | none, none => True
  | _, _ => False
noncomputable def KV {κ : Type} : List (κ × V) → List (κ × Value) → Prop := Paired fun (p : κ × V) (q : κ × Value) => p.1 = q.1 ∧ RelV p.2 q.2

noncomputable def kV : Key → V
  | .inl i => .int i
  | .inr x => .str x

inductive HO where
  /-- a list -/
  | lst (xs : List V)
  /-- a tuple (never changes) -/
  | tup (xs : List V)
  /-- a dict whose keys are ints and texts; one whose keys are tuples of ints and texts (the empty one is both) -/
  | dK (kvs : List (Key × V)) | dT (kvs : List (List Key × V))
  /-- a set of ints: its members, its size -/
  | set (S : Int → Bool) (n : Nat)
  /-- an instance of the class at C, its dict at dx, its attributes -/
  | ins (C dx : Addr) (fs : List (Str × V))
  /-- the dict of the instance at x -/
  | own (x : Addr)
  /-- the dict of an exception -/
  | xd (fs : List (Str × V))
  /-- a bound method, f of x -/
  | met (f x : Addr)
  /-- a range object lo, lo + 1, .. below hi -/
  | rng (lo hi : Int)
  /-- a thing that is known to the object (the script; a dict while a loop walks it): read, never written while it is so -/
  | frz (o : Obj) (u : HO)
  /-- a code object's table -/
  | tbl (ps : Array Value)
  /-- any other thing, by what is true of its one object (a def of one's own: SetO a S n := HO.ext fun h => ..) -/
  | ext (φ : Heap → Prop)

noncomputable abbrev Hp := Addr → Option HO
noncomputable def upd (H : Hp) (a : Addr) (o : HO) : Hp := fun b => if b = a then some o else H b
theorem upd_same {H : Hp} {a : Addr} {o : HO} : upd H a o a = some o := by unfold upd; rw [if_pos rfl]
theorem upd_ne {H : Hp} {a b : Addr} {o : HO} (h : b ≠ a) : upd H a o b = H b := by unfold upd; rw [if_neg h]
theorem ne_of {H : Hp} {a b : Addr} {o u : HO} (h : H a = some o) (h' : H b = some u) (d : o ≠ u) : a ≠ b := by
  intro e; subst e; rw [h] at h'; exact d (Option.some.inj h')
theorem ne_of_none {H : Hp} {a b : Addr} {o : HO} (h : H a = some o) (h' : H b = none) : a ≠ b := by
  intro e; subst e; rw [h] at h'; cases h'

section
variable (P : Program) (w : World)
noncomputable def ObjOk (H : Hp) (h : Heap) (a : Addr) : HO → Prop
  | .lst xs => xs.length ≤ sizeLine ∧ ∃ (its : List Value) (n : Nat), Vals xs its ∧ h.get? a = some { cls := .type "list", data := .seq its.toArray n }
  | .tup xs => xs.length ≤ sizeLine ∧ ∃ its : List Value, Vals xs its ∧ IsTup h a its.toArray
  | .dK kvs => kvs.length ≤ sizeLine ∧ (a == sysModules) = false ∧ ∃ vs, KV kvs vs ∧ h.DictOf (mixKind P w) a vs
  | .dT kvs => kvs.length ≤ sizeLine ∧ (a == sysModules) = false ∧ ∃ xs : List (List Key × Addr × Value),
      Paired (fun (p : List Key × V) (q : List Key × Addr × Value) => p.1 = q.1 ∧ H q.2.1 = some (.tup (p.1.map kV)) ∧ RelV p.2 q.2.2) kvs xs ∧
      ∃ o es ep, h.get? a = some o ∧ o.ExactDict ∧ o.data = .dict es ep ∧ es.toList = xs.map (entryOfKey (tupleKind (mixKind P w))) ∧ (xs.map (·.1)).Nodup
  | .set S n => h.SetOf (intKind P w) a S n
  | .ins C dx fs => H dx = some (.own a) ∧ fs.length ≤ 1000 ∧ dx ≠ a ∧ h.get? a = some (PySem.W.instObj C dx) ∧
      ∃ mA, h.Ns1 dx mA ∧ (∀ f, RelO (fs.lookup f) (mA f)) ∧ PySem.Within mA (fs.map (·.1))
  | .own _ => ∃ o, h.get? a = some o
  | .xd fs => ∃ mA, h.Ns1 a mA ∧ ∀ f, RelO (fs.lookup f) (mA f)
  | .rng lo hi => ∃ t u v, h.get? a = some { cls := .type "range", data := .fields #[.int lo t, .int hi u, .int 1 v] }
  | .frz o u => h.get? a = some o ∧ ObjOk H h a u
  | .tbl ps => h.get? a = some { cls := .none, data := .fields ps }
  | .met f x => h.get? a = some (PySem.W.methodObj (.ref f) (.ref x))
  | .ext φ => φ h ∧ (∃ o, h.get? a = some o) ∧ ∀ h1 h2 : Heap, φ h1 → (∀ o, h1.get? a = some o → h2.get? a = some o) → φ h2
noncomputable def HOk (H : Hp) (h : Heap) : Prop := ∀ a o, H a = some o → ObjOk P w H h a o
end

section
variable {P : Program} {w : World} {H H' : Hp} {h h' : Heap} {a : Addr} {o : HO}
theorem ObjOk.lt (x : ObjOk P w H h a o) : a < h.objs.size := by
  cases o with
  | lst xs => obtain ⟨_, _, _, _, e⟩ := x; exact Heap.lt_size e
  | tup xs => obtain ⟨_, _, _, p⟩ := x; exact p.lt
  | dK kvs => obtain ⟨_, _, _, _, o, _, _, e, _⟩ := x; exact Heap.lt_size e
  | dT kvs => obtain ⟨_, _, _, _, o, _, _, e, _⟩ := x; exact Heap.lt_size e
  | set S n => obtain ⟨o, _, _, _, e, _⟩ := x; exact Heap.lt_size e
  | ins C dx fs => obtain ⟨_, _, _, e, _⟩ := x; exact Heap.lt_size e
  | own y => obtain ⟨_, e⟩ := x; exact Heap.lt_size e
  | xd fs => obtain ⟨_, ⟨_, _, _, e, _⟩, _⟩ := x; exact Heap.lt_size e
  | rng lo hi => obtain ⟨_, _, _, e⟩ := x; exact Heap.lt_size e
  | frz ob u => obtain ⟨e, _⟩ := x; exact Heap.lt_size e
  | tbl ps => exact Heap.lt_size (show h.get? a = some _ from x)
  | met f y => exact Heap.lt_size (show h.get? a = some _ from x)
  | ext φ => obtain ⟨_, ⟨_, e⟩, _⟩ := x; exact Heap.lt_size e
theorem Paired.mapP {α β : Type} {F G : α → β → Prop} : ∀ {l₁ : List α} {l₂ : List β}, Paired F l₁ l₂ → (∀ a b, F a b → G a b) → Paired G l₁ l₂
  | _, _, .nil, _ => .nil
  | _, _, .cons r t, f => .cons (f _ _ r) (Paired.mapP t f)
theorem ObjOk.stay (x : ObjOk P w H h a o) (k : ∀ b u, (b = a ∨ H b = some (.own a)) → h.get? b = some u → h'.get? b = some u)
    (ho : ∀ b, H b = some (.own a) → H' b = some (.own a)) (ht : ∀ b xs, H b = some (.tup xs) → H' b = some (.tup xs)) : ObjOk P w H' h' a o := by
  induction o with
  | lst xs => obtain ⟨z, its, n, r, e⟩ := x; exact ⟨z, its, n, r, k _ _ (.inl rfl) e⟩
  | tup xs => obtain ⟨z, its, r, ob, e, c⟩ := x; exact ⟨z, its, r, ob, k _ _ (.inl rfl) e, c⟩
  | dK kvs => obtain ⟨z, y, vs, r, ob, es, ep, e, c⟩ := x; exact ⟨z, y, vs, r, ob, es, ep, k _ _ (.inl rfl) e, c⟩
  | dT kvs =>
    obtain ⟨z, y, xs, r, ob, es, ep, e, c⟩ := x
    exact ⟨z, y, xs, Paired.mapP r fun p q z => ⟨z.1, ht _ _ z.2.1, z.2.2⟩, ob, es, ep, k _ _ (.inl rfl) e, c⟩
  | set S n => obtain ⟨ob, es, ep, t, e, c⟩ := x; exact ⟨ob, es, ep, t, k _ _ (.inl rfl) e, c⟩
  | ins C dx fs =>
    obtain ⟨d, z, ne, e, mA, ⟨od, es, ep, e2, c⟩, r⟩ := x
    exact ⟨ho _ d, z, ne, k _ _ (.inl rfl) e, mA, ⟨od, es, ep, k _ _ (.inr d) e2, c⟩, r⟩
  | own y => obtain ⟨ob, e⟩ := x; exact ⟨ob, k _ _ (.inl rfl) e⟩
  | xd fs => obtain ⟨mA, ⟨od, es, ep, e, c⟩, r⟩ := x; exact ⟨mA, ⟨od, es, ep, k _ _ (.inl rfl) e, c⟩, r⟩
  | rng lo hi => obtain ⟨t, u, v, e⟩ := x; exact ⟨t, u, v, k _ _ (.inl rfl) e⟩
  | frz ob u ih => obtain ⟨e, q⟩ := x; exact ⟨k _ _ (.inl rfl) e, ih q⟩
  | tbl ps =>
    have e : h.get? a = some { cls := .none, data := .fields ps } := x
    show h'.get? a = some { cls := .none, data := .fields ps }
    exact k a _ (.inl rfl) e
  | met f y =>
    have e : h.get? a = some (PySem.W.methodObj (.ref f) (.ref y)) := x
    show h'.get? a = some (PySem.W.methodObj (.ref f) (.ref y))
    exact k a _ (.inl rfl) e
  | ext φ => obtain ⟨p, ⟨o, e⟩, st⟩ := x; exact ⟨st _ _ p fun o q => k _ _ (.inl rfl) q, ⟨o, k _ _ (.inl rfl) e⟩, st⟩
theorem HOk.lt (x : HOk P w H h) (e : H a = some o) : a < h.objs.size := (x a o e).lt
theorem HOk.fresh (x : HOk P w H h) (e : h.objs.size ≤ a) : H a = none := by
  cases q : H a with
  | none => rfl
  | some u => exact absurd (Nat.lt_of_lt_of_le (x.lt q) e) (Nat.lt_irrefl _)
theorem HOk.kept (x : HOk P w H h) (k : ∀ b u, h.get? b = some u → h'.get? b = some u) : HOk P w H h' := fun a o e =>
  (x a o e).stay (fun b u _ q => k b u q) (fun _ q => q) fun _ _ q => q
theorem HOk.laid (x : HOk P w H h) (k : ∀ b u, h.get? b = some u → h'.get? b = some u) (hp : h.objs.size ≤ a) (new : ObjOk P w (upd H a o) h' a o) : HOk P w (upd H a o) h' := fun b u e => by
  have hn := x.fresh hp
  by_cases hb : b = a
  · subst hb; rw [upd_same] at e; cases e; exact new
  · rw [upd_ne hb] at e
    exact (x b u e).stay (fun c v _ q => k c v q) (fun c q => by rw [upd_ne (ne_of_none q hn)]; exact q) fun c xs q => by rw [upd_ne (ne_of_none q hn)]; exact q
end

noncomputable def Rd (H : Hp) (a : Addr) (u : HO) : Prop := H a = some u ∨ ∃ o, H a = some (.frz o u)
theorem Rd.ok {P : Program} {w : World} {H : Hp} {h : Heap} {a : Addr} {u : HO} (r : Rd H a u) (x : HOk P w H h) : ObjOk P w H h a u := by
  rcases r with r | ⟨o, r⟩
  · exact x a u r
  · obtain ⟨_, q⟩ := x a _ r
    exact q
noncomputable def Mut : Option HO → Prop
  | some (.lst _) => True
  | some (.dK _) => True
  | some (.dT _) => True
  | some (.set _ _) => True
  | some (.ins _ _ _) => True
  | some (.ext _) => True
  | _ => False
section
variable {P : Program} {w : World} {H : Hp} {h h' : Heap} {x e : Addr} {o' : HO}
theorem HOk.write (ok : HOk P w H h) (mu : Mut (H x)) (he : e = x ∨ H e = some (.own x)) (k : ∀ b u, b ≠ e → h.get? b = some u → h'.get? b = some u) (heo : ∃ u, h'.get? e = some u)
    (new : ObjOk P w (upd H x o') h' x o') : HOk P w (upd H x o') h' := fun b u q => by
  have nown : ∀ c y, H c = some (.own y) → c ≠ x := fun c y r z => by subst z; rw [r] at mu; exact mu
  have ntup : ∀ c xs, H c = some (.tup xs) → c ≠ x := fun c xs r z => by subst z; rw [r] at mu; exact mu
  by_cases hb : b = x
  · subst hb; rw [upd_same] at q; cases q; exact new
  · rw [upd_ne hb] at q
    by_cases hbe : b = e
    · have q' : H b = some (.own x) := by
        rcases he with z | z
        · exact absurd (hbe.trans z) hb
        · rw [hbe]; exact z
      rw [q] at q'; cases q'
      obtain ⟨v, hv⟩ := heo
      exact ⟨v, by rw [hbe]; exact hv⟩
    · refine (ok b u q).stay (fun c v hc r => k c v ?_ r) (fun c r => by rw [upd_ne (nown c b r)]; exact r) fun c xs r => by rw [upd_ne (ntup c xs r)]; exact r
      rcases hc with rfl | hc
      · exact hbe
      · rintro rfl
        rcases he with z | z
        · exact nown c b hc z
        · rw [hc] at z; cases z; exact hb rfl
end

structure Un (fs ex : List Addr) (H H' : Hp) (h h' : Heap) : Prop where
  keep : ∀ b o, h.get? b = some o → H b = none → b ∉ fs → b ∉ ex → h'.get? b = some o
  slot : ∀ b o, h.get? b = some o → H b = none → b ∈ fs → b ∉ ex → ∃ sl, h'.get? b = some { o with slots := sl }
  free : ∀ b o, h.get? b = some o → H b = none → b ∉ ex → H' b = none
  there : ∀ b o, h.get? b = some o → b ∉ ex → ∃ o', h'.get? b = some o'
  tups : ∀ b xs, H b = some (.tup xs) → H' b = some (.tup xs)
  frzs : ∀ b o u, H b = some (.frz o u) → H' b = some (.frz o u)
  tbls : ∀ b ps, H b = some (.tbl ps) → ∃ more, H' b = some (.tbl (ps ++ more))
section
variable {fs fs' ex ex' : List Addr} {H H1 H2 : Hp} {h h1 h2 h' : Heap} {a x e : Addr} {o : HO}
theorem Un.any (u : Un fs ex H H1 h h1) {b : Addr} {ob : Obj} (q : h.get? b = some ob) (n : H b = none) (hx : b ∉ ex) : ∃ sl, h1.get? b = some { ob with slots := sl } := by
  by_cases hb : b ∈ fs
  · exact u.slot b ob q n hb hx
  · exact ⟨ob.slots, u.keep b ob q n hb hx⟩
theorem Un.kept (k : ∀ b u, h.get? b = some u → h'.get? b = some u) : Un fs ex H H h h' :=
  ⟨fun b ob q _ _ _ => k b ob q, fun b ob q _ _ _ => ⟨ob.slots, k b ob q⟩, fun _ _ _ n _ => n, fun b ob q _ => ⟨ob, k b ob q⟩, fun _ _ q => q, fun _ _ _ q => q, fun _ ps q => ⟨#[], by rw [q]; simp⟩⟩
theorem Un.refl : Un fs ex H H h h := Un.kept fun _ _ q => q
theorem Un.laid (k : ∀ b u, h.get? b = some u → h'.get? b = some u) (hp : h.objs.size ≤ a) (hn : H a = none) : Un fs ex H (upd H a o) h h' where
  keep := fun b u q _ _ _ => k b u q
  slot := fun b u q _ _ _ => ⟨u.slots, k b u q⟩
  free := fun b u q n _ => by rw [upd_ne (Nat.ne_of_lt (Nat.lt_of_lt_of_le (Heap.lt_size q) hp))]; exact n
  there := fun b u q _ => ⟨u, k b u q⟩
  tups := fun b xs q => by rw [upd_ne (ne_of_none q hn)]; exact q
  frzs := fun b u xs q => by rw [upd_ne (ne_of_none q hn)]; exact q
  tbls := fun b ps q => ⟨#[], by rw [upd_ne (ne_of_none q hn), q]; simp⟩
theorem Un.write (mu : Mut (H x)) (he : e = x ∨ H e = some (.own x)) (k : ∀ b u, b ≠ e → h.get? b = some u → h'.get? b = some u) (heo : ∃ u, h'.get? e = some u) : Un fs ex H (upd H x o) h h' := by
  have hx : ∀ b, H b = none → b ≠ x := fun b n z => by subst z; rw [n] at mu; exact mu
  have hb : ∀ b, H b = none → b ≠ e := fun b n z => by
    subst z
    rcases he with r | r
    · exact hx b n r
    · rw [n] at r; cases r
  have hm : ∀ b u, H b = some u → ¬ Mut (some u) → b ≠ x := fun b u q nm z => by subst z; rw [q] at mu; exact nm mu
  refine ⟨fun b u q n _ _ => k b u (hb b n) q, fun b u q n _ _ => ⟨u.slots, k b u (hb b n) q⟩, fun b u q n _ => by rw [upd_ne (hx b n)]; exact n, fun b u q _ => ?_,
    fun b xs q => by rw [upd_ne (hm b _ q fun z => z)]; exact q, fun b u xs q => by rw [upd_ne (hm b _ q fun z => z)]; exact q, fun b ps q => ⟨#[], by rw [upd_ne (hm b _ q fun z => z), q]; simp⟩⟩
  by_cases hbe : b = e
  · subst hbe; exact heo
  · exact ⟨u, k b u hbe q⟩
end

noncomputable def trk (h : Heap) (H : Hp) : List Addr := (List.range h.objs.size).filter fun a => (H a).isSome
noncomputable def hidT (h : Heap) (H : Hp) : Heap := PySem.W.hideAll h (trk h H)
theorem hidT_size (h : Heap) (H : Hp) : (hidT h H).objs.size = h.objs.size := PySem.W.hideAll_size _ _
theorem hidT_get {h : Heap} {H : Hp} {b : Addr} {o : Obj} (e : h.get? b = some o) (n : H b = none) : (hidT h H).get? b = some o :=
  PySem.W.hideAll_get _ e fun hm => by
    have q : (H b).isSome = true := (List.mem_filter.mp hm).2
    rw [n] at q; simp at q
theorem of_hidT {h : Heap} {H : Hp} {b : Addr} {o : Obj} (e : (hidT h H).get? b = some o) : h.get? b = some o ∧ H b = none := by
  have e' : h.get? b = some o := PySem.W.of_hideAll (trk h H) e
  refine ⟨e', ?_⟩
  cases q : H b with
  | none => rfl
  | some x =>
    have hm : b ∈ trk h H := List.mem_filter.mpr ⟨List.mem_range.mpr (Heap.lt_size e'), by simp [q]⟩
    have z : (hidT h H).get? b = none := PySem.W.hideAll_none (trk h H) hm
    rw [z] at e; cases e

noncomputable def allNews (g h : Heap) (L : Addr) : List (Addr × Obj) := (List.range h.objs.size).filterMap fun a => if a = L ∨ (g.get? a).isSome = true then none else (h.get? a).map fun o => (a, o)
noncomputable def rest (g h : Heap) (L d : Addr) : List (Addr × Obj) := (allNews g h L).filter fun p => decide (p.1 ≠ d)
end L2

namespace L2
open PySem PySem.Spec PyProof.Rows

structure Mod (K : PySem.W.Frag) (mg : Str → Option Value) (base : Heap) : Prop where
  kin : K.In base
  glob : base.Ns mainGlobals mg
  blt : ∃ mb, base.Ns builtinsNs mb ∧ ∀ x : Str, x ≠ "__name__" → mb x = bootBuiltins x
  nolimit : base.NoLimit

/-- the context: a def's body (or a comprehension's block) running. base: fixed through the whole law; s₀, H₀: the entry; outer: the frames whose slots others may change (a def's callers); stack: all frames that run;
   ex: iterators that were made ahead of the entry and are walked here (a comprehension's); fn: the names whose cells were made at the entry (a def: all; a comprehension's block: its own); calm: not within an except suite; pn: pins that every state bears; xe: what is wanted of an exception that leaves the code -/
structure Cx where
  prog : Program
  w : World
  K : PySem.W.Frag
  mg : Str → Option Value
  base : Heap
  A : Around
  N : List Str
  s₀ : Shared
  H₀ : Hp
  env : Env
  outer : List Env
  stack : List Env
  ex : List Addr
  fn : Str → Bool
  calm : Bool
  pn : List (Addr × Obj)
  xe : Value → Shared → Prop
noncomputable def frs (l : List Env) : List Addr := l.filterMap (·.frame)
noncomputable abbrev Cx.fs (X : Cx) : List Addr := frs X.outer

noncomputable def Vis (sc : Scope) (x : Str) : Prop := sc.names.lookup x = some .local ∨ sc.names.lookup x = some .cell ∨ sc.names.lookup x = some .free
noncomputable def Loc (sc : Scope) (x : Str) : Prop := sc.names.lookup x = some .local ∨ sc.names.lookup x = some .cell
noncomputable def Look (env : Env) (h : Heap) (m : Str → Option Value) (x : Str) (u : Value) : Prop :=
  (env.kindOf x = some .local ∧ m x = some u) ∨ ((env.kindOf x = some .cell ∨ env.kindOf x = some .free) ∧ ∃ c, env.cells.lookup x = some c ∧ h.IsCell c (some u))

structure Cx.Ok (X : Cx) : Prop where
  mod : Mod X.K X.mg X.base
  kind : X.env.scope.kind = .function
  glob : X.env.globals = mainGlobals
  blt : X.env.builtins = builtinsNs
  above : X.s₀.heap.objs.size ≤ X.env.locals
  inj : ∀ x y c, X.env.cells.lookup x = some c → X.env.cells.lookup y = some c → x = y
  has : ∀ x, (X.env.kindOf x = some .cell ∨ X.env.kindOf x = some .free) → ∃ c, X.env.cells.lookup x = some c
  cab : ∀ x c, X.fn x = true → X.env.cells.lookup x = some c → X.s₀.heap.objs.size ≤ c
  hd : X.calm = true → X.A.handled = none
  frames : X.A.frames = some X.stack
  stk : X.stack = X.outer ∨ (X.stack = X.env :: X.outer ∧ X.env.frame = some X.env.locals)
  exf : ∀ b ∈ X.ex, b ≠ X.env.locals ∧ ∀ x c, X.env.cells.lookup x = some c → c ≠ b
  bs : ∀ b o, X.base.get? b = some o → X.s₀.heap.get? b = some o ∧ X.H₀ b = none
  bsz : X.base.objs.size ≤ X.s₀.heap.objs.size
  noex : ∀ b o, X.base.get? b = some o → b ∉ X.ex
  exfs : ∀ b ∈ X.ex, b ∉ X.fs
  funs : X.s₀.heap.FunFrames X.base X.outer
  frf : ∀ b ∈ X.fs, X.H₀ b = none

structure Inv (X : Cx) (pins : List (Addr × Obj)) (σ : List (Option V)) (H : Hp) (s : Shared) : Prop where
  ok : X.Ok
  os : s.os = X.s₀.os
  bare : AllBare s.gens
  base : Un X.fs X.ex X.H₀ H X.s₀.heap s.heap
  loc : ∃ m, s.heap.Ns X.env.locals m ∧ ∀ (i : Nat) (x : Str) (v : V), X.N[i]? = some x → σ[i]? = some (some v) → Vis X.env.scope x → ∃ u, RelV v u ∧ Look X.env s.heap m x u
  cell : ∀ x c, X.env.cells.lookup x = some c → ∃ v, s.heap.IsCell c v
  free : H X.env.locals = none
  freeC : ∀ x c, X.env.cells.lookup x = some c → H c = none
  pin : ∀ p ∈ X.pn ++ pins, s.heap.get? p.1 = some p.2 ∧ H p.1 = none ∧ p.1 ≠ X.env.locals ∧ p.1 ∉ X.fs ∧ ∀ v, p.2.data ≠ .cell v
  hok : HOk X.prog X.w H s.heap
  len : σ.length = X.N.length

section
variable {X : Cx} {pins : List (Addr × Obj)} {σ : List (Option V)} {H H' : Hp} {s : Shared} {h' : Heap}

theorem Cx.Ok.nofr (ok : X.Ok) {b : Addr} {o : Obj} (e : X.base.get? b = some o) : b ∉ X.fs := fun hb => by
  have := (ok.funs.mem hb).1
  rw [e] at this; cases this
theorem Inv.bs (I : Inv X pins σ H s) : ∀ b o, X.base.get? b = some o → s.heap.get? b = some o ∧ H b = none := fun b o e =>
  ⟨I.base.keep b o (I.ok.bs b o e).1 (I.ok.bs b o e).2 (I.ok.nofr e) (I.ok.noex b o e), I.base.free b o (I.ok.bs b o e).1 (I.ok.bs b o e).2 (I.ok.noex b o e)⟩
theorem Inv.bk (I : Inv X pins σ H s) : ∀ b o, X.base.get? b = some o → s.heap.get? b = some o := fun b o e => (I.bs b o e).1
theorem Inv.mod (I : Inv X pins σ H s) : Mod X.K X.mg X.base := I.ok.mod
theorem Inv.kIn (I : Inv X pins σ H s) : X.K.In s.heap := I.ok.mod.kin.keeps I.bk
theorem Inv.lt (I : Inv X pins σ H s) : X.env.locals < s.heap.objs.size := let ⟨_, hn, _⟩ := I.loc; hn.lt
theorem Inv.sz (I : Inv X pins σ H s) : X.s₀.heap.objs.size ≤ s.heap.objs.size := Nat.le_trans I.ok.above (Nat.le_of_lt I.lt)
theorem Inv.nofs (I : Inv X pins σ H s) {a : Addr} (h : s.heap.objs.size ≤ a) : a ∉ X.fs := fun hb => by
  obtain ⟨_, o, ho, _⟩ := I.ok.funs.mem hb
  exact absurd (Nat.lt_of_lt_of_le (Heap.lt_size ho) (Nat.le_trans I.sz h)) (Nat.lt_irrefl _)
theorem Inv.cne (I : Inv X pins σ H s) : ∀ x c, X.env.cells.lookup x = some c → c ≠ X.env.locals := fun x c e z => by
  obtain ⟨v, o, ho, hd⟩ := I.cell x c e
  obtain ⟨m, ⟨o', es, ep, ho', hd', _⟩, _⟩ := I.loc
  rw [z, ho'] at ho; cases ho; rw [hd'] at hd; cases hd
theorem Inv.funs (I : Inv X pins σ H s) : s.heap.FunFrames X.base X.outer := by
  have all : ∀ (l : List Env), (∀ b ∈ frs l, b ∈ X.fs) → X.s₀.heap.FunFrames X.base l → s.heap.FunFrames X.base l := by
    intro l
    induction l with
    | nil => intro _ _; trivial
    | cons env r ih =>
      intro hs hl
      obtain ⟨hk, ⟨L, o, hf, hn, ho, hd⟩, hr⟩ := hl
      have hL : L ∈ X.fs := hs L (by unfold frs; rw [List.filterMap_cons, hf]; exact List.mem_cons_self)
      obtain ⟨sl, e⟩ := I.base.slot L o ho (I.ok.frf L hL) hL fun z => I.ok.exfs L z hL
      exact ⟨hk, ⟨L, _, hf, hn, e, hd⟩, ih (fun b hb => hs b (by unfold frs; rw [List.filterMap_cons, hf]; exact List.mem_cons_of_mem _ hb)) hr⟩
  exact all X.outer (fun _ hb => hb) I.ok.funs

theorem Inv.stack (I : Inv X pins σ H s) : s.heap.FunFrames X.base X.stack := by
  rcases I.ok.stk with e | ⟨e, hf⟩
  · rw [e]; exact I.funs
  · rw [e]
    obtain ⟨m, hn, _⟩ := I.loc
    refine .cons (by rw [I.ok.kind]; decide) hf hn ?_ I.funs
    exact Heap.get?_none_of_le (Nat.le_trans I.ok.bsz I.ok.above)
theorem Inv.stkSub (I : Inv X pins σ H s) : ∀ b ∈ frs X.stack, b ∈ X.env.locals :: X.fs := fun b hb => by
  rcases I.ok.stk with e | ⟨e, hf⟩
  · rw [e] at hb; exact List.mem_cons_of_mem _ hb
  · rw [e] at hb
    unfold frs at hb
    rw [List.filterMap_cons, hf] at hb
    exact hb
theorem Inv.stkFree (I : Inv X pins σ H s) : ∀ b ∈ frs X.stack, H b = none := fun b hb => by
  rcases List.mem_cons.mp (I.stkSub b hb) with e | hb
  · rw [e]; exact I.free
  · obtain ⟨_, o, ho, _⟩ := I.ok.funs.mem hb
    exact I.base.free b o ho (I.ok.frf b hb) fun z => I.ok.exfs b z hb

theorem Inv.step {g' : Array GenState} {t' : Nat} {d' : Drawn} {ch : List Addr} (I : Inv X pins σ H s)
    (hch : ∀ b ∈ ch, (b ∈ X.ex ∨ X.s₀.heap.objs.size ≤ b) ∧ b ≠ X.env.locals ∧ (∀ x c, X.env.cells.lookup x = some c → c ≠ b) ∧ ∀ p ∈ X.pn ++ pins, p.1 ≠ b)
    (keep : ∀ b o, b ≠ X.env.locals → b ∉ X.fs → b ∉ ch → s.heap.get? b = some o → H b = none → h'.get? b = some o)
    (slot : ∀ b o, b ≠ X.env.locals → b ∈ X.fs → b ∉ ch → s.heap.get? b = some o → H b = none → ∃ sl, h'.get? b = some { o with slots := sl }) (free : ∀ b o, b ∉ ch → s.heap.get? b = some o → H b = none → H' b = none)
    (there : ∀ b o, b ∉ ch → s.heap.get? b = some o → ∃ o', h'.get? b = some o')
    (tups : ∀ b xs, H b = some (.tup xs) → H' b = some (.tup xs)) (frzs : ∀ b o u, H b = some (.frz o u) → H' b = some (.frz o u)) (tbls : ∀ b ps, H b = some (.tbl ps) → ∃ more, H' b = some (.tbl (ps ++ more)))
    (ns : ∀ m, s.heap.Ns X.env.locals m → h'.Ns X.env.locals m) (hok : HOk X.prog X.w H' h') (hg : AllBare g') :
    Inv X pins σ H' { s with heap := h', gens := g', drawn := d', toks := t' } := by
  have neL : ∀ b o, X.s₀.heap.get? b = some o → b ≠ X.env.locals := fun b o e => Nat.ne_of_lt (Nat.lt_of_lt_of_le (Heap.lt_size e) I.ok.above)
  have neC : ∀ b o, X.s₀.heap.get? b = some o → b ∉ X.ex → b ∉ ch := fun b o e hx hb => by
    rcases (hch b hb).1 with z | z
    · exact hx z
    · exact absurd (Nat.lt_of_lt_of_le (Heap.lt_size e) z) (Nat.lt_irrefl _)
  have cellK : ∀ x c, X.env.cells.lookup x = some c → ∀ v, s.heap.IsCell c v → h'.IsCell c v := fun x c e v ⟨o, ho, hd⟩ => by
    have nch : c ∉ ch := fun z => (hch c z).2.2.1 x c e rfl
    by_cases hc : c ∈ X.fs
    · obtain ⟨sl, q⟩ := slot c o (I.cne x c e) hc nch ho (I.freeC x c e)
      exact ⟨_, q, hd⟩
    · exact ⟨o, keep c o (I.cne x c e) hc nch ho (I.freeC x c e), hd⟩
  refine ⟨I.ok, I.os, hg, ⟨fun b o e n hb hx => ?_, fun b o e n hb hx => ?_, fun b o e n hx => ?_, fun b o e hx => ?_, fun b xs e => tups b xs (I.base.tups b xs e), fun b o xs e => frzs b o xs (I.base.frzs b o xs e), fun b ps e => ?_⟩, ?_, fun x c e => ?_, ?_, fun x c e => ?_, fun p hp => ?_, hok, I.len⟩
  · exact keep b o (neL b o e) hb (neC b o e hx) (I.base.keep b o e n hb hx) (I.base.free b o e n hx)
  · obtain ⟨sl, e1⟩ := I.base.slot b o e n hb hx
    obtain ⟨sl', e2⟩ := slot b _ (neL b o e) hb (neC b o e hx) e1 (I.base.free b o e n hx)
    exact ⟨sl', e2⟩
  · obtain ⟨o', e1⟩ := I.base.there b o e hx
    exact free b o' (neC b o e hx) e1 (I.base.free b o e n hx)
  · obtain ⟨o', e1⟩ := I.base.there b o e hx
    exact there b o' (neC b o e hx) e1
  · obtain ⟨m1, e1⟩ := I.base.tbls b ps e
    obtain ⟨m2, e2⟩ := tbls b _ e1
    exact ⟨m1 ++ m2, by rw [e2, Array.append_assoc]⟩
  · obtain ⟨m, hn, hl⟩ := I.loc
    refine ⟨m, ns m hn, fun i x v e1 e2 e3 => ?_⟩
    obtain ⟨u, r, l⟩ := hl i x v e1 e2 e3
    refine ⟨u, r, ?_⟩
    rcases l with l | ⟨k, c, e, z⟩
    · exact .inl l
    · exact .inr ⟨k, c, e, cellK x c e _ z⟩
  · obtain ⟨v, z⟩ := I.cell x c e
    exact ⟨v, cellK x c e v z⟩
  · obtain ⟨m, ⟨o, _, _, ho, _⟩, _⟩ := I.loc
    exact free _ o (fun z => (hch _ z).2.1 rfl) ho I.free
  · obtain ⟨v, o, ho, hd⟩ := I.cell x c e
    exact free c o (fun z => (hch c z).2.2.1 x c e rfl) ho (I.freeC x c e)
  · obtain ⟨e, n, ne, nf, d⟩ := I.pin p hp
    have nch : p.1 ∉ ch := fun z => (hch p.1 z).2.2.2 p hp rfl
    exact ⟨keep p.1 p.2 ne nf nch e n, free p.1 p.2 nch e n, ne, nf, d⟩
theorem Inv.un {t' : Nat} (I : Inv X pins σ H s) (u : Un X.fs [] H H' s.heap h') (hok : HOk X.prog X.w H' h') : Inv X pins σ H' { s with heap := h', toks := t' } := by
  obtain ⟨m, ⟨o, es, ep, ho, r⟩, _⟩ := id I.loc
  obtain ⟨sl, hL⟩ := u.any ho I.free (by simp)
  exact I.step (g' := s.gens) (d' := s.drawn) (ch := []) (fun _ z => nomatch z) (fun b o _ hb _ e n => u.keep b o e n hb (by simp)) (fun b o _ hb _ e n => u.slot b o e n hb (by simp)) (fun b o _ e n => u.free b o e n (by simp)) (fun b o _ e => u.there b o e (by simp)) u.tups u.frzs u.tbls (fun m' hm => by
    obtain ⟨o', es', ep', ho', r'⟩ := hm
    rw [ho] at ho'; cases ho'
    exact ⟨_, es', ep', hL, r'⟩) hok I.bare
theorem Inv.call {g' : Array GenState} {t' : Nat} {d' : Drawn} {ch : List Addr} (I : Inv X pins σ H s) (u : Un (frs X.stack) ch H H' s.heap h') (hok : HOk X.prog X.w H' h') (hg : AllBare g')
    (hch : ∀ b ∈ ch, (b ∈ X.ex ∨ X.s₀.heap.objs.size ≤ b) ∧ b ≠ X.env.locals ∧ (∀ x c, X.env.cells.lookup x = some c → c ≠ b) ∧ ∀ p ∈ X.pn ++ pins, p.1 ≠ b) :
    Inv X pins σ H' { s with heap := h', gens := g', drawn := d', toks := t' } := by
  obtain ⟨m, ⟨o, es, ep, ho, r⟩, _⟩ := id I.loc
  obtain ⟨sl, hL⟩ := u.any ho I.free fun z => (hch _ z).2.1 rfl
  exact I.step (ch := ch) hch (fun b o hL hb hc e n => u.keep b o e n (fun z => (List.mem_cons.mp (I.stkSub b z)).elim hL hb) hc) (fun b o _ _ hc e n => u.any e n hc) (fun b o hc e n => u.free b o e n hc) (fun b o hc e => u.there b o e hc) u.tups u.frzs u.tbls (fun m' hm => by
    obtain ⟨o', es', ep', ho', r'⟩ := hm
    rw [ho] at ho'; cases ho'
    exact ⟨_, es', ep', hL, r'⟩) hok hg
theorem Inv.turned {t' : Nat} {it : Addr} (I : Inv X pins σ H s) (k : ∀ b o, b ≠ it → s.heap.get? b = some o → h'.get? b = some o) (hn : H it = none) (hL : it ≠ X.env.locals)
    (h1 : it ∈ X.ex ∨ X.s₀.heap.objs.size ≤ it) (h2 : ∀ x c, X.env.cells.lookup x = some c → c ≠ it) (h3 : ∀ p ∈ X.pn ++ pins, p.1 ≠ it) : Inv X pins σ H { s with heap := h', toks := t' } := by
  have nit : ∀ b u, H b = some u → b ≠ it := fun b u e z => by rw [z, hn] at e; cases e
  refine I.step (g' := s.gens) (d' := s.drawn) (ch := [it]) (fun b hb => ?_) (fun b o _ _ hc e _ => k b o (fun z => hc (by simp [z])) e) (fun b o _ _ hc e _ => ⟨o.slots, k b o (fun z => hc (by simp [z])) e⟩) (fun _ _ _ _ n => n)
    (fun b o hc e => ⟨o, k b o (fun z => hc (by simp [z])) e⟩) (fun _ _ e => e) (fun _ _ _ e => e) (fun b ps e => ⟨#[], by rw [e]; simp⟩) (fun m hm => ?_) (fun b u e => ?_) I.bare
  · have e : b = it := by simpa using hb
    subst e
    exact ⟨h1, hL, h2, h3⟩
  · obtain ⟨o, es, ep, ho, r⟩ := hm
    exact ⟨o, es, ep, k _ o (Ne.symm hL) ho, r⟩
  · refine (I.hok b u e).stay (fun c v hc q => k c v ?_ q) (fun _ q => q) fun _ _ q => q
    rcases hc with z | z
    · rw [z]; exact nit b u e
    · exact nit c _ z
theorem Inv.tok (I : Inv X pins σ H s) (t : Nat) : Inv X pins σ H { s with toks := t } := I.un (h' := s.heap) (t' := t) Un.refl I.hok
theorem Inv.kept {t' : Nat} (I : Inv X pins σ H s) (k : ∀ b u, s.heap.get? b = some u → h'.get? b = some u) : Inv X pins σ H { s with heap := h', toks := t' } := I.un (Un.kept k) (I.hok.kept k)
theorem Inv.laid {a : Addr} {o : HO} {t' : Nat} (I : Inv X pins σ H s) (k : ∀ b u, s.heap.get? b = some u → h'.get? b = some u) (hp : s.heap.objs.size ≤ a) (new : ObjOk X.prog X.w (upd H a o) h' a o) :
    Inv X pins σ (upd H a o) { s with heap := h', toks := t' } := I.un (Un.laid k hp (I.hok.fresh hp)) (I.hok.laid k hp new)
theorem Inv.write {x e : Addr} {o : HO} {t' : Nat} (I : Inv X pins σ H s) (mu : Mut (H x)) (he : e = x ∨ H e = some (.own x)) (k : ∀ b u, b ≠ e → s.heap.get? b = some u → h'.get? b = some u) (heo : ∃ u, h'.get? e = some u)
    (new : ObjOk X.prog X.w (upd H x o) h' x o) : Inv X pins σ (upd H x o) { s with heap := h', toks := t' } := I.un (Un.write mu he k heo) (I.hok.write mu he k heo new)
theorem Inv.pins_of {pins' : List (Addr × Obj)} (I : Inv X pins σ H s) (h : ∀ p ∈ pins', s.heap.get? p.1 = some p.2 ∧ H p.1 = none ∧ p.1 ≠ X.env.locals ∧ p.1 ∉ X.fs ∧ ∀ v, p.2.data ≠ .cell v) : Inv X pins' σ H s :=
  ⟨I.ok, I.os, I.bare, I.base, I.loc, I.cell, I.free, I.freeC, fun p hp => (List.mem_append.mp hp).elim (fun z => I.pin p (List.mem_append_left _ z)) (h p), I.hok, I.len⟩

theorem nodup_ix {N : List Str} (hN : N.Nodup) {i j : Nat} {x : Str} (a : N[i]? = some x) (b : N[j]? = some x) : i = j := by
  obtain ⟨h1, e1⟩ := List.getElem?_eq_some_iff.mp a
  obtain ⟨h2, e2⟩ := List.getElem?_eq_some_iff.mp b
  exact (List.getElem_inj hN).mp (e1.trans e2.symm)

theorem store_ok2 {M : Model} {A : Around} {E : Value → Shared → Prop} {i : Nat} {x : Str} {v : V} {u : Value} {Q : Unit → Shared → Prop} (I : Inv X pins σ H s) (hN : X.N.Nodup) (hi : X.N[i]? = some x) (hx : Loc X.env.scope x) (r : RelV v u)
    (h : ∀ s', Inv X pins (σ.set i (some v)) H s' → (∃ a, Heap.SameBut a s.heap s'.heap ∧ (a = X.env.locals ∨ X.env.cells.lookup x = some a)) → Q () s') (hf : X.fn x = true ∨ X.env.scope.names.lookup x = some .local := by first | exact .inl rfl | exact .inr rfl | assumption) : wpAny M A (storeName X.env x u) Q E s := by
  obtain ⟨m, hn, hl⟩ := id I.loc
  have hcls : (X.env.scope.kind == .class || (X.env.scope.kind == .module && X.env.locals != X.env.globals)) = false := by rw [I.ok.kind]; rfl
  have hiσ : i < σ.length := by rw [I.len]; exact (List.getElem?_eq_some_iff.mp hi).1
  have cne := I.cne
  have tracked : ∀ {a : Addr} {h' : Heap}, (∃ o, s.heap.get? a = some o ∧ H a = none) → Heap.SameBut a s.heap h' → HOk X.prog X.w H h' := fun {a h'} ha hs b ob e => by
    obtain ⟨_, _, hfree⟩ := ha
    refine (I.hok b ob e).stay (fun c w' hc q => (hs.2 c ?_).trans q) (fun _ q => q) fun _ _ q => q
    rintro rfl
    rcases hc with rfl | hc
    · rw [hfree] at e; cases e
    · rw [hfree] at hc; cases hc
  rcases hx with hk | hk
  · refine wpAny_storeName_local hk hn (fun h' hn' hs => ?_) hcls
    obtain ⟨oL, _, _, hoL, _⟩ := id hn
    refine h _ ⟨I.ok, I.os, I.bare, ⟨fun b o e n hb hx => ?_, fun b o e n hb hx => ?_, I.base.free, fun b o e hx => ?_, I.base.tups, I.base.frzs, I.base.tbls⟩, ⟨_, hn', fun j y v' e1 e2 e3 => ?_⟩, fun y c e => ?_, I.free, I.freeC, fun p hp => ?_, tracked ⟨oL, hoL, I.free⟩ hs, by simpa using I.len⟩ ⟨_, hs, .inl rfl⟩
    · exact (hs.2 b (Nat.ne_of_lt (Nat.lt_of_lt_of_le (Heap.lt_size e) I.ok.above))).trans (I.base.keep b o e n hb hx)
    · obtain ⟨sl, e1⟩ := I.base.slot b o e n hb hx
      exact ⟨sl, (hs.2 b (Nat.ne_of_lt (Nat.lt_of_lt_of_le (Heap.lt_size e) I.ok.above))).trans e1⟩
    · obtain ⟨o', e1⟩ := I.base.there b o e hx
      exact ⟨o', (hs.2 b (Nat.ne_of_lt (Nat.lt_of_lt_of_le (Heap.lt_size e) I.ok.above))).trans e1⟩
    · by_cases hj : j = i
      · subst hj
        rw [hi] at e1; cases e1
        rw [List.getElem?_set_self hiσ] at e2
        cases e2
        exact ⟨u, r, .inl ⟨hk, by simp⟩⟩
      · rw [List.getElem?_set_ne (Ne.symm hj)] at e2
        obtain ⟨u', r', q⟩ := hl j y v' e1 e2 e3
        refine ⟨u', r', ?_⟩
        rcases q with ⟨k, e⟩ | ⟨k, c, e, z⟩
        · refine .inl ⟨k, ?_⟩
          have : y ≠ x := fun e => hj (nodup_ix hN e1 (e ▸ hi))
          simp [this, e]
        · exact .inr ⟨k, c, e, z.sameBut hs (cne y c e)⟩
    · obtain ⟨w', z⟩ := I.cell y c e
      exact ⟨w', z.sameBut hs (cne y c e)⟩
    · obtain ⟨e, n, ne, nf, d⟩ := I.pin p hp
      exact ⟨(hs.2 p.1 ne).trans e, n, ne, nf, d⟩
  · have hfn : X.fn x = true := by
      rcases hf with z | z
      · exact z
      · rw [z] at hk; cases hk
    obtain ⟨c, hc⟩ := I.ok.has x (.inl hk)
    obtain ⟨w', z⟩ := I.cell x c hc
    refine wpAny_storeName_cell I.ok.kind hk hc z (fun h' hc' hs => ?_)
    obtain ⟨oc, hoc, hocd⟩ := id z
    refine h { s with heap := h' } ⟨I.ok, I.os, I.bare, ⟨fun b o e n hb hx => ?_, fun b o e n hb hx => ?_, I.base.free, fun b o e hx => ?_, I.base.tups, I.base.frzs, I.base.tbls⟩, ⟨m, hn.sameBut hs (Ne.symm (cne x c hc)), fun j y v' e1 e2 e3 => ?_⟩, fun y c' e => ?_, I.free, I.freeC, fun p hp => ?_, tracked ⟨oc, hoc, I.freeC x c hc⟩ hs, by simpa using I.len⟩ ⟨c, hs, .inr hc⟩
    · exact (hs.2 b (Nat.ne_of_lt (Nat.lt_of_lt_of_le (Heap.lt_size e) (I.ok.cab x c hfn hc)))).trans (I.base.keep b o e n hb hx)
    · obtain ⟨sl, e1⟩ := I.base.slot b o e n hb hx
      exact ⟨sl, (hs.2 b (Nat.ne_of_lt (Nat.lt_of_lt_of_le (Heap.lt_size e) (I.ok.cab x c hfn hc)))).trans e1⟩
    · obtain ⟨o', e1⟩ := I.base.there b o e hx
      exact ⟨o', (hs.2 b (Nat.ne_of_lt (Nat.lt_of_lt_of_le (Heap.lt_size e) (I.ok.cab x c hfn hc)))).trans e1⟩
    · by_cases hj : j = i
      · subst hj
        rw [hi] at e1; cases e1
        rw [List.getElem?_set_self hiσ] at e2
        cases e2
        exact ⟨u, r, .inr ⟨.inl hk, c, hc, hc'⟩⟩
      · rw [List.getElem?_set_ne (Ne.symm hj)] at e2
        obtain ⟨u', r', q⟩ := hl j y v' e1 e2 e3
        refine ⟨u', r', ?_⟩
        rcases q with q | ⟨k, c', e, z'⟩
        · exact .inl q
        · refine .inr ⟨k, c', e, z'.sameBut hs ?_⟩
          rintro rfl
          exact hj (nodup_ix hN e1 (I.ok.inj _ _ _ e hc ▸ hi))
    · by_cases hcc : c' = c
      · subst hcc; exact ⟨_, hc'⟩
      · obtain ⟨w2, z2⟩ := I.cell y c' e
        exact ⟨w2, z2.sameBut hs hcc⟩
    · obtain ⟨e, n, ne, nf, d⟩ := I.pin p hp
      refine ⟨(hs.2 p.1 ?_).trans e, n, ne, nf, d⟩
      intro q
      rw [q, hoc] at e
      have q' : oc = p.2 := Option.some.inj e
      exact d w' (by rw [← q']; exact hocd)
theorem store_ok {M : Model} {A : Around} {E : Value → Shared → Prop} {i : Nat} {x : Str} {v : V} {u : Value} {Q : Unit → Shared → Prop} (I : Inv X pins σ H s) (hN : X.N.Nodup) (hi : X.N[i]? = some x) (hx : Loc X.env.scope x) (r : RelV v u)
    (h : ∀ s', Inv X pins (σ.set i (some v)) H s' → Q () s') (hf : X.fn x = true ∨ X.env.scope.names.lookup x = some .local := by first | exact .inl rfl | exact .inr rfl | assumption) : wpAny M A (storeName X.env x u) Q E s :=
  store_ok2 I hN hi hx r (fun s' I' _ => h s' I') hf
theorem Inv.call' {s' : Shared} {ch : List Addr} (I : Inv X pins σ H s) (ho : s'.os = s.os) (u : Un (frs X.stack) ch H H' s.heap s'.heap) (hok : HOk X.prog X.w H' s'.heap) (hg : AllBare s'.gens)
    (hch : ∀ b ∈ ch, (b ∈ X.ex ∨ X.s₀.heap.objs.size ≤ b) ∧ b ≠ X.env.locals ∧ (∀ x c, X.env.cells.lookup x = some c → c ≠ b) ∧ ∀ p ∈ X.pn ++ pins, p.1 ≠ b) : Inv X pins σ H' s' := by
  obtain ⟨h', g', d', t', o'⟩ := s'
  have e : o' = s.os := ho
  subst e
  exact I.call (g' := g') (t' := t') (d' := d') u hok hg hch
end

noncomputable abbrev XK := Value → Option Addr → Hp → Prop
noncomputable abbrev St := List (Option V)
noncomputable abbrev VK := V → Hp → Prop
noncomputable abbrev TE := St → Hp → VK → Prop
noncomputable abbrev TT := St → Hp → (Bool → Hp → Prop) → Prop
noncomputable abbrev TA := St → Hp → (List V → Hp → Prop) → Prop
structure Ends where
  nx : St → Hp → Prop
  rt : VK
  bk : St → Hp → Prop := fun _ _ => False
  ct : St → Hp → Prop := fun _ _ => False
noncomputable abbrev TS := Ends → St → Hp → Prop

noncomputable def EP (X : Cx) (pins : List (Addr × Obj)) (σ : St) (Q : VK) (u : Value) (s' : Shared) : Prop := ∃ v H', Inv X pins σ H' s' ∧ RelV v u ∧ Q v H'
noncomputable def TP (X : Cx) (pins : List (Addr × Obj)) (σ : St) (Q : Bool → Hp → Prop) (b : Bool) (s' : Shared) : Prop := ∃ H', Inv X pins σ H' s' ∧ Q b H'
noncomputable def AP (X : Cx) (pins : List (Addr × Obj)) (σ : St) (Q : List V → Hp → Prop) (us : List Value) (s' : Shared) : Prop := ∃ vs H', Inv X pins σ H' s' ∧ Vals vs us ∧ Q vs H'
noncomputable def SP (X : Cx) (pins : List (Addr × Obj)) (D : Ends) (f : Flow) (s' : Shared) : Prop :=
  match f with
  | .next => ∃ σ' H', Inv X pins σ' H' s' ∧ D.nx σ' H'
  | .brk => ∃ σ' H', Inv X pins σ' H' s' ∧ D.bk σ' H'
  | .cont => ∃ σ' H', Inv X pins σ' H' s' ∧ D.ct σ' H'
  | .ret u => ∃ v σ' H', Inv X pins σ' H' s' ∧ RelV v u ∧ D.rt v H'

noncomputable def PE (X : Cx) (e : Expr) (t : TE) : Prop :=
  ∀ (pins : List (Addr × Obj)) (s : Shared) (σ : St) (H : Hp) (Q : VK), Inv X pins σ H s → t σ H Q → wpAny (model X.prog X.w) X.A (eval e X.env) (EP X pins σ Q) X.xe s
noncomputable def PT (X : Cx) (e : Expr) (t : TT) : Prop :=
  ∀ (pins : List (Addr × Obj)) (s : Shared) (σ : St) (H : Hp) (Q : Bool → Hp → Prop), Inv X pins σ H s → t σ H Q → wpAny (model X.prog X.w) X.A (isTrue e X.env (eval e X.env)) (TP X pins σ Q) X.xe s
noncomputable def PW (X : Cx) (e : Expr) (t : TT) : Prop :=
  ∀ (whole : Sem Value) (pins : List (Addr × Obj)) (s : Shared) (σ : St) (H : Hp) (Q : Bool → Hp → Prop), Inv X pins σ H s → t σ H Q → wpAny (model X.prog X.w) X.A (isTrue e X.env whole) (TP X pins σ Q) X.xe s
theorem PW.pt {X : Cx} {e : Expr} {t : TT} (h : PW X e t) : PT X e t := h _
noncomputable def PA (X : Cx) (es : List Expr) (t : TA) : Prop :=
  ∀ (pos : Pos) (pins : List (Addr × Obj)) (s : Shared) (σ : St) (H : Hp) (Q : List V → Hp → Prop), Inv X pins σ H s → t σ H Q → wpAny (model X.prog X.w) X.A (spliced (backTo pos (starEach es X.env))) (AP X pins σ Q) X.xe s
noncomputable def PS (X : Cx) (st : Stmt) (t : TS) : Prop :=
  ∀ (pins : List (Addr × Obj)) (s : Shared) (σ : St) (H : Hp) (D : Ends), Inv X pins σ H s → t D σ H → wpAny (model X.prog X.w) X.A (exec st X.env) (SP X pins D) X.xe s
noncomputable def PSs (X : Cx) (st : List Stmt) (t : TS) : Prop :=
  ∀ (pins : List (Addr × Obj)) (s : Shared) (σ : St) (H : Hp) (D : Ends), Inv X pins σ H s → t D σ H → wpAny (model X.prog X.w) X.A (execs st X.env) (SP X pins D) X.xe s
theorem thn {α : Type} {t : Sem α} {Q Q' : α → Shared → Prop} {M : Model} {A : Around} {E : Value → Shared → Prop} {s : Shared} (h : wpAny M A t Q E s) (hQ : ∀ a s, Q a s → Q' a s) : wpAny M A t Q' E s := wpAny_mono h hQ fun _ _ x => x
end L2

namespace L2
open PySem PySem.Spec PyProof.Rows
section
variable {X : Cx}

theorem bin {a b : Expr} {ta tb : TE} (ha : PE X a ta) (hb : PE X b tb) {pins : List (Addr × Obj)} {s : Shared} {σ : St} {H : Hp} {R : V → V → Hp → Prop} (I : Inv X pins σ H s) (h : ta σ H fun x H1 => tb σ H1 fun y H2 => R x y H2)
    {α : Type} {Q : α → Shared → Prop} {f : Value → Value → Sem α}
    (hf : ∀ v u s2 x y H2, Inv X pins σ H2 s2 → RelV x v → RelV y u → R x y H2 → wpAny (model X.prog X.w) X.A (f v u) Q X.xe s2) :
    wpAny (model X.prog X.w) X.A (eval a X.env) (fun v s₁ => wpAny (model X.prog X.w) X.A (eval b X.env) (fun u s₂ => wpAny (model X.prog X.w) X.A (f v u) Q X.xe s₂) X.xe s₁) X.xe s := by
  refine thn (ha pins s σ H _ I h) fun v s1 ⟨x, H1, I1, r1, q1⟩ => ?_
  refine thn (hb pins s1 σ H1 _ I1 q1) fun u s2 ⟨y, H2, I2, r2, q2⟩ => ?_
  exact hf v u s2 x y H2 I2 r1 r2 q2

noncomputable def tVar (i : Nat) : TE := fun σ H Q => ∃ v, σ[i]? = some (some v) ∧ Q v H
noncomputable def tC (v : V) : TE := fun _ H Q => Q v H
theorem pe_var {i : Nat} {x : Str} {pos : Pos} (hN : X.N[i]? = some x) (hv : Vis X.env.scope x) (hd : (x == ("__debug__" : Str)) = false := by decide) (hcd : (x == ("__classdict__" : Str)) = false := by decide) : PE X (.Name x pos) (tVar i) := by
  intro pins s σ H Q I h
  obtain ⟨v, e, h⟩ := h
  obtain ⟨m, hn, hl⟩ := I.loc
  obtain ⟨u, r, l⟩ := hl i x v hN e hv
  have fin : EP X pins σ Q u s := ⟨v, H, I, r, h⟩
  rcases l with ⟨hk, hm⟩ | ⟨hk, c, hc, hcell⟩
  · exact wpAny_Name (wpAny_loadName_local I.ok.kind hk hn hm fin) hd
  · rcases hk with hk | hk
    · exact wpAny_Name (wpAny_loadName_cell I.ok.kind hk hc hcell fin) hd
    · exact wpAny_Name (wpAny_loadName_free I.ok.kind hk hc hcell fin hcd) hd
theorem pe_int {i j pos} : PE X (.Constant (.int i) j pos) (tC (.int i)) := fun _ _ _ H _ I h => wpAny_Constant_int ⟨.int i, H, I.tok _, ⟨_, rfl⟩, h⟩
theorem pe_bl {b j pos} : PE X (.Constant (.bool b) j pos) (tC (.bl b)) := fun _ _ _ H _ I h => Constant_bool ⟨.bl b, H, I, rfl, h⟩
theorem pe_non {j pos} : PE X (.Constant .none j pos) (tC .non) := fun _ _ _ H _ I h => Constant_none ⟨.non, H, I, rfl, h⟩
theorem pe_str {x j pos} : PE X (.Constant (.str x) j pos) (tC (.str x)) := fun _ _ _ H _ I h => Calls.Constant_str ⟨.str x, H, I.tok _, ⟨_, rfl⟩, h⟩

noncomputable def Gl (X : Cx) (x : Str) : Prop := X.env.kindOf x = some .globalImplicit
theorem ld_glob {E : Value → Shared → Prop} {pins : List (Addr × Obj)} {s : Shared} {σ : St} {H : Hp} {x : Str} {u : Value} {pos : Pos} {Q : Value → Shared → Prop} (I : Inv X pins σ H s) (hg : Gl X x) (hm : X.mg x = some u) (h : Q u s)
    (hd : (x == ("__debug__" : Str)) = false := by decide) : wpAny (model X.prog X.w) X.A (eval (.Name x pos) X.env) Q E s :=
  Calls.Name_function_global I.ok.kind hg (Calls.loadGlobal_global (by rw [I.ok.glob]; exact I.mod.glob.keeps I.bk) hm h) hd
theorem ld_blt {E : Value → Shared → Prop} {pins : List (Addr × Obj)} {s : Shared} {σ : St} {H : Hp} {x : Str} {u : Value} {pos : Pos} {Q : Value → Shared → Prop} (I : Inv X pins σ H s) (hg : Gl X x) (hm : X.mg x = none) (hv : bootBuiltins x = some u) (h : Q u s)
    (hn : x ≠ "__name__" := by decide) (hd : (x == ("__debug__" : Str)) = false := by decide) : wpAny (model X.prog X.w) X.A (eval (.Name x pos) X.env) Q E s := by
  obtain ⟨mb, h1, h2⟩ := I.mod.blt
  exact Calls.Name_function_global I.ok.kind hg (Calls.loadGlobal_builtin (by rw [I.ok.glob]; exact I.mod.glob.keeps I.bk) hm (by rw [I.ok.blt]; exact h1.keeps I.bk) ((h2 x hn).trans hv) h) hd
theorem pe_bltn {x : Str} {v : V} {u : Value} {pos : Pos} (hg : Gl X x) (hm : X.mg x = none) (hv : bootBuiltins x = some u) (r : RelV v u) (hn : x ≠ "__name__" := by decide) (hd : (x == ("__debug__" : Str)) = false := by decide) : PE X (.Name x pos) (tC v) :=
  fun _ _ _ H _ I h => ld_blt I hg hm hv ⟨v, H, I, r, h⟩ hn hd

variable {a b : Expr} {ta tb : TE} {pos : Pos}
noncomputable def tB (t : TE) : TT := fun σ H Q => t σ H fun x H1 => ∃ c, x = .bl c ∧ Q c H1
theorem pt_val {e : Expr} {t : TE} (h : PE X e t) (he : ∀ whole, isTrue e X.env whole = (do let v ← whole; standAt e.pos; holding [v] (truthy v)) := by intro _; rfl) : PT X e (tB t) := by
  intro pins s σ H Q I hw
  refine isTrue_plain (thn (h pins s σ H _ I hw) fun v s1 ⟨x, H1, I1, r1, q1⟩ => ?_) (he _)
  obtain ⟨d, rfl, q⟩ := q1
  cases r1
  exact wpAny_truthy_bool ⟨H1, I1, q⟩

variable {tA tB' : TT} {rest : List Expr}
noncomputable def tAnd (t u : TT) : TT := fun σ H Q => t σ H fun c H1 => if c = true then u σ H1 Q else Q false H1
noncomputable def tOr (t u : TT) : TT := fun σ H Q => t σ H fun c H1 => if c = true then Q true H1 else u σ H1 Q
noncomputable def tNot (t : TT) : TT := fun σ H Q => t σ H fun c H1 => Q (!c) H1
theorem pw_and1 (ha : PT X a tA) : PW X (.BoolOp .And [a] pos) tA := by
  intro wh pins s σ H Q I h
  refine isTrue_and (thn (ha pins s σ H Q I h) fun c s1 e => ?_)
  cases c with
  | true => exact isTrue_and_nil e
  | false => exact e
theorem pw_or1 (ha : PT X a tA) : PW X (.BoolOp .Or [a] pos) tA := by
  intro wh pins s σ H Q I h
  refine isTrue_or (thn (ha pins s σ H Q I h) fun c s1 e => ?_)
  cases c with
  | false => exact isTrue_or_nil e
  | true => exact e
theorem pw_and (ha : PT X a tA) (hb : PW X (.BoolOp .And (b :: rest) pos) tB') : PW X (.BoolOp .And (a :: b :: rest) pos) (tAnd tA tB') := by
  intro wh pins s σ H Q I h
  refine isTrue_and (thn (ha pins s σ H _ I h) fun c s1 ⟨H1, I1, q1⟩ => ?_)
  cases c with
  | true => exact hb wh pins s1 σ H1 Q I1 q1
  | false => exact ⟨H1, I1, q1⟩
theorem pw_or (ha : PT X a tA) (hb : PW X (.BoolOp .Or (b :: rest) pos) tB') : PW X (.BoolOp .Or (a :: b :: rest) pos) (tOr tA tB') := by
  intro wh pins s σ H Q I h
  refine isTrue_or (thn (ha pins s σ H _ I h) fun c s1 ⟨H1, I1, q1⟩ => ?_)
  cases c with
  | true => exact ⟨H1, I1, q1⟩
  | false => exact hb wh pins s1 σ H1 Q I1 q1
theorem pt_not (ha : PT X a tA) : PT X (.UnaryOp .Not a pos) (tNot tA) := by
  intro pins s σ H Q I h
  exact isTrue_not (ha pins s σ H (fun c H1 => Q (!c) H1) I h)
noncomputable def tAndV (ta tb : TE) : TE := fun σ H Q => ta σ H fun x H1 => ∃ c, x = .bl c ∧ if c = true then tb σ H1 Q else Q (.bl false) H1
noncomputable def tOrV (ta tb : TE) : TE := fun σ H Q => ta σ H fun x H1 => ∃ c, x = .bl c ∧ if c = true then Q (.bl true) H1 else tb σ H1 Q
noncomputable def tNotV (ta : TE) : TE := fun σ H Q => ta σ H fun x H1 => ∃ c, x = .bl c ∧ Q (.bl (!c)) H1
theorem pe_one {op} {t : TE} (h : PE X a t) : PE X (.BoolOp op [a] pos) t := fun pins s σ H Q I hw => BoolOp_one (h pins s σ H Q I hw)
theorem pe_and (ha : PE X a ta) (hb : PE X (.BoolOp .And (b :: rest) pos) tb) : PE X (.BoolOp .And (a :: b :: rest) pos) (tAndV ta tb) := by
  intro pins s σ H Q I h
  refine BoolOp_and (thn (ha pins s σ H _ I h) fun v s1 ⟨x, H1, I1, r1, q1⟩ => ?_)
  obtain ⟨c, rfl, q1⟩ := q1
  cases r1
  refine wpAny_truthy_bool ?_
  cases c with
  | true => exact hb pins s1 σ H1 Q I1 q1
  | false => exact ⟨.bl false, H1, I1, rfl, q1⟩
noncomputable def tIf (t : TT) (ta tb : TE) : TE := fun σ H Q => t σ H fun c H1 => if c = true then ta σ H1 Q else tb σ H1 Q
end
end L2

namespace L2
open PySem PySem.Spec PyProof.Rows

noncomputable def SqL (K : PySem.W.Frag) (H : Hp) (a : Addr) (xs : List V) : Prop :=
  Rd H a (.lst xs) ∨
    ∃ (o : Obj) (its : Array Value) (n : Nat), K.lookup a = some o ∧ o.cls = .type "list" ∧ o.dict = none ∧ o.data = .seq its n ∧ its.size ≤ sizeLine ∧ Vals xs its.toList
noncomputable def SqT (K : PySem.W.Frag) (H : Hp) (a : Addr) (xs : List V) : Prop :=
  Rd H a (.tup xs) ∨
    ∃ (o : Obj) (its : Array Value) (n : Nat), K.lookup a = some o ∧ o.cls = .type "tuple" ∧ o.data = .seq its n ∧ its.size ≤ sizeLine ∧ Vals xs its.toList
noncomputable def absV : Value → Option V
  | .none => some .non
  | .bool b => some (.bl b)
  | .int i _ => some (.int i)
  | .str x _ => some (.str x)
  | .bytes b _ => some (.byt b)
  | .float b _ => some (.flt b)
  | .ref a => some (.ref a)
  | .type n => some (.ty n)
  | _ => none
theorem RelV.abs {x : V} {u : Value} (r : RelV x u) : absV u = some x := by
  cases x with
  | non => cases r; rfl
  | bl _ => cases r; rfl
  | int _ => obtain ⟨t, rfl⟩ := r; rfl
  | str _ => obtain ⟨t, rfl⟩ := r; rfl
  | byt _ => obtain ⟨t, rfl⟩ := r; rfl
  | flt _ => obtain ⟨t, rfl⟩ := r; rfl
  | ref _ => cases r; rfl
  | ty _ => cases r; rfl
theorem RelV.inj {x y : V} {u : Value} (r : RelV x u) (q : RelV y u) : x = y := Option.some.inj (r.abs.symm.trans q.abs)
theorem Vals.inj : ∀ {xs ys : List V} {us : List Value}, Vals xs us → Vals ys us → xs = ys
  | _, _, _, .nil, .nil => rfl
  | _, _, _, .cons r t, .cons r' t' => by rw [r.inj r', Vals.inj t t']
section
variable {X : Cx} {pins : List (Addr × Obj)} {σ : St} {H : Hp} {s : Shared} {a : Addr} {xs ys : List V}
theorem SqL.of {K : PySem.W.Frag} (h : H a = some (.lst xs)) : SqL K H a xs := .inl (.inl h)
theorem SqT.of {K : PySem.W.Frag} (h : H a = some (.tup xs)) : SqT K H a xs := .inl (.inl h)
theorem Inv.list (I : Inv X pins σ H s) (h : SqL X.K H a xs) : ∃ its : List Value, Vals xs its ∧ PlainL s.heap a its.toArray ∧ xs.length ≤ sizeLine := by
  rcases h with h | ⟨o, its, n, hk, hc, hd, hs, hz, r⟩
  · obtain ⟨z, its, n, r, e⟩ := h.ok I.hok
    exact ⟨its, r, ⟨_, n, e, rfl, rfl, rfl⟩, z⟩
  · refine ⟨its.toList, r, ⟨o, n, I.kIn a o hk, hc, hd, by simpa using hs⟩, ?_⟩
    have e := r.length
    simp only [Array.length_toList] at e
    omega
theorem Inv.tuple (I : Inv X pins σ H s) (h : SqT X.K H a xs) : ∃ its : List Value, Vals xs its ∧ IsTup s.heap a its.toArray ∧ xs.length ≤ sizeLine := by
  rcases h with h | ⟨o, its, n, hk, hc, hs, hz, r⟩
  · obtain ⟨z, its, r, p⟩ := h.ok I.hok
    exact ⟨its, r, p, z⟩
  · refine ⟨its.toList, r, ⟨o, I.kIn a o hk, hc, n, by simpa using hs⟩, ?_⟩
    have e := r.length
    simp only [Array.length_toList] at e
    omega
theorem Inv.list_inj (I : Inv X pins σ H s) (h : SqL X.K H a xs) (h' : SqL X.K H a ys) : xs = ys := by
  obtain ⟨its, r, ⟨o, n, e, _, _, d⟩, _⟩ := I.list h
  obtain ⟨its', r', ⟨o', n', e', _, _, d'⟩, _⟩ := I.list h'
  rw [e] at e'; cases e'
  rw [d] at d'
  injection d' with d1 _
  have : its = its' := by simpa using congrArg Array.toList d1
  subst this
  exact r.inj r'
theorem Inv.tuple_inj (I : Inv X pins σ H s) (h : SqT X.K H a xs) (h' : SqT X.K H a ys) : xs = ys := by
  obtain ⟨its, r, ⟨o, e, _, n, d⟩, _⟩ := I.tuple h
  obtain ⟨its', r', ⟨o', e', _, n', d'⟩, _⟩ := I.tuple h'
  rw [e] at e'; cases e'
  rw [d] at d'
  injection d' with d1 _
  have : its = its' := by simpa using congrArg Array.toList d1
  subst this
  exact r.inj r'
end

noncomputable abbrev Cx.wish (X : Cx) (E : Value → Shared → Prop) : Cx := { X with xe := E }
noncomputable abbrev Cx.nox (X : Cx) : Cx := X.wish fun _ _ => False
theorem Cx.Ok.wish {X : Cx} (ok : X.Ok) (E : Value → Shared → Prop) : (X.wish E).Ok :=
  ⟨ok.mod, ok.kind, ok.glob, ok.blt, ok.above, ok.inj, ok.has, ok.cab, ok.hd, ok.frames, ok.stk, ok.exf, ok.bs, ok.bsz, ok.noex, ok.exfs, ok.funs, ok.frf⟩
theorem Cx.Ok.unwish {X : Cx} {E : Value → Shared → Prop} (ok : (X.wish E).Ok) : X.Ok :=
  ⟨ok.mod, ok.kind, ok.glob, ok.blt, ok.above, ok.inj, ok.has, ok.cab, ok.hd, ok.frames, ok.stk, ok.exf, ok.bs, ok.bsz, ok.noex, ok.exfs, ok.funs, ok.frf⟩
section
variable {X : Cx} {pins : List (Addr × Obj)} {σ : St} {H : Hp} {s : Shared} {E : Value → Shared → Prop}
theorem Inv.wish (I : Inv X pins σ H s) (E : Value → Shared → Prop) : Inv (X.wish E) pins σ H s := ⟨I.ok.wish E, I.os, I.bare, I.base, I.loc, I.cell, I.free, I.freeC, I.pin, I.hok, I.len⟩
theorem Inv.unwish (I : Inv (X.wish E) pins σ H s) : Inv X pins σ H s := ⟨I.ok.unwish, I.os, I.bare, I.base, I.loc, I.cell, I.free, I.freeC, I.pin, I.hok, I.len⟩
theorem SP.unwish {D : Ends} {f : Flow} {s' : Shared} (h : SP (X.wish E) pins D f s') : SP X pins D f s' := by
  cases f with
  | next => obtain ⟨σ', H', I, q⟩ := h; exact ⟨σ', H', I.unwish, q⟩
  | brk => obtain ⟨σ', H', I, q⟩ := h; exact ⟨σ', H', I.unwish, q⟩
  | cont => obtain ⟨σ', H', I, q⟩ := h; exact ⟨σ', H', I.unwish, q⟩
  | ret u => obtain ⟨v, σ', H', I, r, q⟩ := h; exact ⟨v, σ', H', I.unwish, r, q⟩
theorem PSs.nox {st : List Stmt} {t : TS} (h : PSs X.nox st t) : PSs X st t := fun pins s σ H D I hw =>
  wpAny_mono (h pins s σ H D (I.wish _) hw) (fun _ _ q => q.unwish) fun _ _ z => False.elim z
end

section
variable {X : Cx} {st : Stmt} {rest : List Stmt} {t u : TS} {e : Expr} {te : TE} {pos : Pos}
noncomputable def tNext : TS := fun D σ H => D.nx σ H
noncomputable def tSeq (t u : TS) : TS := fun D σ H => t { D with nx := u D } σ H
theorem pss_nil : PSs X [] tNext := fun _ _ σ H _ I h => wpAny_execs_nil ⟨σ, H, I, h⟩
theorem pss_cons (h1 : PS X st t) (h2 : PSs X rest u) : PSs X (st :: rest) (tSeq t u) := by
  intro pins s σ H D I h
  refine wpAny_execs_cons (thn (h1 pins s σ H { D with nx := u D } I h) fun f s1 q => ?_)
  cases f with
  | next =>
    obtain ⟨σ', H', I', q⟩ := q
    exact h2 pins s1 σ' H' D I' q
  | ret v => exact q
  | brk => exact q
  | cont => exact q
theorem pss_one (h1 : PS X st t) : PSs X [st] t := by
  intro pins s σ H D I h
  refine wpAny_execs_cons (thn (h1 pins s σ H D I h) fun f s1 q => ?_)
  cases f with
  | next => exact wpAny_execs_nil q
  | ret v => exact q
  | brk => exact q
  | cont => exact q
noncomputable def tCont : TS := fun D σ H => D.ct σ H
theorem Inv.quiet {pins : List (Addr × Obj)} {σ : St} {H : Hp} {s : Shared} (I : Inv X pins σ H s) : interactive X.env = false := by simp [interactive, I.ok.kind]
noncomputable def tDrop (te : TE) : TS := fun D σ H => te σ H fun _ H1 => D.nx σ H1
theorem ps_expr (he : PE X e te) (hs : swapsWith e none pos.line X.env = pure false := by rfl) : PS X (.Expr e pos) (tDrop te) := by
  intro pins s σ H D I h
  exact wpAny_Expr_any (thn (he pins s σ H _ I h) fun v s1 ⟨x, H1, I1, r1, q1⟩ => ⟨σ, H1, I1, q1⟩) I.quiet hs
noncomputable def tRet (te : TE) : TS := fun D σ H => te σ H D.rt
theorem ps_ret (he : PE X e te) : PS X (.Return (some e) pos) (tRet te) := by
  intro pins s σ H D I h
  exact wpAny_Return_some (thn (he pins s σ H _ I h) fun v s1 ⟨x, H1, I1, r1, q1⟩ => ⟨x, σ, H1, I1, r1, q1⟩)
noncomputable def tIfS (c : TT) (t u : TS) : TS := fun D σ H => c σ H fun b H1 => if b = true then t D σ H1 else u D σ H1
theorem ps_if {c : Expr} {a b : List Stmt} {tc : TT} (hc : PT X c tc) (ha : PSs X a t) (hb : PSs X b u) : PS X (.If c a b pos) (tIfS tc t u) := by
  intro pins s σ H D I h
  refine wpAny_If (thn (hc pins s σ H _ I h) fun d s1 ⟨H1, I1, q1⟩ => ?_)
  cases d with
  | true => exact ha pins s1 σ H1 D I1 q1
  | false => exact hb pins s1 σ H1 D I1 q1
end

noncomputable abbrev TG := V → St → Hp → (St → Hp → Prop) → Prop
noncomputable abbrev TGs := List V → St → Hp → (St → Hp → Prop) → Prop
noncomputable def PG (X : Cx) (target : Expr) (t : TG) : Prop :=
  ∀ (pins : List (Addr × Obj)) (s : Shared) (σ : St) (H : Hp) (v : V) (u : Value) (Q : St → Hp → Prop), Inv X pins σ H s → RelV v u → t v σ H Q →
    wpAny (model X.prog X.w) X.A (assign target X.env u) (fun _ s' => ∃ σ' H', Inv X pins σ' H' s' ∧ Q σ' H') X.xe s
noncomputable def PGs (X : Cx) (ts : List Expr) (t : TGs) : Prop :=
  ∀ (pins : List (Addr × Obj)) (s : Shared) (σ : St) (H : Hp) (vs : List V) (us : List Value) (Q : St → Hp → Prop), Inv X pins σ H s → Vals vs us → t vs σ H Q →
    wpAny (model X.prog X.w) X.A (assignInOrder ((assignEach ts X.env).map (·.2)) us) (fun _ s' => ∃ σ' H', Inv X pins σ' H' s' ∧ Q σ' H') X.xe s
noncomputable abbrev TSet := V → V → V → Hp → (Hp → Prop) → Prop
noncomputable def PSet (X : Cx) (t : TSet) : Prop :=
  ∀ (pins : List (Addr × Obj)) (s : Shared) (σ : St) (H : Hp) (o i v : V) (ov iv u : Value) (Q : Hp → Prop), Inv X pins σ H s → RelV o ov → RelV i iv → RelV v u → t o i v H Q →
    wpAny (model X.prog X.w) X.A (setItem ov iv u) (fun _ s' => ∃ H', Inv X pins σ H' s' ∧ Q H') X.xe s
noncomputable abbrev TIp := V → V → Hp → VK → Prop
noncomputable def PIp (X : Cx) (op : Operator) (t : TIp) : Prop :=
  ∀ (pins : List (Addr × Obj)) (s : Shared) (σ : St) (H : Hp) (x y : V) (v u : Value) (Q : VK), Inv X pins σ H s → RelV x v → RelV y u → t x y H Q →
    wpAny (model X.prog X.w) X.A (inplaceOp op v u) (EP X pins σ Q) X.xe s
section
variable {X : Cx} {pos : Pos}
noncomputable def gName (i : Nat) : TG := fun v σ H Q => Q (σ.set i (some v)) H
theorem pg_name {i : Nat} {x : Str} (hN : X.N.Nodup) (hi : X.N[i]? = some x) (hx : Loc X.env.scope x) (hf : X.fn x = true ∨ X.env.scope.names.lookup x = some .local := by first | exact .inl rfl | exact .inr rfl | assumption) : PG X (.Name x pos) (gName i) := by
  intro pins s σ H v u Q I r h
  exact wpAny_assign_Name (store_ok I hN hi hx r (fun s' I' => ⟨_, H, I', h⟩) hf)
noncomputable def gNil : TGs := fun vs σ H Q => vs = [] ∧ Q σ H
noncomputable def gCons (t : TG) (u : TGs) : TGs := fun vs σ H Q => ∃ v r, vs = v :: r ∧ t v σ H fun σ' H' => u r σ' H' Q
theorem pgs_nil : PGs X [] gNil := by
  intro pins s σ H vs us Q I r h
  obtain ⟨e, h⟩ := h
  subst e
  cases r
  exact assignInOrder_nil ⟨σ, H, I, h⟩
theorem pgs_cons {e : Expr} {es : List Expr} {t : TG} {u : TGs} (h1 : PG X e t) (h2 : PGs X es u)
    (hs : (assignEach (e :: es) X.env).map (·.2) = assign e X.env :: (assignEach es X.env).map (·.2) := by rfl) : PGs X (e :: es) (gCons t u) := by
  intro pins s σ H vs us Q I r h
  obtain ⟨v, vr, e1, h⟩ := h
  subst e1
  cases r with
  | cons r rr =>
    rw [hs]
    refine assignInOrder_cons (thn (h1 pins s σ H _ _ _ I r h) fun _ s1 ⟨σ1, H1, I1, q1⟩ => ?_)
    exact h2 pins s1 σ1 H1 _ _ Q I1 rr q1
noncomputable def gTup (K : PySem.W.Frag) (n : Nat) (t : TGs) : TG := fun v σ H Q => ∃ a xs, v = .ref a ∧ SqT K H a xs ∧ xs.length = n ∧ t xs σ H Q
theorem pg_tup {es : List Expr} {k : Nat} {t : TGs} {n : Nat} (hc : X.calm = true) (h : PGs X es t)
    (hn : (assignEach es X.env).length = n := by rfl) (hst : (assignEach es X.env).findIdx? (·.1) = none := by rfl) : PG X (.Tuple es k pos) (gTup X.K n t) := by
  intro pins s σ H v u Q I r hw
  obtain ⟨a, xs, e1, hq, hl, hw⟩ := hw
  subst e1
  cases r
  obtain ⟨its, rv, ht, hz⟩ := I.tuple hq
  refine assign_Tuple_tuple (I.ok.hd hc) ht (by simp [hn, ← hl, rv.length]) hst fun h' hx => ?_
  have I1 : Inv X pins σ H { s with heap := h' } := I.kept (t' := s.toks) fun b o e => hx b o (Nat.ne_of_lt (Heap.lt_size e)) e
  exact h pins _ σ H xs _ Q I1 (by simpa using rv) hw
noncomputable def gSub (to ti : TE) (t : TSet) : TG := fun v σ H Q => to σ H fun o H1 => ti σ H1 fun i H2 => t o i v H2 fun H3 => Q σ H3
theorem pg_sub {o i : Expr} {to ti : TE} {t : TSet} (ho : PE X o to) (hi : PE X i ti) (hs : PSet X t)
    (ha : ∀ v, assign (.Subscript o i pos) X.env v = (do
      let ov ← holding [v] (eval o X.env)
      let iv ← holding [v, ov] (eval i X.env)
      standAt pos
      holding [v, ov, iv] (setItem ov iv v)
      release [v, ov, iv] []) := by intro _; rfl) : PG X (.Subscript o i pos) (gSub to ti t) := by
  intro pins s σ H v u Q I r h
  rw [ha]
  refine wpAny_bind (wpAny_holding (thn (ho pins s σ H _ I h) fun ov s1 ⟨x, H1, I1, r1, q1⟩ => ?_))
  refine wpAny_bind (wpAny_holding (thn (hi pins s1 σ H1 _ I1 q1) fun iv s2 ⟨y, H2, I2, r2, q2⟩ => ?_))
  refine wpAny_bind (wpAny_standAt (wpAny_bind (wpAny_holding (thn (hs pins s2 σ H2 x y v ov iv u _ I2 r1 r2 r q2) fun _ s3 ⟨H3, I3, q3⟩ => ?_))))
  exact wpAny_release ⟨σ, H3, I3, q3⟩
noncomputable def tAsg (te : TE) (g : TG) : TS := fun D σ H => te σ H fun x H1 => g x σ H1 D.nx
theorem ps_asg {tg e : Expr} {te : TE} {g : TG} (he : PE X e te) (hg : PG X tg g) (hs : swapsWithSole [tg] e pos.line X.env = pure false := by rfl) (hw : swappedStores [tg] e X.env = pure none := by rfl)
    (h1 : (assignEach [tg] X.env).map (·.2) = [assign tg X.env] := by rfl) : PS X (.Assign [tg] e pos) (tAsg te g) := by
  intro pins s σ H D I h
  refine wpAny_Assign_stores (thn (he pins s σ H _ I h) fun v s1 ⟨x, H1, I1, r1, q1⟩ => ?_) hs hw
  rw [h1]
  exact thn (hg pins s1 σ H1 x v _ I1 r1 q1) fun _ s2 q => q
theorem ps_set {i : Nat} {x : Str} {e : Expr} {te : TE} {pos' : Pos} (hN : X.N.Nodup) (hi : X.N[i]? = some x) (hx : Loc X.env.scope x) (he : PE X e te) (hs : swapsWith e (some (.Name x pos')) pos.line X.env = pure false := by rfl) (hf : X.fn x = true ∨ X.env.scope.names.lookup x = some .local := by first | exact .inl rfl | exact .inr rfl | assumption) :
    PS X (.Assign [.Name x pos'] e pos) (tAsg te (gName i)) := by
  intro pins s σ H D I h
  refine wpAny_Assign_Name (thn (he pins s σ H _ I h) fun v s1 ⟨y, H1, I1, r1, q1⟩ => ?_) hs
  exact store_ok I1 hN hi hx r1 (fun s2 I2 => ⟨_, H1, I2, q1⟩) hf
noncomputable def tPar (i j : Nat) (ta : TA) : TS := fun D σ H => ta σ H fun vs H1 => ∃ v w, vs = [v, w] ∧ D.nx ((σ.set i (some v)).set j (some w)) H1
noncomputable def tAug (i : Nat) (te : TE) (ti : TIp) : TS := fun D σ H => ∃ x, σ[i]? = some (some x) ∧ te σ H fun y H1 => ti x y H1 fun z H2 => D.nx (σ.set i (some z)) H2
theorem ps_aug {i : Nat} {x : Str} {e : Expr} {te : TE} {op : Operator} {ti : TIp} {pos' : Pos} (hN : X.N.Nodup) (hi : X.N[i]? = some x) (hx : Loc X.env.scope x) (he : PE X e te) (ho : PIp X op ti) (hf : X.fn x = true ∨ X.env.scope.names.lookup x = some .local := by first | exact .inl rfl | exact .inr rfl | assumption) :
    PS X (.AugAssign (.Name x pos') op e pos) (tAug i te ti) := by
  intro pins s σ H D I h
  obtain ⟨v, e1, h⟩ := h
  obtain ⟨m, hn, hl⟩ := I.loc
  have vis : Vis X.env.scope x := by rcases hx with k | k; exact .inl k; exact .inr (.inl k)
  obtain ⟨u, r, l⟩ := hl i x v hi e1 vis
  refine wpAny_AugAssign_Name ?_
  have go : wpAny (model X.prog X.w) X.A (eval e X.env) (fun w s₂ => wpAny (model X.prog X.w) X.A (inplaceOp op u w) (fun r s₃ => wpAny (model X.prog X.w) X.A (storeName X.env x r) (fun _ => SP X pins D .next) X.xe s₃) X.xe s₂) X.xe s := by
    refine thn (he pins s σ H _ I h) fun w s1 ⟨y, H1, I1, r1, q1⟩ => ?_
    refine thn (ho pins s1 σ H1 v y u w _ I1 r r1 q1) fun z s2 ⟨zv, H2, I2, r2, q2⟩ => ?_
    exact store_ok I2 hN hi hx r2 (fun s3 I3 => ⟨_, H2, I3, q2⟩) hf
  rcases l with ⟨hk, hm⟩ | ⟨hk, c, hc, hcell⟩
  · exact wpAny_loadName_local I.ok.kind hk hn hm go
  · rcases hk with hk | hk
    · exact wpAny_loadName_cell I.ok.kind hk hc hcell go
    · rcases hx with k | k
      · have : X.env.scope.names.lookup x = some .free := hk
        rw [k] at this; cases this
      · have : X.env.scope.names.lookup x = some .free := hk
        rw [k] at this; cases this
noncomputable def tAugS (to ti te : TE) (tget : V → V → Hp → VK → Prop) (tip : TIp) (tset : TSet) : TS := fun D σ H => to σ H fun o H1 => ti σ H1 fun i H2 => tget o i H2 fun x H3 => te σ H3 fun y H4 => tip x y H4 fun z H5 => tset o i z H5 fun H6 => D.nx σ H6
noncomputable def PGet (X : Cx) (t : V → V → Hp → VK → Prop) : Prop :=
  ∀ (pins : List (Addr × Obj)) (s : Shared) (σ : St) (H : Hp) (o i : V) (ov iv : Value) (Q : VK), Inv X pins σ H s → RelV o ov → RelV i iv → t o i H Q →
    wpAny (model X.prog X.w) X.A (getItem ov iv) (EP X pins σ Q) X.xe s
theorem ps_augS {o i e : Expr} {to ti te : TE} {tget : V → V → Hp → VK → Prop} {tip : TIp} {tset : TSet} {op : Operator} {tpos : Pos} (ho : PE X o to) (hi : PE X i ti) (hg : PGet X tget) (he : PE X e te) (hp : PIp X op tip) (hs : PSet X tset)
    (ha : ∀ ov iv new, augStore i ov iv new = (do holding [new, ov, iv] (setItem ov iv new); release [new, ov, iv] []; pure .next) := by intros; rfl) : PS X (.AugAssign (.Subscript o i tpos) op e pos) (tAugS to ti te tget tip tset) := by
  intro pins s σ H D I h
  refine wpAny_AugAssign_SubscriptAny (thn (ho pins s σ H _ I h) fun ov s1 ⟨x1, H1, I1, r1, q1⟩ => ?_) ha
  refine thn (hi pins s1 σ H1 _ I1 q1) fun iv s2 ⟨x2, H2, I2, r2, q2⟩ => ?_
  refine thn (hg pins s2 σ H2 x1 x2 ov iv _ I2 r1 r2 q2) fun old s3 ⟨x3, H3, I3, r3, q3⟩ => ?_
  refine thn (he pins s3 σ H3 _ I3 q3) fun v s4 ⟨x4, H4, I4, r4, q4⟩ => ?_
  refine thn (hp pins s4 σ H4 x3 x4 old v _ I4 r3 r4 q4) fun new s5 ⟨x5, H5, I5, r5, q5⟩ => ?_
  exact thn (hs pins s5 σ H5 x1 x2 x5 ov iv new _ I5 r1 r2 r5 q5) fun _ s6 ⟨H6, I6, q6⟩ => ⟨σ, H6, I6, q6⟩
noncomputable def ipI (f : Int → Int → Int) : TIp := fun x y H Q => ∃ i j, x = .int i ∧ y = .int j ∧ Q (.int (f i j)) H
theorem ip_add : PIp X .Add (ipI fun i j => i + j) := by
  intro pins s σ H x y v u Q I r1 r2 h
  obtain ⟨i, j, e1, e2, q⟩ := h
  subst e1; subst e2
  obtain ⟨t, rfl⟩ := r1
  obtain ⟨t', rfl⟩ := r2
  exact iadd_int ⟨.int _, H, I.tok _, ⟨_, rfl⟩, q⟩
end

section
variable {X : Cx} {pos : Pos}
noncomputable def tWhile (c : TT) (tb : TS) : TS := fun D σ H => ∃ W : Nat → St → Hp → Prop, (∃ m, W m σ H) ∧ ∀ m σ H, W m σ H →
  c σ H fun b H1 => if b = true then ∃ N : St → Hp → Prop, (∀ σ' H', N σ' H' → ∃ m', m' < m ∧ W m' σ' H') ∧ tb { D with nx := N, ct := N, bk := D.nx } σ H1 else D.nx σ H1
theorem ps_while {c : Expr} {body : List Stmt} {tc : TT} {tb : TS} (hp : PassesOwn (model X.prog X.w) X.A X.env X.xe) (hc : PT X c tc) (hb : PSs X body tb) : PS X (.While c body [] pos) (tWhile tc tb) := by
  intro pins s σ H D I h
  obtain ⟨W, ⟨m0, w0⟩, turn⟩ := h
  refine wpAny_While (codeAny_whileLoop (fun n s' => ∃ σ' H', Inv X pins σ' H' s' ∧ W n σ' H') ?_ m0 ⟨σ, H, I, w0⟩)
  rintro n s1 ⟨σ1, H1, I1, w1⟩
  refine wpAny_passesOwn hp (thn (hc pins s1 σ1 H1 _ I1 (turn n σ1 H1 w1)) fun b s2 ⟨H2, I2, q2⟩ => ?_)
  cases b with
  | true =>
    obtain ⟨N, hN, q2⟩ := q2
    rw [if_pos rfl]
    refine wpAny_passesOwn hp (thn (hb pins s2 σ1 H2 _ I2 q2) fun f s3 q3 => ?_)
    cases f with
    | next =>
      obtain ⟨σ3, H3, I3, n3⟩ := q3
      obtain ⟨m', hm, w3⟩ := hN σ3 H3 n3
      exact ⟨m', hm, σ3, H3, I3, w3⟩
    | cont =>
      obtain ⟨σ3, H3, I3, n3⟩ := q3
      obtain ⟨m', hm, w3⟩ := hN σ3 H3 n3
      exact ⟨m', hm, σ3, H3, I3, w3⟩
    | brk => exact q3
    | ret v => exact q3
  | false =>
    rw [if_neg Bool.false_ne_true]
    exact wpAny_execs_nil ⟨σ1, H2, I2, q2⟩
end

structure It where
  go : Nat → Hp → Prop
  yld : Nat → Hp → V → Hp → Prop
  stop : Nat → Hp → Prop
noncomputable def FpOk (X : Cx) (pins : List (Addr × Obj)) (H : Hp) (b : Addr) : Prop :=
  H b = none ∧ b ≠ X.env.locals ∧ b ∉ X.fs ∧ (b ∈ X.ex ∨ X.s₀.heap.objs.size ≤ b) ∧ (∀ x c, X.env.cells.lookup x = some c → c ≠ b) ∧ ∀ p ∈ X.pn ++ pins, p.1 ≠ b
theorem Inv.fpOk {X : Cx} {pins : List (Addr × Obj)} {σ : St} {H H' : Hp} {s : Shared} {b : Addr} (I : Inv X pins σ H s) (hb : s.heap.objs.size ≤ b) (hn : H' b = none) : FpOk X pins H' b := by
  refine ⟨hn, Nat.ne_of_gt (Nat.lt_of_lt_of_le I.lt hb), I.nofs hb, .inr (Nat.le_trans I.sz hb), fun x c e z => ?_, fun p hp z => ?_⟩
  · obtain ⟨v, q⟩ := I.cell x c e
    exact absurd (Nat.lt_of_lt_of_le q.lt (by rw [z]; exact hb)) (Nat.lt_irrefl _)
  · exact absurd (Nat.lt_of_lt_of_le (Heap.lt_size (I.pin p hp).1) (by rw [z]; exact hb)) (Nat.lt_irrefl _)
structure Turn (P : Program) (w : World) (K : PySem.W.Frag) (tg : Expr) (J : It) (fp : List Addr) (it : Addr) (tn : Nat → Heap → Prop) : Prop where
  mem : it ∈ fp
  obj : ∀ i h, tn i h → ∀ b ∈ fp, ∃ o, h.get? b = some o ∧ ∀ v, o.data ≠ .cell v
  keep : ∀ i h h', tn i h → (∀ b ∈ fp, ∀ o, h.get? b = some o → h'.get? b = some o) → tn i h'
  item : ∀ (X : Cx), X.prog = P → X.w = w → X.K = K → X.calm = true → ∀ (i : Nat) (pins : List (Addr × Obj)) (s : Shared) (σ : St) (H : Hp) (E : Value → Shared → Prop), Inv X pins σ H s → (∀ b ∈ fp, FpOk X pins H b) → tn i s.heap → J.go i H →
    wpAny (model P w) X.A (pyNext (.ref it)) (fun r s1 => ∃ u, r = some u ∧
      wpAny (model P w) X.A (letOwnedTupleGo tg (.ref it) u) (fun _ s2 => ∃ x H', Inv X pins σ H' s2 ∧ RelV x u ∧ J.yld i H x H' ∧ tn (i + 1) s2.heap ∧ ∀ b ∈ fp, H' b = none) E s1) E s
  done : ∀ (X : Cx), X.prog = P → X.w = w → X.K = K → X.calm = true → ∀ (i : Nat) (pins : List (Addr × Obj)) (s : Shared) (σ : St) (H : Hp) (E : Value → Shared → Prop), Inv X pins σ H s → (∀ b ∈ fp, FpOk X pins H b) → tn i s.heap → J.stop i H →
    wpAny (model P w) X.A (pyNext (.ref it)) (fun r s1 => r = none ∧ Inv X pins σ H s1) E s
  self : ∀ (A : Around) (i : Nat) (s : Shared) (Q : Value → Shared → Prop) (E : Value → Shared → Prop), tn i s.heap → Q (.ref it) s → wpAny (model P w) A (pyIter (.ref it)) Q E s
noncomputable abbrev TI := St → Hp → (It → Hp → Prop) → Prop
noncomputable def PIE (X : Cx) (pins : List (Addr × Obj)) (σ : St) (tg : Expr) (R : It → Hp → Prop) (itv : Value) (s2 : Shared) : Prop :=
  ∃ (it : Addr) (fp : List Addr) (tn : Nat → Heap → Prop) (J : It) (H' : Hp), itv = .ref it ∧ Inv X pins σ H' s2 ∧ Turn X.prog X.w X.K tg J fp it tn ∧ tn 0 s2.heap ∧ (∀ b ∈ fp, FpOk X pins H' b) ∧ R J H'
noncomputable def PI (X : Cx) (tg iter : Expr) (wi : TI) : Prop :=
  ∀ (pins : List (Addr × Obj)) (s : Shared) (σ : St) (H : Hp) (R : It → Hp → Prop), Inv X pins σ H s → wi σ H R →
    wpAny (model X.prog X.w) X.A (eval iter X.env) (fun v s1 => wpAny (model X.prog X.w) X.A (pyIter v) (PIE X pins σ tg R) X.xe s1) X.xe s

theorem go_of {M : Model} {A : Around} {E : Value → Shared → Prop} {s : Shared} {tg : Expr} {it : Addr} {u : Value} {o : Obj} {n : String} {vs : Array Value} {Q : Unit → Shared → Prop} (ho : s.heap.get? it = some o) (hc : o.cls = .type n) (hd : o.data = .fields vs)
    (hn : ["enumerate", "zip", "dict_itemiterator", "dict_reverseitemiterator", "odict_iterator", "itertools.zip_longest", "itertools.pairwise"].contains n = false) (hQ : Q () s) : wpAny M A (letOwnedTupleGo tg (.ref it) u) Q E s := by
  unfold letOwnedTupleGo
  cases tg <;> first
    | exact wpAny_pure hQ
    | (cases u <;> first
        | exact wpAny_pure hQ
        | (refine wpAny_bind (wpAny_load ho ?_)
           rw [hc, hd]
           show wpAny M A (if (["enumerate", "zip", "dict_itemiterator", "dict_reverseitemiterator", "odict_iterator", "itertools.zip_longest", "itertools.pairwise"].contains n && vs[0]? == some (rawInt _)) = true then _ else _) Q E s
           rw [if_neg (by intro h; rw [hn, Bool.false_and] at h; cases h)]
           exact wpAny_pure hQ))

noncomputable def Itl (K : PySem.W.Frag) (a : Addr) : It :=
  ⟨fun i H => ∃ xs x, SqL K H a xs ∧ xs[i]? = some x, fun i H x H' => H' = H ∧ ∀ xs, SqL K H a xs → xs[i]? = some x, fun i H => ∃ xs, SqL K H a xs ∧ xs.length ≤ i⟩
noncomputable def Itt (K : PySem.W.Frag) (a : Addr) : It :=
  ⟨fun i H => ∃ xs x, SqT K H a xs ∧ xs[i]? = some x, fun i H x H' => H' = H ∧ ∀ xs, SqT K H a xs → xs[i]? = some x, fun i H => ∃ xs, SqT K H a xs ∧ xs.length ≤ i⟩
noncomputable def Itr (lo : Int) (n : Nat) : It := ⟨fun i _ => i < n, fun i H x H' => H' = H ∧ x = .int (lo + i), fun i _ => n ≤ i⟩
theorem turn_list {P : Program} {w : World} {K : PySem.W.Frag} {tg : Expr} (a it : Addr) : Turn P w K tg (Itl K a) [it] it (fun i h => h.IsListIter it a i) where
  mem := by simp
  obj := fun i h st b hb => by
    have e : b = it := by simpa using hb
    subst e
    obtain ⟨o, e, c, d⟩ := st
    exact ⟨o, e, fun v z => by rw [d] at z; cases z⟩
  keep := fun i h h' st k => st.at fun o e => k it (by simp) o e
  item := by
    intro X hP hw hK hc i pins s σ H E I hf st hg
    subst hP hw hK
    obtain ⟨xs, x, hq, hx⟩ := hg
    obtain ⟨its, rv, p, hz⟩ := I.list hq
    obtain ⟨u, hu, ru⟩ := rv.get hx
    obtain ⟨f0, f1, f2, f3, f4, f5⟩ := hf it (by simp)
    refine wpAny_pyNext_list_item st p.isList (x := u) (by simpa using hu) fun h' st' sb => ?_
    have I1 : Inv X pins σ H { s with heap := h' } := I.turned (t' := s.toks) (fun b o hb e => (sb.2 b hb).trans e) f0 f1 f3 f4 f5
    obtain ⟨o, e, c, d⟩ := id st'
    exact ⟨u, rfl, go_of (s := { s with heap := h' }) e c d (by decide) ⟨x, H, I1, ru, ⟨rfl, fun ys hy => by rw [I.list_inj hy hq]; exact hx⟩, st', fun b hb => (hf b hb).1⟩⟩
  done := by
    intro X hP hw hK hc i pins s σ H E I hf st hg
    subst hP hw hK
    obtain ⟨xs, hq, hx⟩ := hg
    obtain ⟨its, rv, p, hz⟩ := I.list hq
    obtain ⟨f0, f1, f2, f3, f4, f5⟩ := hf it (by simp)
    have hl := rv.length
    exact wpAny_pyNext_list_end (I.ok.hd hc) st p.isList (by simp; omega) fun h' eb => ⟨rfl, I.turned (t' := s.toks) (fun b o hb e => eb b o hb e) f0 f1 f3 f4 f5⟩
  self := fun _ _ _ _ _ st h => wpAny_pyIter_listiter st h
theorem turn_tuple {P : Program} {w : World} {K : PySem.W.Frag} {tg : Expr} (a it : Addr) : Turn P w K tg (Itt K a) [it] it (fun i h => h.IsTupleIter it a i) where
  mem := by simp
  obj := fun i h st b hb => by
    have e : b = it := by simpa using hb
    subst e
    obtain ⟨o, e, c, d⟩ := st
    exact ⟨o, e, fun v z => by rw [d] at z; cases z⟩
  keep := fun i h h' st k => st.at fun o e => k it (by simp) o e
  item := by
    intro X hP hw hK hc i pins s σ H E I hf st hg
    subst hP hw hK
    obtain ⟨xs, x, hq, hx⟩ := hg
    obtain ⟨its, rv, p, hz⟩ := I.tuple hq
    obtain ⟨u, hu, ru⟩ := rv.get hx
    obtain ⟨f0, f1, f2, f3, f4, f5⟩ := hf it (by simp)
    refine wpAny_pyNext_tuple_item st (show s.heap.IsTuple a its.toArray from p) (x := u) (by simpa using hu) fun h' st' sb => ?_
    have I1 : Inv X pins σ H { s with heap := h' } := I.turned (t' := s.toks) (fun b o hb e => (sb.2 b hb).trans e) f0 f1 f3 f4 f5
    obtain ⟨o, e, c, d⟩ := id st'
    exact ⟨u, rfl, go_of (s := { s with heap := h' }) e c d (by decide) ⟨x, H, I1, ru, ⟨rfl, fun ys hy => by rw [I.tuple_inj hy hq]; exact hx⟩, st', fun b hb => (hf b hb).1⟩⟩
  done := by
    intro X hP hw hK hc i pins s σ H E I hf st hg
    subst hP hw hK
    obtain ⟨xs, hq, hx⟩ := hg
    obtain ⟨its, rv, p, hz⟩ := I.tuple hq
    obtain ⟨f0, f1, f2, f3, f4, f5⟩ := hf it (by simp)
    have hl := rv.length
    exact wpAny_pyNext_tuple_end (I.ok.hd hc) st (show s.heap.IsTuple a its.toArray from p) (by simp; omega) fun h' eb => ⟨rfl, I.turned (t' := s.toks) (fun b o hb e => eb b o hb e) f0 f1 f3 f4 f5⟩
  self := fun _ _ _ _ _ st h => wpAny_pyIter_tupleiter st h
theorem turn_range {P : Program} {w : World} {K : PySem.W.Frag} {tg : Expr} (it : Addr) (lo : Int) (n : Nat) : Turn P w K tg (Itr lo n) [it] it (fun i h => IsRangeIter h it (lo + (i : Nat) * 1) ((n : Int) - (i : Nat)) 1) where
  mem := by simp
  obj := fun i h st b hb => by
    have e : b = it := by simpa using hb
    subst e
    exact ⟨_, st, fun v z => by
      have z' : Data.fields _ = Data.cell v := z
      cases z'⟩
  keep := fun i h h' st k => k it (by simp) _ st
  item := by
    intro X hP hw hK hc i pins s σ H E I hf st hg
    subst hP hw hK
    obtain ⟨f0, f1, f2, f3, f4, f5⟩ := hf it (by simp)
    have W := Walks.range (prog := X.prog) (w := X.w) (I.ok.hd hc) it lo 1 n
    refine W.item i s _ _ hg st fun v h' tk hv st' kk => ?_
    obtain ⟨t, rfl⟩ := hv
    have I1 : Inv X pins σ H { s with heap := h', toks := tk } := I.turned (fun b o hb e => kk b o (by simpa using hb) e) f0 f1 f3 f4 f5
    refine ⟨_, rfl, go_of (s := { s with heap := h', toks := tk }) (n := "range_iterator") st' rfl rfl (by decide) ⟨.int (lo + i), H, I1, ⟨t, ?_⟩, ⟨rfl, rfl⟩, st', fun b hb => (hf b hb).1⟩⟩
    rw [Int.mul_one]
  done := by
    intro X hP hw hK hc i pins s σ H E I hf st hg
    subst hP hw hK
    obtain ⟨f0, f1, f2, f3, f4, f5⟩ := hf it (by simp)
    exact wpAny_pyNext_range_end (I.ok.hd hc) st (by have : n ≤ i := hg; omega) fun h' eb => ⟨rfl, I.turned (t' := s.toks) (fun b o hb e => eb b o hb e) f0 f1 f3 f4 f5⟩
  self := fun _ _ _ _ _ st h => wpAny_pyIter_rangeiter st h
end L2

namespace L2
open PySem PySem.Spec PyProof.Rows
section
variable {X : Cx} {tg : Expr}
noncomputable def iList (K : PySem.W.Frag) (tl : TE) : TI := fun σ H R => tl σ H fun x H1 => ∃ a, x = .ref a ∧ (∃ xs, SqL K H1 a xs) ∧ R (Itl K a) H1
noncomputable def iTup (K : PySem.W.Frag) (tl : TE) : TI := fun σ H R => tl σ H fun x H1 => ∃ a, x = .ref a ∧ (∃ xs, SqT K H1 a xs) ∧ R (Itt K a) H1
theorem pi_list {l : Expr} {tl : TE} (hl : PE X l tl) : PI X tg l (iList X.K tl) := by
  intro pins s σ H R I h
  refine thn (hl pins s σ H _ I h) fun v s1 ⟨x, H1, I1, r1, q1⟩ => ?_
  obtain ⟨a, e, ⟨xs, hq⟩, q⟩ := q1
  subst e
  cases r1
  obtain ⟨its, rv, p, hz⟩ := I1.list hq
  refine wpAny_pyIter_list p.isList ?_
  refine ⟨s1.heap.objs.size, [s1.heap.objs.size], _, _, H1, rfl, I1.kept (t' := s1.toks) fun b o e => Heap.get?_push_of_some _ e, turn_list a _, ⟨_, Heap.get?_push_size _ rfl, rfl, rfl⟩, fun b hb => ?_, q⟩
  have e : b = s1.heap.objs.size := by simpa using hb
  subst e
  exact I1.fpOk (Nat.le_refl _) (I1.hok.fresh (Nat.le_refl _))
theorem pi_tup {l : Expr} {tl : TE} (hl : PE X l tl) : PI X tg l (iTup X.K tl) := by
  intro pins s σ H R I h
  refine thn (hl pins s σ H _ I h) fun v s1 ⟨x, H1, I1, r1, q1⟩ => ?_
  obtain ⟨a, e, ⟨xs, hq⟩, q⟩ := q1
  subst e
  cases r1
  obtain ⟨its, rv, p, hz⟩ := I1.tuple hq
  refine wpAny_pyIter_tuple (show s1.heap.IsTuple a its.toArray from p) ?_
  refine ⟨s1.heap.objs.size, [s1.heap.objs.size], _, _, H1, rfl, I1.kept (t' := s1.toks) fun b o e => Heap.get?_push_of_some _ e, turn_tuple a _, ⟨_, Heap.get?_push_size _ rfl, rfl, rfl⟩, fun b hb => ?_, q⟩
  have e : b = s1.heap.objs.size := by simpa using hb
  subst e
  exact I1.fpOk (Nat.le_refl _) (I1.hok.fresh (Nat.le_refl _))
theorem range_it {pins : List (Addr × Obj)} {σ : St} {H : Hp} {s : Shared} {R : It → Hp → Prop} {E : Value → Shared → Prop} {lo hi : Int} {t u v : Tok} {tk : Nat} (I : Inv X pins σ H s) (h1 : -(2 ^ 62) ≤ lo) (h2 : lo < 2 ^ 62) (h3 : -(2 ^ 62) ≤ hi) (h4 : hi < 2 ^ 62)
    (q : R (Itr lo (hi - lo).toNat) H) : wpAny (model X.prog X.w) X.A (pyIter (.ref s.heap.objs.size)) (PIE X pins σ tg R) E { s with heap := s.heap.push { cls := .type "range", data := .fields #[.int lo t, .int hi u, .int 1 v] }, toks := tk } := by
  refine wpAny_pyIter_range (IsRange.new ..) (small_one h1 h2 h3 h4) ?_
  have I1 : Inv X pins σ H { s with heap := s.heap.push { cls := .type "range", data := .fields #[.int lo t, .int hi u, .int 1 v] }, toks := tk } := I.kept fun b o e => Heap.get?_push_of_some _ e
  refine ⟨(s.heap.push { cls := .type "range", data := .fields #[.int lo t, .int hi u, .int 1 v] }).objs.size, [(s.heap.push { cls := .type "range", data := .fields #[.int lo t, .int hi u, .int 1 v] }).objs.size], _, _, H, rfl,
    I1.kept (t' := tk) fun b o e => Heap.get?_push_of_some _ e, turn_range _ lo (hi - lo).toNat, ?_, fun b hb => ?_, q⟩
  · have e1 : lo + ((0 : Nat) : Int) * 1 = lo := by simp
    have e2 : (((hi - lo).toNat : Nat) : Int) - ((0 : Nat) : Int) = Builtin.Range.rangeSize lo hi 1 := by rw [rangeSize_one]; split <;> omega
    show IsRangeIter _ _ (lo + ((0 : Nat) : Int) * 1) ((((hi - lo).toNat : Nat) : Int) - ((0 : Nat) : Int)) 1
    rw [e1, e2]
    exact Heap.get?_push_size _ rfl
  · have e : b = (s.heap.push { cls := .type "range", data := .fields #[.int lo t, .int hi u, .int 1 v] }).objs.size := by simpa using hb
    subst e
    exact I1.fpOk (Nat.le_refl _) (I1.hok.fresh (Nat.le_refl _))
noncomputable def iRng1 (ta : TA) : TI := fun σ H R => ta σ H fun vs H1 => ∃ j : Int, vs = [.int j] ∧ -(2 ^ 62) ≤ j ∧ j < 2 ^ 62 ∧ R (Itr 0 j.toNat) H1
noncomputable def iRng2 (ta : TA) : TI := fun σ H R => ta σ H fun vs H1 => ∃ i j : Int, vs = [.int i, .int j] ∧ (-(2 ^ 62) ≤ i ∧ i < 2 ^ 62 ∧ -(2 ^ 62) ≤ j ∧ j < 2 ^ 62) ∧ R (Itr i (j - i).toNat) H1
theorem pi_range1 {a : Expr} {ta : TA} {p pos : Pos} (hg : Gl X "range") (hm : X.mg "range" = none) (ha : PA X [a] ta) (hs : starEach [a] X.env = [(false, eval a X.env)] := by rfl) : PI X tg (.Call (.Name "range" p) [a] [] pos) (iRng1 ta) := by
  intro pins s σ H R I h
  refine Call_ (ld_blt I hg hm boot_range (PyProof.Rows.callWith_type1 (thn (ha pos pins s σ H _ I h) fun us s1 ⟨vs, H1, I1, r1, q1⟩ => ?_) hs rfl))
  obtain ⟨j, e, q1, q2, q⟩ := q1
  subst e
  cases r1 with
  | cons r rr =>
    cases rr
    obtain ⟨t, rfl⟩ := r
    exact call_range_1 (range_it I1 (by omega) (by omega) q1 q2 (by simpa using q))
noncomputable def tFor (wi : TI) (g : TG) (tb : TS) : TS := fun D σ H => wi σ H fun J H1 => ∃ W : Nat → Nat → St → Hp → Prop, (∃ m, W 0 m σ H1) ∧ ∀ i m σ H, W i m σ H →
  (J.stop i H ∧ D.nx σ H) ∨ (J.go i H ∧ ∃ N : St → Hp → Prop, (∀ σ' H', N σ' H' → ∃ m', m' < m ∧ W (i + 1) m' σ' H') ∧ ∀ x H', J.yld i H x H' → g x σ H' fun σ2 H2 => tb { D with nx := N, ct := N, bk := D.nx } σ2 H2)
noncomputable def pinsAt (fp : List Addr) (h : Heap) : List (Addr × Obj) := fp.filterMap fun b => (h.get? b).map fun o => (b, o)
theorem mem_pinsAt {fp : List Addr} {h : Heap} {b : Addr} {o : Obj} (hb : b ∈ fp) (e : h.get? b = some o) : (b, o) ∈ pinsAt fp h := List.mem_filterMap.mpr ⟨b, hb, by rw [e]; rfl⟩
theorem of_pinsAt {fp : List Addr} {h : Heap} {p : Addr × Obj} (hp : p ∈ pinsAt fp h) : p.1 ∈ fp ∧ h.get? p.1 = some p.2 := by
  obtain ⟨b, hb, e⟩ := List.mem_filterMap.mp hp
  cases q : h.get? b with
  | none => rw [q] at e; cases e
  | some o =>
    rw [q] at e
    have e' : (b, o) = p := Option.some.inj e
    subst e'
    exact ⟨hb, q⟩
theorem Inv.pinned {pins : List (Addr × Obj)} {σ : St} {H : Hp} {s : Shared} {fp : List Addr} (I : Inv X pins σ H s) (hf : ∀ b ∈ fp, FpOk X pins H b) (ho : ∀ b ∈ fp, ∃ o, s.heap.get? b = some o ∧ ∀ v, o.data ≠ .cell v) : Inv X (pins ++ pinsAt fp s.heap) σ H s :=
  I.pins_of fun p hp => (List.mem_append.mp hp).elim (fun z => I.pin p (List.mem_append_right _ z)) fun z => by
    obtain ⟨hb, e⟩ := of_pinsAt z
    obtain ⟨f0, f1, f2, _⟩ := hf p.1 hb
    obtain ⟨o, e', d⟩ := ho p.1 hb
    rw [e] at e'; cases e'
    exact ⟨e, f0, f1, f2, d⟩
theorem Inv.unpinned {pins pl : List (Addr × Obj)} {σ : St} {H : Hp} {s : Shared} (I : Inv X (pins ++ pl) σ H s) : Inv X pins σ H s := I.pins_of fun p hp => I.pin p (List.mem_append_right _ (List.mem_append_left _ hp))
theorem ps_for {iter : Expr} {body : List Stmt} {wi : TI} {g : TG} {tb : TS} {pos : Pos} (hp : PassesOwn (model X.prog X.w) X.A X.env X.xe) (hc : X.calm = true) (hi : PI X tg iter wi) (hg : PG X tg g) (hb : PSs X body tb)
    (hs : ∀ x, foldedSetIterable iter X.env x = pure x := by intro _; rfl) : PS X (.For tg iter body [] pos) (tFor wi g tb) := by
  intro pins s σ H D I h
  refine wpAny_For (thn (hi pins s σ H _ I h) fun v s1 h1 => thn h1 fun itv s2 h2 => ?_) hs
  obtain ⟨it, fp, tn, J, H2, e, I2, T, st2, f2, W, ⟨m0, w0⟩, turn⟩ := h2
  subst e
  -- what stays true of the iterator's objects through the loop
  have stat : ∀ {H' : Hp}, (∀ b ∈ fp, H' b = none) → ∀ b ∈ fp, FpOk X pins H' b := fun hn b hb => ⟨hn b hb, (f2 b hb).2⟩
  refine codeAny_forLoop_any (fun n s' => ∃ i σ' H', Inv X pins σ' H' s' ∧ tn i s'.heap ∧ (∀ b ∈ fp, H' b = none) ∧ W i n σ' H') ?_ m0 ⟨0, σ, H2, I2, st2, fun b hb => (f2 b hb).1, w0⟩
  rintro n s3 ⟨i, σ3, H3, I3, st3, fr3, w3⟩
  rcases turn i n σ3 H3 w3 with ⟨stop, qn⟩ | ⟨go, N, hN, step⟩
  · refine wpAny_passesOwn hp (thn (T.done X rfl rfl rfl hc i pins s3 σ3 H3 X.xe I3 (stat fr3) st3 stop) fun r s4 ⟨hr, I4⟩ => ?_)
    subst hr
    exact wpAny_execs_nil ⟨σ3, H3, I4, qn⟩
  · refine wpAny_passesOwn hp (thn (T.item X rfl rfl rfl hc i pins s3 σ3 H3 X.xe I3 (stat fr3) st3 go) fun r s4 ⟨u, hr, h4⟩ => ?_)
    subst hr
    refine wpAny_passesOwn hp (thn h4 fun _ s5 ⟨x, H5, I5, r5, y5, st5, fr5⟩ => ?_)
    have I5' := I5.pinned (stat fr5) (T.obj _ _ st5)
    refine wpAny_passesOwn hp (thn (hg _ s5 σ3 H5 x u _ I5' r5 (step x H5 y5)) fun _ s6 ⟨σ6, H6, I6, q6⟩ => ?_)
    refine wpAny_passesOwn hp (thn (hb _ s6 σ6 H6 _ I6 q6) fun f s7 q7 => ?_)
    have again : ∀ {σ7 : St} {H7 : Hp}, Inv X (pins ++ pinsAt fp s5.heap) σ7 H7 s7 → N σ7 H7 → ∃ m, m < n ∧ ∃ i σ' H', Inv X pins σ' H' s7 ∧ tn i s7.heap ∧ (∀ b ∈ fp, H' b = none) ∧ W i m σ' H' := fun {σ7 H7} I7 n7 => by
      obtain ⟨m', hm, w7⟩ := hN σ7 H7 n7
      refine ⟨m', hm, i + 1, σ7, H7, I7.unpinned, T.keep _ _ _ st5 fun b hb o e => (I7.pin (b, o) (List.mem_append_right _ (List.mem_append_right _ (mem_pinsAt hb e)))).1, fun b hb => ?_, w7⟩
      obtain ⟨o, e, d⟩ := T.obj _ _ st5 b hb
      exact (I7.pin (b, o) (List.mem_append_right _ (List.mem_append_right _ (mem_pinsAt hb e)))).2.1
    cases f with
    | next => obtain ⟨σ7, H7, I7, n7⟩ := q7; exact again I7 n7
    | cont => obtain ⟨σ7, H7, I7, n7⟩ := q7; exact again I7 n7
    | brk => obtain ⟨σ7, H7, I7, q7⟩ := q7; exact ⟨σ7, H7, I7.unpinned, q7⟩
    | ret v => obtain ⟨x7, σ7, H7, I7, r7, q7⟩ := q7; exact ⟨x7, σ7, H7, I7.unpinned, r7, q7⟩
end

theorem for_list {K : PySem.W.Frag} {a : Addr} {xs : List V} {g : TG} {tb : TS} {D : Ends} {σ : St} {H : Hp} (Pv : Nat → St → Hp → Prop) (h0 : Pv 0 σ H) (hl : ∀ i σ H, i ≤ xs.length → Pv i σ H → SqL K H a xs)
    (hs : ∀ i x σ H, xs[i]? = some x → Pv i σ H → g x σ H fun σ2 H2 => tb { D with nx := Pv (i + 1), ct := Pv (i + 1), bk := D.nx } σ2 H2) (hd : ∀ σ H, Pv xs.length σ H → D.nx σ H) :
    ∃ W : Nat → Nat → St → Hp → Prop, (∃ m, W 0 m σ H) ∧ ∀ i m σ H, W i m σ H →
      ((Itl K a).stop i H ∧ D.nx σ H) ∨ ((Itl K a).go i H ∧ ∃ N : St → Hp → Prop, (∀ σ' H', N σ' H' → ∃ m', m' < m ∧ W (i + 1) m' σ' H') ∧ ∀ x H', (Itl K a).yld i H x H' → g x σ H' fun σ2 H2 => tb { D with nx := N, ct := N, bk := D.nx } σ2 H2) := by
  refine ⟨fun i m σ H => m = xs.length - i ∧ i ≤ xs.length ∧ Pv i σ H, ⟨xs.length, by simp, Nat.zero_le _, h0⟩, ?_⟩
  rintro i m σ H ⟨rfl, hi, p⟩
  have q := hl i σ H hi p
  by_cases hlt : i < xs.length
  · refine .inr ⟨⟨xs, xs[i], q, by simp [hlt]⟩, Pv (i + 1), fun σ' H' p' => ⟨xs.length - (i + 1), by omega, rfl, hlt, p'⟩, fun x H' y => ?_⟩
    obtain ⟨e, y⟩ := y
    subst e
    exact hs i x σ _ (y xs q) p
  · have e : i = xs.length := by omega
    subst e
    exact .inl ⟨⟨xs, q, Nat.le_refl _⟩, hd σ H p⟩
theorem for_tup {K : PySem.W.Frag} {a : Addr} {xs : List V} {g : TG} {tb : TS} {D : Ends} {σ : St} {H : Hp} (Pv : Nat → St → Hp → Prop) (h0 : Pv 0 σ H) (hl : ∀ i σ H, i ≤ xs.length → Pv i σ H → SqT K H a xs)
    (hs : ∀ i x σ H, xs[i]? = some x → Pv i σ H → g x σ H fun σ2 H2 => tb { D with nx := Pv (i + 1), ct := Pv (i + 1), bk := D.nx } σ2 H2) (hd : ∀ σ H, Pv xs.length σ H → D.nx σ H) :
    ∃ W : Nat → Nat → St → Hp → Prop, (∃ m, W 0 m σ H) ∧ ∀ i m σ H, W i m σ H →
      ((Itt K a).stop i H ∧ D.nx σ H) ∨ ((Itt K a).go i H ∧ ∃ N : St → Hp → Prop, (∀ σ' H', N σ' H' → ∃ m', m' < m ∧ W (i + 1) m' σ' H') ∧ ∀ x H', (Itt K a).yld i H x H' → g x σ H' fun σ2 H2 => tb { D with nx := N, ct := N, bk := D.nx } σ2 H2) := by
  refine ⟨fun i m σ H => m = xs.length - i ∧ i ≤ xs.length ∧ Pv i σ H, ⟨xs.length, by simp, Nat.zero_le _, h0⟩, ?_⟩
  rintro i m σ H ⟨rfl, hi, p⟩
  have q := hl i σ H hi p
  by_cases hlt : i < xs.length
  · refine .inr ⟨⟨xs, xs[i], q, by simp [hlt]⟩, Pv (i + 1), fun σ' H' p' => ⟨xs.length - (i + 1), by omega, rfl, hlt, p'⟩, fun x H' y => ?_⟩
    obtain ⟨e, y⟩ := y
    subst e
    exact hs i x σ _ (y xs q) p
  · have e : i = xs.length := by omega
    subst e
    exact .inl ⟨⟨xs, q, Nat.le_refl _⟩, hd σ H p⟩
theorem for_range {lo : Int} {n : Nat} {g : TG} {tb : TS} {D : Ends} {σ : St} {H : Hp} (Pv : Nat → St → Hp → Prop) (h0 : Pv 0 σ H)
    (hs : ∀ i σ H, i < n → Pv i σ H → g (.int (lo + i)) σ H fun σ2 H2 => tb { D with nx := Pv (i + 1), ct := Pv (i + 1), bk := D.nx } σ2 H2) (hd : ∀ σ H, Pv n σ H → D.nx σ H) :
    ∃ W : Nat → Nat → St → Hp → Prop, (∃ m, W 0 m σ H) ∧ ∀ i m σ H, W i m σ H →
      ((Itr lo n).stop i H ∧ D.nx σ H) ∨ ((Itr lo n).go i H ∧ ∃ N : St → Hp → Prop, (∀ σ' H', N σ' H' → ∃ m', m' < m ∧ W (i + 1) m' σ' H') ∧ ∀ x H', (Itr lo n).yld i H x H' → g x σ H' fun σ2 H2 => tb { D with nx := N, ct := N, bk := D.nx } σ2 H2) := by
  refine ⟨fun i m σ H => m = n - i ∧ i ≤ n ∧ Pv i σ H, ⟨n, by simp, Nat.zero_le _, h0⟩, ?_⟩
  rintro i m σ H ⟨rfl, hi, p⟩
  by_cases hlt : i < n
  · refine .inr ⟨hlt, Pv (i + 1), fun σ' H' p' => ⟨n - (i + 1), by omega, rfl, hlt, p'⟩, fun x H' y => ?_⟩
    obtain ⟨e, y⟩ := y
    subst e y
    exact hs i σ _ hlt p
  · have e : i = n := by omega
    subst e
    exact .inl ⟨Nat.le_refl _, hd σ H p⟩
end L2

namespace L2
open PySem PySem.Spec PyProof.Rows

noncomputable abbrev R2 := V → V → Hp → VK → Prop
noncomputable def OpR (X : Cx) (f : Value → Value → Sem Value) (r : R2) : Prop :=
  ∀ (pins : List (Addr × Obj)) (s : Shared) (σ : St) (H : Hp) (x y : V) (v u : Value) (Q : VK), Inv X pins σ H s → RelV x v → RelV y u → r x y H Q →
    wpAny (model X.prog X.w) X.A (f v u) (EP X pins σ Q) X.xe s
noncomputable def UnR (X : Cx) (f : Value → Sem Value) (r : V → Hp → VK → Prop) : Prop :=
  ∀ (pins : List (Addr × Obj)) (s : Shared) (σ : St) (H : Hp) (x : V) (v : Value) (Q : VK), Inv X pins σ H s → RelV x v → r x H Q →
    wpAny (model X.prog X.w) X.A (f v) (EP X pins σ Q) X.xe s
noncomputable def CallR (X : Cx) (f : Value) (r : List V → Hp → VK → Prop) : Prop :=
  ∀ (pins : List (Addr × Obj)) (s : Shared) (σ : St) (H : Hp) (xs : List V) (us : List Value) (Q : VK), Inv X pins σ H s → Vals xs us → r xs H Q →
    wpAny (model X.prog X.w) X.A (call f us) (EP X pins σ Q) X.xe s
noncomputable def tOp (r : R2) (ta tb : TE) : TE := fun σ H Q => ta σ H fun x H1 => tb σ H1 fun y H2 => r x y H2 Q
noncomputable def tUn (r : V → Hp → VK → Prop) (ta : TE) : TE := fun σ H Q => ta σ H fun x H1 => r x H1 Q
noncomputable def rI (C : Int → Int → Prop) (g : Int → Int → V) : R2 := fun x y H Q => ∃ i j, x = .int i ∧ y = .int j ∧ C i j ∧ Q (g i j) H
noncomputable def rI0 (g : Int → Int → V) : R2 := fun x y H Q => ∃ i j, x = .int i ∧ y = .int j ∧ Q (g i j) H
noncomputable def rU (g : Int → V) : V → Hp → VK → Prop := fun x H Q => ∃ i, x = .int i ∧ Q (g i) H

section
variable {X : Cx} {a b c : Expr} {ta tb tc : TE} {pos : Pos}

theorem binT (ha : PE X a ta) (hb : PE X b tb) {pins : List (Addr × Obj)} {s : Shared} {σ : St} {H : Hp} {R : V → V → Hp → Prop} (I : Inv X pins σ H s)
    (h : ta σ H fun x H1 => tb σ H1 fun y H2 => R x y H2) {Q : Value → Shared → Prop} {f : Value → Value → Sem Value}
    (hf : ∀ v u s2 x y H2, Inv X pins σ H2 s2 → RelV x v → RelV y u → R x y H2 → wpAny (model X.prog X.w) X.A (f v u) Q X.xe s2) :
    wpAny (model X.prog X.w) X.A (eval a X.env) (fun v s₁ => wpAny (model X.prog X.w) X.A (eval b X.env) (fun u s₂ => wpAny (model X.prog X.w) X.A (f v u) Q X.xe s₂) X.xe s₁) X.xe s := by
  refine thn (ha pins s σ H _ I h) fun v s1 ⟨x, H1, I1, r1, q1⟩ => ?_
  refine thn (hb pins s1 σ H1 _ I1 q1) fun u s2 ⟨y, H2, I2, r2, q2⟩ => ?_
  exact hf v u s2 x y H2 I2 r1 r2 q2

theorem pe_op {op : Operator} {r : R2} (ho : OpR X (binaryOp op) r) (ha : PE X a ta) (hb : PE X b tb) : PE X (.BinOp a op b pos) (tOp r ta tb) := by
  intro pins s σ H Q I h
  exact wpAny_BinOp (binT ha hb I h fun v u s2 x y H2 I2 rx ry q => ho pins s2 σ H2 x y v u Q I2 rx ry q)
theorem pe_un {op : UnaryOp} {r : V → Hp → VK → Prop} (ho : UnR X (unaryOp op) r) (ha : PE X a ta) : PE X (.UnaryOp op a pos) (tUn r ta) := by
  intro pins s σ H Q I h
  exact UnaryOp_ (thn (ha pins s σ H _ I h) fun v s1 ⟨x, H1, I1, r1, q1⟩ => ho pins s1 σ H1 x v Q I1 r1 q1)
theorem opI {f : Value → Value → Sem Value} {C : Int → Int → Prop} {g : Int → Int → Int}
    (rule : ∀ (i j : Int) (t u : Tok) (s : Shared) (Q : Value → Shared → Prop) (E : Value → Shared → Prop), C i j → Q (.int (g i j) s.toks) { s with toks := s.toks + 1 } → wpAny (model X.prog X.w) X.A (f (.int i t) (.int j u)) Q E s) :
    OpR X f (rI C fun i j => .int (g i j)) := by
  intro pins s σ H x y v u Q I rx ry h
  obtain ⟨i, j, rfl, rfl, hc, q⟩ := h
  obtain ⟨t, rfl⟩ := rx
  obtain ⟨t', rfl⟩ := ry
  exact rule i j t t' s _ _ hc ⟨.int (g i j), H, I.tok _, ⟨_, rfl⟩, q⟩
theorem opI0 {f : Value → Value → Sem Value} {g : Int → Int → Int}
    (rule : ∀ (i j : Int) (t u : Tok) (s : Shared) (Q : Value → Shared → Prop) (E : Value → Shared → Prop), Q (.int (g i j) s.toks) { s with toks := s.toks + 1 } → wpAny (model X.prog X.w) X.A (f (.int i t) (.int j u)) Q E s) :
    OpR X f (rI0 fun i j => .int (g i j)) := by
  intro pins s σ H x y v u Q I rx ry h
  obtain ⟨i, j, rfl, rfl, q⟩ := h
  obtain ⟨t, rfl⟩ := rx
  obtain ⟨t', rfl⟩ := ry
  exact rule i j t t' s _ _ ⟨.int (g i j), H, I.tok _, ⟨_, rfl⟩, q⟩
theorem opB0 {f : Value → Value → Sem Value} {g : Int → Int → Bool}
    (rule : ∀ (i j : Int) (t u : Tok) (s : Shared) (Q : Value → Shared → Prop) (E : Value → Shared → Prop), Q (.bool (g i j)) s → wpAny (model X.prog X.w) X.A (f (.int i t) (.int j u)) Q E s) :
    OpR X f (rI0 fun i j => .bl (g i j)) := by
  intro pins s σ H x y v u Q I rx ry h
  obtain ⟨i, j, rfl, rfl, q⟩ := h
  obtain ⟨t, rfl⟩ := rx
  obtain ⟨t', rfl⟩ := ry
  exact rule i j t t' s _ _ ⟨.bl (g i j), H, I, rfl, q⟩

noncomputable def CDiv (i j : Int) : Prop := 0 < j ∧ j < 1073741824
noncomputable def CPow (i j : Int) : Prop := 0 ≤ j ∧ j ≤ 1000000 ∧ i.natAbs < 2 ^ 64
noncomputable def CMul (i j : Int) : Prop := (-(2 ^ 64) < i ∧ i < 2 ^ 64) ∨ (-(2 ^ 64) < j ∧ j < 2 ^ 64)
theorem CMul.ok {i j : Int} (h : CMul i j) : IntMulOk i j := by
  rcases h with ⟨h1, h2⟩ | ⟨h1, h2⟩
  · exact .of_left (intBits_le_64 h1 h2)
  · exact .of_right (intBits_le_64 h1 h2)
theorem op_add : OpR X (binaryOp .Add) (rI0 fun i j => .int (i + j)) := opI0 fun _ _ _ _ _ _ _ q => add_int q
theorem op_sub : OpR X (binaryOp .Sub) (rI0 fun i j => .int (i - j)) := opI0 fun _ _ _ _ _ _ _ q => sub_int q
theorem op_mul : OpR X (binaryOp .Mult) (rI CMul fun i j => .int (i * j)) := opI fun _ _ _ _ _ _ _ hc q => mul_int q hc.ok
theorem op_mod : OpR X (binaryOp .Mod) (rI (fun _ j => 0 < j) fun i j => .int (i % j)) := opI fun i j _ _ _ _ _ hc q => by
  have h1 : (0 : Int) < j := hc
  exact mod_int' (by omega) (by rw [Int.fmod_eq_emod_of_nonneg i (by omega)]; exact q)
theorem op_pow : OpR X (binaryOp .Pow) (rI CPow fun i j => .int (i ^ j.toNat)) := opI fun _ _ _ _ _ _ _ hc q => pow_int_small hc.1 hc.2.1 hc.2.2 q
theorem iop_add : OpR X (inplaceOp .Add) (rI0 fun i j => .int (i + j)) := opI0 fun _ _ _ _ _ _ _ q => iadd_int q
theorem unI {f : Value → Sem Value} {g : Int → Int}
    (rule : ∀ (i : Int) (t : Tok) (s : Shared) (Q : Value → Shared → Prop) (E : Value → Shared → Prop), Q (.int (g i) s.toks) { s with toks := s.toks + 1 } → wpAny (model X.prog X.w) X.A (f (.int i t)) Q E s) :
    UnR X f (rU fun i => .int (g i)) := by
  intro pins s σ H x v Q I rx h
  obtain ⟨i, rfl, q⟩ := h
  obtain ⟨t, rfl⟩ := rx
  exact rule i t s _ _ ⟨.int (g i), H, I.tok _, ⟨_, rfl⟩, q⟩
theorem un_neg : UnR X (unaryOp .USub) (rU fun i => .int (-i)) := unI fun _ _ _ _ _ q => neg_int q
end

noncomputable def scal : V → V → Bool
  | .non, .non => true | .non, .int _ => true | .int _, .non => true | .non, .bl _ => true | .bl _, .non => true | .non, .str _ => true | .str _, .non => true
  | .int _, .int _ => true | .bl _, .bl _ => true | .str _, .str _ => true | .byt _, .byt _ => true
  | .int _, .str _ => true | .str _, .int _ => true | .bl _, .str _ => true | .str _, .bl _ => true
  | _, _ => false
noncomputable def rEq : R2 := fun x y H Q => scal x y = true ∧ Q (.bl (decide (x = y))) H
noncomputable def rNe : R2 := fun x y H Q => scal x y = true ∧ Q (.bl (!decide (x = y))) H

theorem dec_int {i j : Int} : decide (V.int i = V.int j) = (i == j) := by
  rw [Bool.eq_iff_iff]
  simp
theorem dec_bl {i j : Bool} : decide (V.bl i = V.bl j) = (i == j) := by
  rw [Bool.eq_iff_iff]
  simp
theorem dec_str {i j : Str} : decide (V.str i = V.str j) = (i == j) := by
  rw [Bool.eq_iff_iff]
  simp
theorem dec_byt {i j : Array UInt8} : decide (V.byt i = V.byt j) = (i.toList == j.toList) := by
  rw [Bool.eq_iff_iff]
  cases i
  cases j
  simp

section
variable {X : Cx} {a b c : Expr} {ta tb tc : TE} {pos : Pos}
theorem fin_bl {pins : List (Addr × Obj)} {σ : St} {H : Hp} {s : Shared} {Q : VK} {k k' : Bool} (I : Inv X pins σ H s) (q : Q (.bl k) H) (e : k = k') : EP X pins σ Q (.bool k') s := by
  subst e
  exact ⟨.bl k, H, I, rfl, q⟩
theorem op_eq : OpR X (compareOp .Eq) rEq := by
  intro pins s σ H x y v u Q I rx ry h
  obtain ⟨hs, q⟩ := h
  cases x with
  | non =>
    cases rx
    cases y with
    | non => cases ry; exact PySem.EqNone.eq_none_none (fin_bl I q (by simp))
    | bl j => cases ry; exact PySem.EqNone.eq_none_bool (fin_bl I q (by simp))
    | int j => obtain ⟨t', rfl⟩ := ry; exact PySem.EqNone.eq_none_int (fin_bl I q (by simp))
    | str j => obtain ⟨t', rfl⟩ := ry; exact PySem.EqNone.eq_none_str (fin_bl I q (by simp))
    | _ => exact absurd (show false = true from hs) Bool.false_ne_true
  | bl i =>
    cases rx
    cases y with
    | non => cases ry; exact PySem.EqNone.eq_bool_none (fin_bl I q (by simp))
    | bl j => cases ry; exact eq_bool (fin_bl I q dec_bl)
    | str j => obtain ⟨t', rfl⟩ := ry; exact PySem.EqMixed.eq_bool_str (fin_bl I q (by simp))
    | _ => exact absurd (show false = true from hs) Bool.false_ne_true
  | int i =>
    obtain ⟨t, rfl⟩ := rx
    cases y with
    | non => cases ry; exact PySem.EqNone.eq_int_none (fin_bl I q (by simp))
    | int j => obtain ⟨t', rfl⟩ := ry; exact eq_int (fin_bl I q dec_int)
    | str j => obtain ⟨t', rfl⟩ := ry; exact PySem.EqMixed.eq_int_str (fin_bl I q (by simp))
    | _ => exact absurd (show false = true from hs) Bool.false_ne_true
  | str i =>
    obtain ⟨t, rfl⟩ := rx
    cases y with
    | non => cases ry; exact PySem.EqNone.eq_str_none (fin_bl I q (by simp))
    | bl j => cases ry; exact PySem.EqMixed.eq_str_bool (fin_bl I q (by simp))
    | int j => obtain ⟨t', rfl⟩ := ry; exact PySem.EqMixed.eq_str_int (fin_bl I q (by simp))
    | str j => obtain ⟨t', rfl⟩ := ry; exact eq_str (fin_bl I q dec_str)
    | _ => exact absurd (show false = true from hs) Bool.false_ne_true
  | byt i =>
    obtain ⟨t, rfl⟩ := rx
    cases y with
    | byt j => obtain ⟨t', rfl⟩ := ry; exact PySem.W.eq_bytes (fin_bl I q dec_byt)
    | _ => exact absurd (show false = true from hs) Bool.false_ne_true
  | _ => cases y <;> exact absurd (show false = true from hs) Bool.false_ne_true
theorem op_ne : OpR X (compareOp .NotEq) rNe := by
  intro pins s σ H x y v u Q I rx ry h
  obtain ⟨hs, q⟩ := h
  cases x with
  | non =>
    cases rx
    cases y with
    | non => cases ry; exact PySem.EqNone.ne_none_none (fin_bl I q (by simp))
    | bl j => cases ry; exact PySem.EqNone.ne_none_bool (fin_bl I q (by simp))
    | int j => obtain ⟨t', rfl⟩ := ry; exact PySem.EqNone.ne_none_int (fin_bl I q (by simp))
    | str j => obtain ⟨t', rfl⟩ := ry; exact PySem.EqNone.ne_none_str (fin_bl I q (by simp))
    | _ => exact absurd (show false = true from hs) Bool.false_ne_true
  | bl i =>
    cases rx
    cases y with
    | non => cases ry; exact PySem.EqNone.ne_bool_none (fin_bl I q (by simp))
    | bl j => cases ry; exact ne_bool (fin_bl I q (congrArg not dec_bl))
    | str j => obtain ⟨t', rfl⟩ := ry; exact PySem.EqMixed.ne_bool_str (fin_bl I q (by simp))
    | _ => exact absurd (show false = true from hs) Bool.false_ne_true
  | int i =>
    obtain ⟨t, rfl⟩ := rx
    cases y with
    | non => cases ry; exact PySem.EqNone.ne_int_none (fin_bl I q (by simp))
    | int j => obtain ⟨t', rfl⟩ := ry; exact ne_int (fin_bl I q (congrArg not dec_int))
    | str j => obtain ⟨t', rfl⟩ := ry; exact PySem.EqMixed.ne_int_str (fin_bl I q (by simp))
    | _ => exact absurd (show false = true from hs) Bool.false_ne_true
  | str i =>
    obtain ⟨t, rfl⟩ := rx
    cases y with
    | non => cases ry; exact PySem.EqNone.ne_str_none (fin_bl I q (by simp))
    | bl j => cases ry; exact PySem.EqMixed.ne_str_bool (fin_bl I q (by simp))
    | int j => obtain ⟨t', rfl⟩ := ry; exact PySem.EqMixed.ne_str_int (fin_bl I q (by simp))
    | str j => obtain ⟨t', rfl⟩ := ry; exact ne_str (fin_bl I q (congrArg not dec_str))
    | _ => exact absurd (show false = true from hs) Bool.false_ne_true
  | byt i =>
    obtain ⟨t, rfl⟩ := rx
    cases y with
    | byt j => obtain ⟨t', rfl⟩ := ry; exact PySem.W.ne_bytes (fin_bl I q (congrArg not dec_byt))
    | _ => exact absurd (show false = true from hs) Bool.false_ne_true
  | _ => cases y <;> exact absurd (show false = true from hs) Bool.false_ne_true

theorem op_lt : OpR X (compareOp .Lt) (rI0 fun i j => .bl (decide (i < j))) := opB0 fun _ _ _ _ _ _ _ q => lt_int q
theorem op_gt : OpR X (compareOp .Gt) (rI0 fun i j => .bl (decide (j < i))) := opB0 fun _ _ _ _ _ _ _ q => gt_int q
theorem op_ge : OpR X (compareOp .GtE) (rI0 fun i j => .bl (decide (j ≤ i))) := opB0 fun _ _ _ _ _ _ _ q => ge_int q
theorem op_isN : OpR X (compareOp .Is) (fun x y H Q => y = .non ∧ Q (.bl (decide (x = .non))) H) := by
  intro pins s σ H x y v u Q I rx ry h
  obtain ⟨rfl, q⟩ := h
  cases ry
  refine is_none_gen (fin_bl I q ?_)
  cases x <;> first
    | (cases rx; rfl)
    | (obtain ⟨t, rfl⟩ := rx; rfl)
theorem op_notN : OpR X (compareOp .IsNot) (fun x y H Q => y = .non ∧ Q (.bl (!decide (x = .non))) H) := by
  intro pins s σ H x y v u Q I rx ry h
  obtain ⟨rfl, q⟩ := h
  cases ry
  refine isnot_none_gen (fin_bl I q ?_)
  cases x <;> first
    | (cases rx; rfl)
    | (obtain ⟨t, rfl⟩ := rx; rfl)

theorem nomark (b : Expr) {op : CmpOp} (h : op ≠ .In := by decide) (h2 : op ≠ .NotIn := by decide) : behindInMarks op b = false := by
  have e1 : (op == CmpOp.In) = false := by cases op <;> first | rfl | exact absurd rfl h
  have e2 : (op == CmpOp.NotIn) = false := by cases op <;> first | rfl | exact absurd rfl h2
  cases b <;> simp [behindInMarks, e1, e2]
theorem pe_cmpR {op : CmpOp} {r : R2} (ho : OpR X (compareOp op) r) (ha : PE X a ta) (hb : PE X b tb) (hm : behindInMarks op b = false) : PE X (.Compare a [op] [b] pos) (tOp r ta tb) := by
  intro pins s σ H Q I h
  exact wpAny_Compare1 (binT ha hb I h fun v u s2 x y H2 I2 rx ry q => ho pins s2 σ H2 x y v u Q I2 rx ry q) hm
noncomputable def tTest (t : TE) : TT := fun σ H Q => t σ H fun x H' => ∃ k, x = .bl k ∧ Q k H'
theorem pt_cmpR {op : CmpOp} {r : R2} (ho : OpR X (compareOp op) r) (ha : PE X a ta) (hb : PE X b tb) (hm : behindInMarks op b = false) : PT X (.Compare a [op] [b] pos) (tTest (tOp r ta tb)) := by
  intro pins s σ H Q I h
  refine wpAny_isTrue_Compare1 (thn (ha pins s σ H _ I h) fun v s1 ⟨x, H1, I1, r1, q1⟩ => thn (hb pins s1 σ H1 _ I1 q1) fun u s2 ⟨y, H2, I2, r2, q2⟩ =>
    thn (ho pins s2 σ H2 x y v u _ I2 r1 r2 q2) fun c s3 ⟨z, H3, I3, r3, k, e, q3⟩ => ?_) hm
  subst e
  cases r3
  exact wpAny_truthy_bool ⟨H3, I3, q3⟩
noncomputable def tChain (r r' : R2) (ta tb tc : TE) : TE := fun σ H Q => ta σ H fun x H1 => tb σ H1 fun y H2 => r x y H2 fun z H3 => ∃ k, z = .bl k ∧
  (if k = true then tc σ H3 fun w' H4 => r' y w' H4 Q else Q (.bl false) H3)
noncomputable def TruV (K : PySem.W.Frag) (x : V) (H : Hp) (k : Bool) : Prop :=
  match x with
  | .non => k = false
  | .bl b => k = b
  | .int i => k = (i != 0)
  | .str y => y.length ≤ sizeLine ∧ k = ((y.length : Int) != 0)
  | .byt y => y.size ≤ sizeLine ∧ k = ((y.size : Int) != 0)
  | .ref p => (∃ xs, SqL K H p xs ∧ k = !xs.isEmpty) ∨ (∃ xs, SqT K H p xs ∧ k = !xs.isEmpty) ∨ ∃ kvs, H p = some (.dK kvs) ∧ k = !kvs.isEmpty
  | _ => False
theorem line63 : (sizeLine : Nat) < 2 ^ 63 := by rw [sizeLine_eq]; decide
theorem vals1 {x : V} {us : List Value} (r : Vals [x] us) : ∃ u, us = [u] ∧ RelV x u := by
  cases r with
  | cons r1 r2 => cases r2; exact ⟨_, rfl, r1⟩
theorem vals2 {x y : V} {us : List Value} (r : Vals [x, y] us) : ∃ u w', us = [u, w'] ∧ RelV x u ∧ RelV y w' := by
  cases r with
  | cons r1 r2 =>
    cases r2 with
    | cons r3 r4 => cases r4; exact ⟨_, _, rfl, r1, r3⟩
theorem call_abs : CallR X (.builtin "abs") (fun xs H Q => ∃ i, xs = [.int i] ∧ Q (.int (if i < 0 then -i else i)) H) := by
  intro pins s σ H xs us Q I r h
  obtain ⟨i, rfl, q⟩ := h
  obtain ⟨u, rfl, t, rfl⟩ := vals1 r
  exact call_abs_int fun u tk => ⟨.int (if i < 0 then -i else i), H, I.tok _, ⟨_, rfl⟩, q⟩
theorem call_min2 (hc : X.calm = true) : CallR X (.builtin "min") (fun xs H Q => ∃ i j, xs = [.int i, .int j] ∧ Q (.int (if j < i then j else i)) H) := by
  intro pins s σ H xs us Q I r h
  obtain ⟨i, j, rfl, q⟩ := h
  obtain ⟨u, w', rfl, ⟨t, rfl⟩, ⟨t', rfl⟩⟩ := vals2 r
  refine min_two_ints (I.ok.hd hc) fun h' tk k => ⟨_, H, I.kept k, ?_, q⟩
  by_cases hj : j < i
  · rw [if_pos hj, if_pos hj]; exact ⟨_, rfl⟩
  · rw [if_neg hj, if_neg hj]; exact ⟨_, rfl⟩
theorem call_int1 : CallR X (.type "int") (fun xs H Q => (∃ i, xs = [.int i] ∧ Q (.int i) H) ∨ ∃ k, xs = [.bl k] ∧ Q (.int (if k then 1 else 0)) H) := by
  intro pins s σ H xs us Q I r h
  rcases h with ⟨i, rfl, q⟩ | ⟨k, rfl, q⟩
  · obtain ⟨u, rfl, t, rfl⟩ := vals1 r
    exact call_int_int ⟨.int i, H, I, ⟨_, rfl⟩, q⟩
  · obtain ⟨u, rfl, r1⟩ := vals1 r
    cases r1
    exact call_int_bool ⟨.int (if k then 1 else 0), H, I.tok _, ⟨_, rfl⟩, q⟩
end
end L2

namespace L2
open PySem PySem.Spec PyProof.Rows

structure ObjM (h : Heap) (x dx C : Addr) (mA : Str → Option Value) : Prop where
  obj : h.get? x = some (PySem.W.instObj C dx)
  ns : h.Ns1 dx mA
  ne : dx ≠ x

theorem lookIn_ns {h : Heap} {dx : Addr} {mA : Str → Option Value} (n : h.Ns1 dx mA) : ∃ od, h.get? dx = some od ∧ ∀ name, PySem.W.lookIn name od = some (mA name) := by
  obtain ⟨o, es, ep, ho, hd, hk, _, hm⟩ := n
  refine ⟨o, ho, fun name => ?_⟩
  have e := hm name
  unfold nsFind findBy at e
  rw [← Array.find?_toList] at e
  unfold PySem.W.lookIn
  rw [hd]
  dsimp only
  split
  · rename_i y q
    rw [q] at e
    exact congrArg some e
  · rename_i q
    rw [q] at e
    have a : es.toList.any (·.refKey) = false := by
      rw [List.any_eq_false]
      intro y hy
      obtain ⟨z, t, hkey⟩ := hk y (Array.mem_toList_iff.mp hy)
      simp [DictEntry.refKey, hkey]
    have a' : ¬ es.toList.any (·.refKey) = true := by rw [a]; exact Bool.false_ne_true
    rw [if_neg a']
    exact congrArg some e

theorem ObjM.look {h : Heap} {x dx C : Addr} {mA : Str → Option Value} (I : ObjM h x dx C mA) : ∃ od, PySem.W.InstAt h x (PySem.W.instObj C dx) C (some od) ∧ ∀ name, PySem.W.lookIn name od = some (mA name) :=
  let ⟨od, ho, hl⟩ := lookIn_ns I.ns
  ⟨od, ⟨I.obj, rfl, rfl, ho⟩, hl⟩

section
variable {prog : Program} {w : World} {A : Around} {E : Value → Shared → Prop} {s : Shared} {K : PySem.W.Frag} {x dx C f : Addr} {mA : Str → Option Value} {name : Str} {v : Value}

theorem get_map {expr : Bool} {Q : Value → Shared → Prop} (X : K.In s.heap) (I : ObjM s.heap x dx C mA) (hg : PySem.W.plainGet K C name = true) (hh : PySem.W.hasDictIn K C = true)
    (ha : PySem.W.findIn K (.ref C) name = some none) (hv : mA name = some v) (hv' : PySem.W.handedIn v = true) (h : Q v { s with toks := s.toks + 1 }) :
    wpAny (model prog w) A (getAttr (.ref x) name expr) Q E s := by
  obtain ⟨od, J, hl⟩ := I.look
  exact PySem.W.get_value X J (PySem.W.plainGet_of hg).1 (PySem.W.findObj_own hh ha rfl (by rw [hl, hv])) hv' h

theorem get_meth {pl : Sem Bool} {Q : Value × List Value → Shared → Prop} (X : K.In s.heap) (I : ObjM s.heap x dx C mA) (hg : PySem.W.plainGet K C name = true)
    (hf : PySem.W.findIn K (.ref C) name = some (some (.ref f))) (ht : PySem.W.isFn K (.ref f) = true) (hv : mA name = none) (h : Q (.ref f, [.ref x]) s) :
    wpAny (model prog w) A (getMethod (.ref x) name pl) Q E s := by
  obtain ⟨od, J, hl⟩ := I.look
  exact PySem.W.method_fn X J (PySem.W.plainGet_of hg).1 (PySem.W.plainGet_of hg).2 hf (beq_iff_eq.mp ht) (by show (PySem.W.lookIn name od).map (·.isSome) = some false; rw [hl, hv]; rfl) h

theorem set_map {ns : List Str} {Q : Unit → Shared → Prop} (X : K.In s.heap) (I : ObjM s.heap x dx C mA)
    (hs : PySem.W.findIn K (.ref C) "__setattr__" = some (some (.builtin "object.__setattr__"))) (hp : PySem.W.plainOver K C = true) (ht : PySem.W.takerIn K C name = some none) (hh : PySem.W.hasDictIn K C = true)
    (hw : PySem.Within mA ns) (hsz : ns.length ≤ sizeLine)
    (h : ∀ h', ObjM h' x dx C (fun y => if y = name then some v else mA y) → Heap.SameBut dx s.heap h' → Q () { s with heap := h', toks := s.toks + 2 }) :
    wpAny (model prog w) A (setAttr (.ref x) name v) Q E s := by
  obtain ⟨od, J, hl⟩ := I.look
  refine PySem.W.set_plain X J hs (PySem.W.osa_open (s := { s with toks := s.toks + 1 }) (r := none) X J hp ht fun b => ?_)
  obtain ⟨cd, hc, hd'⟩ := PySem.W.any_some hh
  have hx : s.heap.get? x = some ⟨.ref C, some dx, .plain, #[]⟩ := I.obj
  refine wpAny_bind (wpAny_pure (wpAny_bind (wpAny_bind (wpAny_loadPart hx (wpAny_bind (PySem.W.Looks.here (s := { s with toks := s.toks + 1 }) (PySem.W.looks_clsIn X hc) ?_))))))
  rw [hd']
  refine wpAny_pure (a := some dx) (wpAny_bind (wpAny_pure (wpAny_bind ?_)))
  refine wpAny_nsSet1 (s := { s with toks := s.toks + 1 }) I.ns fun h' hn2 hs2 => ?_
  obtain ⟨oD, esD, epD, hoD, hdD, hcD⟩ := hn2.count (PySem.Within.cons name v hw)
  refine wpAny_bind (wpAny_lookBehind hoD (by rw [hdD]; exact pastItsLine_dict (Nat.le_trans hcD (by rw [List.length_cons]; omega))) ?_)
  exact wpAny_pure (h _ ⟨(hs2.2 _ (Ne.symm I.ne)).trans I.obj, hn2, I.ne⟩ hs2)

theorem make_map {R : Result → Shared → Prop} {vs : List Value} {kw : List (Str × Value)} (X : K.In s.heap) (hm : PySem.W.makesIn K C = true)
    (hi : PySem.W.findIn K (.ref C) "__init__" = some (some (.ref f))) (hf : PySem.W.typeIn K (.ref f) = some (.type "function"))
    (h : codeAny (model prog w) (A.under (.builtin "type.__call__" ⟨.ref C :: vs, kw⟩)) (.call (.ref f) ⟨.ref (s.heap.objs.size + 1) :: vs, kw⟩) (PySem.W.InitBack (s.heap.objs.size + 1) R)
      { s with heap := (s.heap.push PySem.W.emptyDict).push (PySem.W.instObj C s.heap.objs.size) }) :
    codeAny (model prog w) A (.call (.ref C) ⟨vs, kw⟩) R s := by
  obtain ⟨hh, g, d, t, os⟩ := s
  exact PySem.W.make_core (PySem.W.makes_of X hm) (PySem.W.looks_findIn X hi) (fun self => PySem.W.bind_fn X self hf) (.inl rfl) h
end

noncomputable def putF (f : Str) (v : V) : List (Str × V) → List (Str × V)
  | [] => [(f, v)]
  | (g, x) :: r => if g = f then (g, v) :: r else (g, x) :: putF f v r
theorem lookup_putF (f g : Str) (v : V) : ∀ fs : List (Str × V), (putF f v fs).lookup g = if g = f then some v else fs.lookup g
  | [] => by
    show List.lookup g [(f, v)] = _
    by_cases h : g = f
    · have hb : (g == f) = true := beq_iff_eq.mpr h
      simp only [List.lookup, hb, if_pos h]
    · have hb : (g == f) = false := beq_eq_false_iff_ne.mpr h
      simp only [List.lookup, hb, if_neg h]
  | (k, x) :: r => by
    have ih := lookup_putF f g v r
    rw [show putF f v ((k, x) :: r) = (if k = f then (k, v) :: r else (k, x) :: putF f v r) from rfl]
    by_cases hk : k = f
    · rw [if_pos hk]
      by_cases h : g = k
      · have hb : (g == k) = true := beq_iff_eq.mpr h
        simp only [List.lookup, hb, if_pos (h.trans hk)]
      · have hb : (g == k) = false := beq_eq_false_iff_ne.mpr h
        simp only [List.lookup, hb, if_neg (fun e : g = f => h (e.trans hk.symm))]
    · rw [if_neg hk]
      by_cases h : g = k
      · have hb : (g == k) = true := beq_iff_eq.mpr h
        simp only [List.lookup, hb, if_neg (fun e : g = f => hk (h.symm.trans e))]
      · have hb : (g == k) = false := beq_eq_false_iff_ne.mpr h
        simp only [List.lookup, hb]
        exact ih
theorem keys_putF (f : Str) (v : V) : ∀ fs : List (Str × V), f ∈ (putF f v fs).map (·.1) ∧ ∀ g, g ∈ fs.map (·.1) → g ∈ (putF f v fs).map (·.1)
  | [] => ⟨by simp [putF], fun g h => by simp at h⟩
  | (k, x) :: r => by
    obtain ⟨i1, i2⟩ := keys_putF f v r
    rw [show putF f v ((k, x) :: r) = (if k = f then (k, v) :: r else (k, x) :: putF f v r) from rfl]
    by_cases hk : k = f
    · rw [if_pos hk]
      subst hk
      exact ⟨by simp, fun g h => by simpa using h⟩
    · rw [if_neg hk]
      refine ⟨?_, fun g h => ?_⟩
      · rw [List.map_cons]
        exact List.mem_cons_of_mem _ i1
      · rw [List.map_cons] at h ⊢
        rcases List.mem_cons.mp h with e | e
        · exact List.mem_cons.mpr (.inl e)
        · exact List.mem_cons_of_mem _ (i2 g e)
theorem length_putF (f : Str) (v : V) : ∀ fs : List (Str × V), (putF f v fs).length ≤ fs.length + 1
  | [] => by simp [putF]
  | (k, x) :: r => by
    have ih := length_putF f v r
    rw [show putF f v ((k, x) :: r) = (if k = f then (k, v) :: r else (k, x) :: putF f v r) from rfl]
    by_cases hk : k = f
    · rw [if_pos hk, List.length_cons, List.length_cons]; omega
    · rw [if_neg hk, List.length_cons, List.length_cons]; omega

theorem RelO.some_of {v : V} {o : Option Value} (r : RelO (some v) o) : ∃ u, o = some u ∧ RelV v u := by
  cases o with
  | none => exact (show False from r).elim
  | some u => exact ⟨u, rfl, r⟩
theorem RelO.none_of {o : Option Value} (r : RelO none o) : o = none := by
  cases o with
  | none => rfl
  | some u => exact (show False from r).elim
theorem handed_of {v : V} {u : Value} (r : RelV v u) : PySem.W.handedIn u = true := by
  cases v with
  | non => cases (show u = Value.none from r); rfl
  | bl b => cases (show u = Value.bool b from r); rfl
  | int i => obtain ⟨t, e⟩ := (show ∃ t, u = Value.int i t from r); cases e; rfl
  | str x => obtain ⟨t, e⟩ := (show ∃ t, u = Value.str x t from r); cases e; rfl
  | byt b => obtain ⟨t, e⟩ := (show ∃ t, u = Value.bytes b t from r); cases e; rfl
  | flt b => obtain ⟨t, e⟩ := (show ∃ t, u = Value.float b t from r); cases e; rfl
  | ref a => cases (show u = Value.ref a from r); rfl
  | ty n => cases (show u = Value.type n from r); rfl

section
variable {P : Program} {w : World} {H H' : Hp} {h h' : Heap} {a C dx : Addr} {fs fs' : List (Str × V)}
theorem ins_get (hok : HOk P w H h) (e : H a = some (.ins C dx fs)) : ∃ mA, ObjM h a dx C mA ∧ (∀ f, RelO (fs.lookup f) (mA f)) ∧ PySem.Within mA (fs.map (·.1)) ∧ fs.length ≤ 1000 ∧ H dx = some (.own a) := by
  obtain ⟨d, z, ne, ob, mA, n, r, q⟩ := (show ObjOk P w H h a (.ins C dx fs) from hok a _ e)
  exact ⟨mA, ⟨ob, n, ne⟩, r, q, z, d⟩
end

structure Cls (K : PySem.W.Frag) (C : Addr) : Prop where
  pg : PySem.W.plainGet K C Str.empty = true
  hd : PySem.W.hasDictIn K C = true
  po : PySem.W.plainOver K C = true
  sa : PySem.W.findIn K (.ref C) "__setattr__" = some (some (.builtin "object.__setattr__"))
theorem Cls.get {K : PySem.W.Frag} {C : Addr} (c : Cls K C) (f : Str) : PySem.W.plainGet K C f = true := c.pg
noncomputable def NoAttr (K : PySem.W.Frag) (C : Addr) (f : Str) : Prop := PySem.W.findIn K (.ref C) f = some none
theorem NoAttr.taker {K : PySem.W.Frag} {C : Addr} {f : Str} (n : NoAttr K C f) : PySem.W.takerIn K C f = some none := by
  unfold PySem.W.takerIn
  rw [show PySem.W.findIn K (.ref C) f = some none from n]
  rfl
structure Meth (K : PySem.W.Frag) (C : Addr) (m : Str) (f : Addr) : Prop where
  at_ : PySem.W.findIn K (.ref C) m = some (some (.ref f))
  fn : PySem.W.isFn K (.ref f) = true
  kp : PySem.W.keepIn K (.ref f) = true

section
variable {X : Cx} {pins : List (Addr × Obj)} {σ : St} {H : Hp} {s : Shared} {a C dx : Addr} {fs : List (Str × V)} {f : Str} {v : V} {A : Around} {E : Value → Shared → Prop}

theorem getattr_ok {b : Bool} {Q : Value → Shared → Prop} (I : Inv X pins σ H s) (e : H a = some (.ins C dx fs)) (c : Cls X.K C) (n : NoAttr X.K C f) (l : fs.lookup f = some v)
    (h : ∀ u s', Inv X pins σ H s' → RelV v u → Q u s') : wpAny (model X.prog X.w) A (getAttr (.ref a) f b) Q E s := by
  obtain ⟨mA, O, r, _, _, _⟩ := ins_get I.hok e
  obtain ⟨u, hu, ru⟩ := RelO.some_of (v := v) (o := mA f) (by rw [← l]; exact r f)
  exact get_map I.kIn O (c.get f) c.hd n hu (handed_of ru) (h u _ (I.tok _) ru)

theorem getmeth_ok {m : Str} {g : Addr} {pl : Sem Bool} {Q : Value × List Value → Shared → Prop} (I : Inv X pins σ H s) (e : H a = some (.ins C dx fs)) (c : Cls X.K C) (k : Meth X.K C m g) (l : fs.lookup m = none)
    (h : Q (.ref g, [.ref a]) s) : wpAny (model X.prog X.w) A (getMethod (.ref a) m pl) Q E s := by
  obtain ⟨mA, O, r, _, _, _⟩ := ins_get I.hok e
  have hn : mA m = none := RelO.none_of (by rw [← l]; exact r m)
  exact get_meth I.kIn O (c.get m) k.at_ k.fn hn h

theorem setattr_ok {y : V} {u : Value} {Q : Unit → Shared → Prop} (I : Inv X pins σ H s) (e : H a = some (.ins C dx fs)) (c : Cls X.K C) (n : NoAttr X.K C f) (hl : fs.length < 1000) (ry : RelV y u)
    (h : ∀ s', Inv X pins σ (upd H a (.ins C dx (putF f y fs))) s' → Q () s') : wpAny (model X.prog X.w) A (setAttr (.ref a) f u) Q E s := by
  obtain ⟨mA, O, r, wi, _, ho⟩ := ins_get I.hok e
  have hz : (fs.map (·.1)).length ≤ sizeLine := by rw [List.length_map, sizeLine_eq]; omega
  refine set_map I.kIn O c.sa c.po n.taker c.hd wi hz fun h' O' sb => h _ ?_
  have hd : ∃ o, h'.get? dx = some o := let ⟨o, _, _, e', _⟩ := O'.ns; ⟨o, e'⟩
  refine I.write (x := a) (e := dx) (by rw [e]; exact True.intro) (.inr ho) (fun b q hb z => (sb.2 b hb).trans z) hd ?_
  refine ⟨by rw [upd_ne O.ne]; exact ho, ?_, O.ne, O'.obj, _, O'.ns, fun g => ?_, fun g hg => ?_⟩
  · have := length_putF f y fs; omega
  · show RelO ((putF f y fs).lookup g) (if g = f then some u else mA g)
    rw [lookup_putF]
    by_cases q : g = f
    · rw [if_pos q, if_pos q]; exact ry
    · rw [if_neg q, if_neg q]; exact r g
  · by_cases q : g = f
    · rw [q]; exact (keys_putF f y fs).1
    · refine (keys_putF f y fs).2 g (wi g fun z => hg ?_)
      show (if g = f then some u else mA g) = none
      rw [if_neg q]; exact z

theorem Inv.made (I : Inv X pins σ H s) : Inv X pins σ (upd (upd H s.heap.objs.size (.own (s.heap.objs.size + 1))) (s.heap.objs.size + 1) (.ins C s.heap.objs.size []))
    { s with heap := (s.heap.push PySem.W.emptyDict).push (PySem.W.instObj C s.heap.objs.size) } := by
  have e1 : (s.heap.push PySem.W.emptyDict).get? s.heap.objs.size = some PySem.W.emptyDict := Heap.get?_push_size s.heap rfl
  have e2 : ((s.heap.push PySem.W.emptyDict).push (PySem.W.instObj C s.heap.objs.size)).get? (s.heap.objs.size + 1) = some (PySem.W.instObj C s.heap.objs.size) := by
    have := Heap.get?_push_size (s.heap.push PySem.W.emptyDict) (o := PySem.W.instObj C s.heap.objs.size) rfl
    rwa [Heap.size_push] at this
  have e3 : (s.heap.push PySem.W.emptyDict).Ns s.heap.objs.size (fun _ => none) := ⟨PySem.W.emptyDict, #[], _, e1, rfl, (fun e he => absurd he (by simp)), fun _ => rfl⟩
  have I1 := I.laid (a := s.heap.objs.size) (o := .own (s.heap.objs.size + 1)) (h' := s.heap.push PySem.W.emptyDict) (t' := s.toks) (fun b u q => Heap.get?_push_of_some _ q) (Nat.le_refl _) ⟨_, e1⟩
  refine I1.laid (a := s.heap.objs.size + 1) (o := .ins C s.heap.objs.size []) (t' := s.toks) (fun b u q => Heap.get?_push_of_some _ q) (Nat.le_of_eq (Heap.size_push _ _)) ?_
  have ne : s.heap.objs.size ≠ s.heap.objs.size + 1 := Nat.ne_of_lt (Nat.lt_succ_self _)
  refine ⟨by rw [upd_ne ne, upd_same], Nat.zero_le _, ne, e2, fun _ => none, (Heap.Ns1.of_empty e3).at fun o q => Heap.get?_push_of_some _ q, fun _ => True.intro, fun y hy => absurd rfl hy⟩

theorem attr_of {prog : Program} {w : World} {env : Env} {e : Expr} {f : Str} {pos : Pos} {s : Shared} {Q : Value → Shared → Prop} (hb : attributeBase e f env (eval e env) = eval e env)
    (h : wpAny (model prog w) A (eval e env) (fun o s₁ => wpAny (model prog w) A (getAttr o f true) Q E s₁) E s) : wpAny (model prog w) A (eval (.Attribute e f pos) env) Q E s :=
  Attribute_any_ h (by rw [arm_eval_Attribute, hb])
end

noncomputable def tFld (K : PySem.W.Frag) (ta : TE) (f : Str) : TE := fun σ H Q => ta σ H fun x H1 => ∃ a C dx fs v, x = .ref a ∧ H1 a = some (.ins C dx fs) ∧ Cls K C ∧ NoAttr K C f ∧ fs.lookup f = some v ∧ Q v H1
noncomputable def sFld (K : PySem.W.Frag) (ta tv : TE) (f : Str) : TS := fun D σ H => tv σ H fun y H1 => ta σ H1 fun x H2 => ∃ a C dx fs, x = .ref a ∧ H2 a = some (.ins C dx fs) ∧ Cls K C ∧ NoAttr K C f ∧ fs.length < 1000 ∧
  D.nx σ (upd H2 a (.ins C dx (putF f y fs)))
noncomputable def InOp (X : Cx) (op : Operator) (rd : V → V → Hp → VK → Prop) : Prop :=
  ∀ (pins : List (Addr × Obj)) (s : Shared) (σ : St) (H : Hp) (x y : V) (u v : Value) (Q : VK), Inv X pins σ H s → RelV x u → RelV y v → rd x y H Q → wpAny (model X.prog X.w) X.A (inplaceOp op u v) (EP X pins σ Q) X.xe s
noncomputable def sFldAug (K : PySem.W.Frag) (ta tv : TE) (rd : V → V → Hp → VK → Prop) (f : Str) : TS := fun D σ H => ta σ H fun x H1 => ∃ a C dx fs v, x = .ref a ∧ H1 a = some (.ins C dx fs) ∧ Cls K C ∧ NoAttr K C f ∧ fs.lookup f = some v ∧
  tv σ H1 fun y H2 => rd v y H2 fun z H3 => ∃ dx' fs', H3 a = some (.ins C dx' fs') ∧ fs'.length < 1000 ∧ D.nx σ (upd H3 a (.ins C dx' (putF f z fs')))

section
variable {X : Cx} {o e value : Expr} {f : Str} {pos pos' tpos : Pos} {ta tv : TE}
theorem pe_fld (he : PE X e ta) (hb : attributeBase e f X.env (eval e X.env) = eval e X.env) : PE X (.Attribute e f pos) (tFld X.K ta f) := by
  intro pins s σ H Q I h
  refine attr_of hb (thn (he pins s σ H _ I h) fun u s1 ⟨x, H1, I1, rx, a, C, dx, fs, v, ex, ea, c, n, l, q⟩ => ?_)
  subst ex
  obtain rfl : u = Value.ref a := rx
  exact getattr_ok I1 ea c n l fun u' s2 I2 ru => ⟨v, H1, I2, ru, q⟩
theorem ps_fld (ha : PE X o ta) (hv : PE X value tv) (hs : swapsWith value (some (.Attribute o f pos')) pos.line X.env = pure false) : PS X (.Assign [.Attribute o f pos'] value pos) (sFld X.K ta tv f) := by
  intro pins s σ H D I h
  refine plainObj_wpAny_Assign_Attribute (thn (hv pins s σ H _ I h) fun u s1 ⟨y, H1, I1, ry, q⟩ => thn (ha pins s1 σ H1 _ I1 q) fun ov s2 ⟨x, H2, I2, rx, a, C, dx, fs, ex, ea, c, n, l, q2⟩ => ?_) hs
  subst ex
  obtain rfl : ov = Value.ref a := rx
  exact setattr_ok I2 ea c n l ry fun s3 I3 => ⟨σ, _, I3, q2⟩
theorem ps_fldaug {op : Operator} {rd : V → V → Hp → VK → Prop} (ha : PE X o ta) (hv : PE X value tv) (hop : InOp X op rd) : PS X (.AugAssign (.Attribute o f tpos) op value pos) (sFldAug X.K ta tv rd f) := by
  intro pins s σ H D I h
  refine wpAny_AugAssign_AttributeAny (thn (ha pins s σ H _ I h) fun ov s1 ⟨x, H1, I1, rx, a, C, dx, fs, v, ex, ea, c, n, l, q⟩ => ?_)
  subst ex
  obtain rfl : ov = Value.ref a := rx
  refine getattr_ok I1 ea c n l fun u s2 I2 ru => thn (hv pins s2 σ H1 _ I2 q) fun w3 s3 ⟨y, H2, I3, ry, q3⟩ => thn (hop pins s3 σ H2 v y u w3 _ I3 ru ry q3) fun w4 s4 ⟨z, H3, I4, rz, dx', fs', ea', l', q4⟩ => ?_
  exact setattr_ok I4 ea' c n l' rz fun s5 I5 => ⟨σ, _, I5, q4⟩
end

section
variable {X : Cx} {pins : List (Addr × Obj)} {σ : St} {H : Hp} {s : Shared} {A : Around} {E : Value → Shared → Prop} {Q : Value → Shared → Prop} {c : Value} {b : Bool}
inductive TyOf (K : PySem.W.Frag) (H : Hp) : V → Value → Prop where
  | non : TyOf K H .non (.type "NoneType")
  | bl (x : Bool) : TyOf K H (.bl x) (.type "bool")
  | int (i : Int) : TyOf K H (.int i) (.type "int")
  | str (x : Str) : TyOf K H (.str x) (.type "str")
  | flt (x : UInt64) : TyOf K H (.flt x) (.type "float")
  | lst {a : Addr} {xs : List V} (e : H a = some (.lst xs)) : TyOf K H (.ref a) (.type "list")
  | frz {a : Addr} {o : Obj} {xs : List V} (e : H a = some (.frz o (.lst xs))) : TyOf K H (.ref a) (.type "list")
  | tup {a : Addr} {xs : List V} (e : H a = some (.tup xs)) : TyOf K H (.ref a) (.type "tuple")
  | dK {a : Addr} {kvs : List (Key × V)} (e : H a = some (.dK kvs)) : TyOf K H (.ref a) (.type "dict")
  | dT {a : Addr} {kvs : List (List Key × V)} (e : H a = some (.dT kvs)) : TyOf K H (.ref a) (.type "dict")
  | ins {a C dx : Addr} {fs : List (Str × V)} (e : H a = some (.ins C dx fs)) (cl : Cls K C) (ha : PySem.W.findIn K (.ref C) "__class__" = some (some (.builtin "object.__class__")))
      (hn : PySem.W.specialIn K (.builtin "object.__class__") "__get__" = some (some (.builtin "getset_descriptor.__get__"))) (htk : PySem.W.takesIn K (.builtin "object.__class__") = some true)
      (hm : PySem.W.mroIn K C (.type "object") = some true) : TyOf K H (.ref a) (.ref C)
theorem isinst_ok {x : V} {u t : Value} (I : Inv X pins σ H s) (rx : RelV x u) (ty : TyOf X.K H x t) (e : PySem.W.kitOne X.K t c = some b) (h : ∀ tk, Q (.bool b) { s with toks := tk }) :
    wpAny (model X.prog X.w) A (call (.builtin "isinstance") [u, c]) Q E s := by
  cases ty with
  | non => cases (show u = Value.none from rx); exact PySem.W.kia_one PySem.W.kitx_none I.kIn True.intro e (fun z => nomatch z) h
  | bl y => cases (show u = Value.bool y from rx); exact PySem.W.kia_one PySem.W.kitx_bool I.kIn True.intro e (fun z => nomatch z) h
  | int i => obtain ⟨t, q⟩ := (show ∃ t, u = Value.int i t from rx); cases q; exact PySem.W.kia_one PySem.W.kitx_int I.kIn True.intro e (fun z => nomatch z) h
  | str y => obtain ⟨t, q⟩ := (show ∃ t, u = Value.str y t from rx); cases q; exact PySem.W.kia_one PySem.W.kitx_str I.kIn True.intro e (fun z => nomatch z) h
  | flt y => obtain ⟨t, q⟩ := (show ∃ t, u = Value.float y t from rx); cases q; exact PySem.W.kia_one PySem.W.kitx_float I.kIn True.intro e (fun z => nomatch z) h
  | @lst a xs ea =>
    cases (show u = Value.ref a from rx)
    obtain ⟨_, _, n, _, h1⟩ := (show ObjOk X.prog X.w H s.heap a (.lst xs) from I.hok a _ ea)
    exact PySem.W.kia_one PySem.W.kitx_list I.kIn ⟨_, h1, rfl⟩ e (fun z => nomatch z) h
  | @frz a ob xs ea =>
    cases (show u = Value.ref a from rx)
    obtain ⟨_, _, _, n, _, h1⟩ := (show ObjOk X.prog X.w H s.heap a (.frz ob (.lst xs)) from I.hok a _ ea)
    exact PySem.W.kia_one PySem.W.kitx_list I.kIn ⟨_, h1, rfl⟩ e (fun z => nomatch z) h
  | @tup a xs ea =>
    cases (show u = Value.ref a from rx)
    obtain ⟨_, _, _, p⟩ := (show ObjOk X.prog X.w H s.heap a (.tup xs) from I.hok a _ ea)
    obtain ⟨o, h1, h2, _⟩ := p
    exact PySem.W.kia_one PySem.W.kitx_tuple I.kIn ⟨o, h1, h2⟩ e (fun z => nomatch z) h
  | @dK a kvs ea =>
    cases (show u = Value.ref a from rx)
    obtain ⟨_, _, vs, _, p⟩ := (show ObjOk X.prog X.w H s.heap a (.dK kvs) from I.hok a _ ea)
    obtain ⟨o, es, ep, h1, h2, _⟩ := p
    exact PySem.W.kia_one PySem.W.kitx_dict I.kIn ⟨o, h1, h2.1⟩ e (fun z => nomatch z) h
  | @dT a kvs ea =>
    cases (show u = Value.ref a from rx)
    obtain ⟨_, _, xs, _, o, es, ep, h1, h2, _⟩ := (show ObjOk X.prog X.w H s.heap a (.dT kvs) from I.hok a _ ea)
    exact PySem.W.kia_one PySem.W.kitx_dict I.kIn ⟨o, h1, h2.1⟩ e (fun z => nomatch z) h
  | @ins a C dx fs ea cl ha hn htk hm =>
    cases (show u = Value.ref a from rx)
    obtain ⟨mA, O, _⟩ := ins_get I.hok ea
    obtain ⟨od, J, _⟩ := O.look
    exact PySem.W.kia_one (PySem.W.kitx_own (cl.get _) cl.hd ha hn htk hm) I.kIn J e (fun z => nomatch z) h
end
end L2

namespace L2
open PySem PySem.Spec PyProof.Rows

structure Room (k : Nat) (A : Around) : Prop where
  hd : A.handled = none
  dp : A.depth + 3 * k + 5 < recursionLimit
  un : A.units + 16 * k + 200 < cLine
  gd : A.guards = some []
theorem Room.mono {j k : Nat} {A : Around} (r : Room k A) (h : j ≤ k) : Room j A := ⟨r.hd, by have := r.dp; omega, by have := r.un; omega, r.gd⟩
theorem Room.deeper {k : Nat} {A : Around} (r : Room (k + 1) A) (env : Env) : Room k (A.deeper env) :=
  ⟨r.hd, by have := r.dp; show A.depth + 1 + 3 * k + 5 < _; omega, by have := r.un; show A.units + 3 + 16 * k + 200 < _; omega, r.gd⟩
theorem make_depth {A : Around} {C : Addr} {us : List Value} {kw : List (Str × Value)} : (A.under (.builtin "type.__call__" ⟨.ref C :: us, kw⟩)).depth = A.depth + 1 := by
  first | rfl | simp [Around.under, Code.weight, Code.isCreation, Code.isGuard, Code.isCaller, Code.frames, Code.isFrame, guardIds]
theorem make_units {A : Around} {C : Addr} {us : List Value} {kw : List (Str × Value)} : (A.under (.builtin "type.__call__" ⟨.ref C :: us, kw⟩)).units = A.units + 1 := by
  first | rfl | simp [Around.under, Code.cUnits, Code.frames, Code.isFrame]
theorem Room.make {k : Nat} {A : Around} (r : Room (k + 1) A) (C : Addr) (us : List Value) (kw : List (Str × Value)) : Room k (A.under (.builtin "type.__call__" ⟨.ref C :: us, kw⟩)) :=
  ⟨r.hd, by have := r.dp; rw [make_depth]; omega, by have := r.un; rw [make_units]; omega, by first | exact r.gd | (simp [Around.under, Code.guards, Code.isGuard, guardIds, pushGuards, r.gd])⟩
theorem Room.depth {k : Nat} {A : Around} (r : Room k A) : A.depth < recursionLimit := by have := r.dp; omega
theorem Room.units {k : Nat} {A : Around} (r : Room k A) : A.units + 64 < cLine := by have := r.un; omega
noncomputable def tNil : TA := fun _ H Q => Q [] H
noncomputable def tCons (ta : TE) (tr : TA) : TA := fun σ H Q => ta σ H fun x H1 => tr σ H1 fun xs H2 => Q (x :: xs) H2
section
variable {X : Cx} {e : Expr} {es : List Expr} {te : TE} {t : TA} {pos : Pos}
theorem pa_nil : PA X [] tNil := fun _ _ _ _ H Q I h => Calls.spliced_nil ⟨[], H, I, .nil, h⟩
theorem pa_cons (ha : PE X e te) (hr : PA X es t) (hs : starEach (e :: es) X.env = (false, eval e X.env) :: starEach es X.env := by rfl) : PA X (e :: es) (tCons te t) := by
  intro pos pins s σ H Q I h
  rw [hs]
  show wpAny _ _ (spliced ((false, eval e X.env) :: backTo pos (starEach es X.env))) _ _ s
  refine Calls.spliced_cons (thn (ha pins s σ H _ I h) fun u s1 ⟨x, H1, I1, r1, q1⟩ => ?_)
  exact thn (hr pos pins s1 σ H1 _ I1 q1) fun us s2 ⟨xs, H2, I2, r2, q2⟩ => ⟨x :: xs, H2, I2, .cons r1 r2, q2⟩

noncomputable def tTup (t : TA) : TE := fun σ H Q => t σ H fun xs H1 => xs.length ≤ sizeLine ∧ ∀ p, H1 p = none → Q (.ref p) (upd H1 p (.tup xs))
noncomputable def tLst (t : TA) : TE := fun σ H Q => t σ H fun xs H1 => xs.length ≤ sizeLine ∧ ∀ p, H1 p = none → Q (.ref p) (upd H1 p (.lst xs))
theorem pe_tup {x1} (h : PA X es t) : PE X (.Tuple es x1 pos) (tTup t) := by
  intro pins s σ H Q I hq
  refine wpAny_Tuple_spliced (thn (h pos pins s σ H _ I hq) fun us s1 ⟨xs, H1, I1, r, z, q⟩ => ⟨by rw [← r.length]; exact z, ?_⟩)
  have hf : H1 s1.heap.objs.size = none := I1.hok.fresh (Nat.le_refl _)
  refine ⟨.ref s1.heap.objs.size, upd H1 s1.heap.objs.size (.tup xs), I1.laid (t' := s1.toks) (fun b u e => Heap.get?_push_of_some _ e) (Nat.le_refl _) ?_, rfl, q _ hf⟩
  exact ⟨z, us, r, ⟨_, Heap.get?_push_size _ rfl, rfl, _, rfl⟩⟩
theorem pe_lst (h : PA X es t) : PE X (.List es pos) (tLst t) := by
  intro pins s σ H Q I hq
  refine wpAny_List_spliced (thn (h pos pins s σ H _ I hq) fun us s1 ⟨xs, H1, I1, r, z, q⟩ => ⟨by rw [← r.length]; exact z, ?_⟩)
  have hf : H1 s1.heap.objs.size = none := I1.hok.fresh (Nat.le_refl _)
  refine ⟨.ref s1.heap.objs.size, upd H1 s1.heap.objs.size (.lst xs), I1.laid (t' := s1.toks) (fun b u e => Heap.get?_push_of_some _ e) (Nat.le_refl _) ?_, rfl, q _ hf⟩
  exact ⟨z, us, 0, r, Heap.get?_push_size _ rfl⟩
end

noncomputable abbrev Sp := List V → Hp → VK → XK → Prop
noncomputable abbrev CXT := List Env → Hp → Shared → XK → Value → Shared → Prop

structure Env0 (P : Program) (w : World) (K : PySem.W.Frag) (mg : Str → Option Value) (base : Heap) (A : Around) (outer : List Env) (s : Shared) (H : Hp) : Prop where
  frames : A.frames = some outer
  mod : Mod K mg base
  bs : ∀ b o, base.get? b = some o → s.heap.get? b = some o ∧ H b = none
  bsz : base.objs.size ≤ s.heap.objs.size
  funs : s.heap.FunFrames base outer
  frf : ∀ b ∈ frs outer, H b = none
  hok : HOk P w H s.heap
  bare : AllBare s.gens
noncomputable def CE (outer : List Env) (P : Program) (w : World) (H : Hp) (s : Shared) (Q : VK) (u : Value) (s' : Shared) : Prop :=
  ∃ v H', s'.os = s.os ∧ AllBare s'.gens ∧ Un (frs outer) [] H H' s.heap s'.heap ∧ HOk P w H' s'.heap ∧ RelV v u ∧ Q v H'
noncomputable def CR (CX : CXT) (outer : List Env) (P : Program) (w : World) (H : Hp) (s : Shared) (Q : VK) (E : XK) (r : Result) (s' : Shared) : Prop :=
  match r with
  | .ok (.ret u) => CE outer P w H s Q u s'
  | .ok _ => False
  | .error e => CX outer H s E e s'
structure FnOk (P : Program) (w : World) (K : PySem.W.Frag) (mg : Str → Option Value) (base : Heap) (CX : CXT) (k : Nat) (f : Addr) (fd : FuncData) (ps : List Str) (sp : Sp) : Prop where
  len : ∀ vs H Q E, sp vs H Q E → vs.length = ps.length
  run : ∀ (A : Around) (outer : List Env) (s : Shared) (H : Hp) (args : Args) (us : List Value) (vs : List V) (Q : VK) (E : XK), Room k A → Env0 P w K mg base A outer s H → BindsTo s fd args (ps.zip us) → Vals vs us → sp vs H Q E →
    codeAny (model P w) A (.call (.ref f) args) (CR CX outer P w H s Q E) s
theorem Env0.make {P : Program} {w : World} {K : PySem.W.Frag} {mg : Str → Option Value} {base : Heap} {A : Around} {outer : List Env} {s : Shared} {H : Hp} (e : Env0 P w K mg base A outer s H) (C : Addr) (us : List Value) (kw : List (Str × Value)) :
    Env0 P w K mg base (A.under (.builtin "type.__call__" ⟨.ref C :: us, kw⟩)) outer s H := ⟨by first | exact e.frames | (simpa [Around.under, Code.envs, Code.isFrame, pushEnvs] using e.frames), e.mod, e.bs, e.bsz, e.funs, e.frf, e.hok, e.bare⟩
section
variable {X : Cx} {pins : List (Addr × Obj)} {σ : St} {H : Hp} {s s' : Shared}
theorem Inv.env0 (I : Inv X pins σ H s) : Env0 X.prog X.w X.K X.mg X.base X.A X.stack s H :=
  ⟨I.ok.frames, I.ok.mod, I.bs, Nat.le_trans I.ok.bsz I.sz, I.stack, I.stkFree, I.hok, I.bare⟩
theorem Inv.after {Q : VK} {u : Value} (I : Inv X pins σ H s) (h : CE X.stack X.prog X.w H s Q u s') : EP X pins σ Q u s' := by
  obtain ⟨v, H', os, bare, un, hok, r, q⟩ := h
  obtain ⟨hh, g, d, t, os'⟩ := s'
  obtain rfl : os' = s.os := os
  exact ⟨v, H', I.call (h' := hh) (g' := g) (d' := d) (t' := t) (ch := []) un hok bare (fun b z => absurd z (by simp)), r, q⟩
end

noncomputable def tCall (sp : Sp) (dvs : List V) (E : XK) (t : TA) : TE := fun σ H Q => t σ H fun vs H1 => sp (vs ++ dvs) H1 Q E
noncomputable def tMeth (C : Addr) (m : Str) (sp : Sp) (dvs : List V) (E : XK) (ta : TE) (t : TA) : TE := fun σ H Q => ta σ H fun x H1 => ∃ a dx fs, x = .ref a ∧ H1 a = some (.ins C dx fs) ∧ fs.lookup m = none ∧
  t σ H1 fun vs H2 => sp (x :: (vs ++ dvs)) H2 Q E
noncomputable def tMake (C : Addr) (sp : Sp) (dvs : List V) (E : XK) (t : TA) : TE := fun σ H Q => t σ H fun vs H1 => ∀ x dx, H1 x = none → H1 dx = none → dx ≠ x →
  sp (.ref x :: (vs ++ dvs)) (upd (upd H1 dx (.own x)) x (.ins C dx [])) (fun v H2 => v = .non ∧ Q (.ref x) H2) E

noncomputable def Binds (K : PySem.W.Frag) (fd : FuncData) (ps : List Str) (ds : List Value) : Prop :=
  ∀ (s : Shared) (us : List Value), K.In s.heap → (us ++ ds).length = ps.length → BindsTo s fd ⟨us, []⟩ (ps.zip (us ++ ds))
theorem Binds.all {K : PySem.W.Frag} {fd : FuncData} {ps : List Str} (h : ∀ us : List Value, us.length = ps.length → bindArgs fd ⟨us, []⟩ = pure (ps.zip us)) : Binds K fd ps [] := fun s us _ hl => by
  rw [List.append_nil] at hl ⊢
  exact .of_eq (h us hl)

noncomputable def Passes (CX : CXT) (X : Cx) (E : XK) : Prop := ∀ (pins : List (Addr × Obj)) (σ : St) (H : Hp) (s : Shared) (e : Value) (s' : Shared), Inv X pins σ H s → CX X.stack H s E e s' → X.xe e s'

section
variable {X : Cx} {CX : CXT} {k : Nat} {f C : Addr} {fd : FuncData} {ps : List Str} {sp : Sp} {dvs : List V} {ds : List Value} {E : XK} {x m : Str} {p pos apos : Pos} {e o : Expr} {es : List Expr} {ta : TE} {t : TA}

theorem run_fn {pins : List (Addr × Obj)} {σ : St} {H : Hp} {s : Shared} {Q : VK} {us : List Value} {vs : List V} (F : FnOk X.prog X.w X.K X.mg X.base CX k f fd ps sp) (hr : Room k X.A) (hb : Binds X.K fd ps ds) (hd : Vals dvs ds) (hx : Passes CX X E)
    (I : Inv X pins σ H s) (r : Vals vs us) (h : sp (vs ++ dvs) H Q E) : wpAny (model X.prog X.w) X.A (call (.ref f) us) (EP X pins σ Q) X.xe s := by
  have r2 : Vals (vs ++ dvs) (us ++ ds) := r.append hd
  have hl : (us ++ ds).length = ps.length := by rw [← r2.length]; exact F.len _ _ _ _ h
  refine wpAny_call (codeAny_mono (F.run X.A X.stack s H ⟨us, []⟩ (us ++ ds) (vs ++ dvs) Q E hr I.env0 (hb s us I.kIn hl) r2 h) fun r s' hq => ?_)
  cases r with
  | error e => exact hx pins σ H s e s' I hq
  | ok fl =>
    cases fl with
    | ret u => exact I.after hq
    | next => exact False.elim hq
    | brk => exact False.elim hq
    | cont => exact False.elim hq

theorem pe_call (F : FnOk X.prog X.w X.K X.mg X.base CX k f fd ps sp) (hr : Room k X.A) (hg : Gl X x) (hm : X.mg x = some (.ref f)) (hk : PySem.W.keepIn X.K (.ref f) = true) (hb : Binds X.K fd ps ds) (hd : Vals dvs ds) (hx : Passes CX X E)
    (ha : PA X (e :: es) t) (hdb : (x == ("__debug__" : Str)) = false := by decide) (he : starEach (e :: es) X.env = (false, eval e X.env) :: starEach es X.env := by rfl) (hpl : (backTo pos (starEach es X.env)).any (·.1) = false := by rfl) :
    PE X (.Call (.Name x p) (e :: es) [] pos) (tCall sp dvs E t) := by
  intro pins s σ H Q I h
  refine wpAny_Call_Name_kw (ld_glob I hg hm ?_ hdb)
  refine PySem.W.callWith_K (h₀ := X.base) I.ok.mod.kin hk (thn (ha pos pins s σ H _ I h) fun us s1 ⟨vs, H1, I1, r, q⟩ => ⟨I1.kIn, ?_⟩) he hpl
  exact run_fn F hr hb hd hx I1 r q
theorem pe_meth {pl : Sem Bool} (he : PE X o ta) (c : Cls X.K C) (hm : Meth X.K C m f) (F : FnOk X.prog X.w X.K X.mg X.base CX k f fd ps sp) (hr : Room k X.A) (hb : Binds X.K fd ps ds) (hd : Vals dvs ds) (hx : Passes CX X E) (ha : PA X (e :: es) t)
    (hst : starEach (e :: es) X.env = (false, eval e X.env) :: starEach es X.env := by rfl) (hpl : (backTo pos (starEach es X.env)).any (·.1) = false := by rfl)
    (ht : eval (.Call (.Attribute o m apos) (e :: es) [] pos) X.env = (do
      let ov ← eval o X.env
      standAt apos.atName
      let (f, first) ← holding [ov] (getMethod ov m pl)
      callWith pos f first (backTo pos (starEach (e :: es) X.env)) (backToKw pos (keywordEach [] X.env))) := by rfl) :
    PE X (.Call (.Attribute o m apos) (e :: es) [] pos) (tMeth C m sp dvs E ta t) := by
  intro pins s σ H Q I h
  refine PySem.W.methodCall_KW (pl := pl) (thn (he pins s σ H _ I h) fun u s1 ⟨x, H1, I1, rx, a, dx, fs, ex, ea, l, q⟩ => ?_) ht
  subst ex
  obtain rfl : u = Value.ref a := rx
  refine getmeth_ok I1 ea c hm l ?_
  refine PySem.W.callWith_K (first := [.ref a]) (h₀ := X.base) I.ok.mod.kin hm.kp (thn (ha pos pins s1 σ H1 _ I1 q) fun us s2 ⟨vs, H2, I2, r, q2⟩ => ⟨I2.kIn, ?_⟩) hst hpl
  exact run_fn (us := .ref a :: us) (vs := .ref a :: vs) F hr hb hd hx I2 (.cons rfl r) q2
theorem pe_meth0 {pl : Sem Bool} (he : PE X o ta) (c : Cls X.K C) (hm : Meth X.K C m f) (F : FnOk X.prog X.w X.K X.mg X.base CX k f fd ps sp) (hr : Room k X.A) (hb : Binds X.K fd ps ds) (hd : Vals dvs ds) (hx : Passes CX X E)
    (ht : eval (.Call (.Attribute o m apos) [] [] pos) X.env = (do
      let ov ← eval o X.env
      standAt apos.atName
      let (f, first) ← holding [ov] (getMethod ov m pl)
      callWith pos f first (backTo pos (starEach [] X.env)) (backToKw pos (keywordEach [] X.env))) := by rfl) :
    PE X (.Call (.Attribute o m apos) [] [] pos) (tMeth C m sp dvs E ta tNil) := by
  intro pins s σ H Q I h
  refine PySem.W.methodCall_KW (pl := pl) (thn (he pins s σ H _ I h) fun u s1 ⟨x, H1, I1, rx, a, dx, fs, ex, ea, l, q⟩ => ?_) ht
  subst ex
  obtain rfl : u = Value.ref a := rx
  refine getmeth_ok I1 ea c hm l ?_
  exact PySem.W.callWith_K0 (first := [.ref a]) I1.kIn hm.kp (run_fn (us := [.ref a]) (vs := [.ref a]) F hr hb hd hx I1 (.cons rfl .nil) q)

structure Mk (K : PySem.W.Frag) (C f : Addr) : Prop where
  makes : PySem.W.makesIn K C = true
  init : PySem.W.findIn K (.ref C) "__init__" = some (some (.ref f))
  fn : PySem.W.isFn K (.ref f) = true
  kp : PySem.W.keepIn K (.ref C) = true

theorem run_make {pins : List (Addr × Obj)} {σ : St} {H : Hp} {s : Shared} {Q : VK} {us : List Value} {vs : List V} (M : Mk X.K C f) (F : FnOk X.prog X.w X.K X.mg X.base CX k f fd ps sp) (hr : Room (k + 1) X.A) (hb : Binds X.K fd ps ds) (hd : Vals dvs ds)
    (hx : Passes CX X E) (I : Inv X pins σ H s) (r : Vals vs us)
    (h : ∀ x dx, H x = none → H dx = none → dx ≠ x → sp (.ref x :: (vs ++ dvs)) (upd (upd H dx (.own x)) x (.ins C dx [])) (fun v H2 => v = .non ∧ Q (.ref x) H2) E) :
    wpAny (model X.prog X.w) X.A (call (.ref C) us) (EP X pins σ Q) X.xe s := by
  have hq := h (s.heap.objs.size + 1) s.heap.objs.size (I.hok.fresh (Nat.le_succ _)) (I.hok.fresh (Nat.le_refl _)) (Nat.ne_of_lt (Nat.lt_succ_self _))
  have I2 := Inv.made (C := C) I
  have r2 : Vals (V.ref (s.heap.objs.size + 1) :: (vs ++ dvs)) (Value.ref (s.heap.objs.size + 1) :: (us ++ ds)) := .cons rfl (r.append hd)
  have hl : (Value.ref (s.heap.objs.size + 1) :: us ++ ds).length = ps.length := by
    have e := r2.length
    rw [F.len _ _ _ _ hq] at e
    exact e.symm
  refine wpAny_call (make_map (f := f) I.kIn M.makes M.init (beq_iff_eq.mp M.fn) (codeAny_mono (F.run _ X.stack _ _ ⟨Value.ref (s.heap.objs.size + 1) :: us, []⟩ (Value.ref (s.heap.objs.size + 1) :: (us ++ ds)) _ _ E (hr.make C us [])
    (I2.env0.make C us []) (hb _ (Value.ref (s.heap.objs.size + 1) :: us) I2.kIn hl) r2 hq) fun r s' hq' => ?_))
  cases r with
  | error e => exact hx pins σ _ _ e s' I2 hq'
  | ok fl =>
    cases fl with
    | ret u =>
      obtain ⟨v, H', I3, rv, ev, q3⟩ := I2.after hq'
      subst ev
      exact ⟨rv, ⟨V.ref (s.heap.objs.size + 1), H', I3, rfl, q3⟩⟩
    | next => exact False.elim hq'
    | brk => exact False.elim hq'
    | cont => exact False.elim hq'
theorem pe_make (M : Mk X.K C f) (F : FnOk X.prog X.w X.K X.mg X.base CX k f fd ps sp) (hr : Room (k + 1) X.A) (hg : Gl X x) (hm : X.mg x = some (.ref C)) (hb : Binds X.K fd ps ds) (hd : Vals dvs ds) (hx : Passes CX X E)
    (ha : PA X (e :: es) t) (hdb : (x == ("__debug__" : Str)) = false := by decide) (he : starEach (e :: es) X.env = (false, eval e X.env) :: starEach es X.env := by rfl) (hpl : (backTo pos (starEach es X.env)).any (·.1) = false := by rfl) :
    PE X (.Call (.Name x p) (e :: es) [] pos) (tMake C sp dvs E t) := by
  intro pins s σ H Q I h
  refine wpAny_Call_Name_kw (ld_glob I hg hm ?_ hdb)
  refine PySem.W.callWith_K (h₀ := X.base) I.ok.mod.kin M.kp (thn (ha pos pins s σ H _ I h) fun us s1 ⟨vs, H1, I1, r, q⟩ => ⟨I1.kIn, ?_⟩) he hpl
  exact run_make M F hr hb hd hx I1 r q
end

section
variable {X : Cx} {CX : CXT} {k : Nat} {f C : Addr} {fd : FuncData} {ps ks : List Str} {sp : Sp} {E : XK} {x m : Str} {p pos apos kpos : Pos} {e o : Expr} {es : List Expr} {kws : List Keyword} {te ta : TE} {t tk : TA} {nm : Option Str}
variable {g : List Value → List Value → List Value} {gV : List V → List V → List V}
end

structure FnScope (N P : List Str) (sc : Scope) : Prop where
  kind : sc.kind = .function
  co : sc.isCoroutine = false
  gen : sc.isGenerator = false
  nd : N.Nodup
  pre : N.take P.length = P
  par : ∀ x ∈ P, sc.names.lookup x = some .local ∨ sc.names.lookup x = some .cell
  nofree : ∀ y ∈ sc.names, y.2 ≠ .free

theorem bindL_out {kindOf : Str → Option NameKind} {x : Str} : ∀ {binds : List (Str × Value)} {m : Str → Option Value}, (∀ v, (x, v) ∉ binds) → bindL kindOf binds m x = m x
  | [], _, _ => rfl
  | (n, v) :: r, m, h => by
    unfold bindL
    rw [bindL_out fun w hw => h w (List.mem_cons_of_mem _ hw)]
    split
    · have : x ≠ n := by rintro rfl; exact h v List.mem_cons_self
      simp [this]
    · rfl
theorem bindC_out {kindOf : Str → Option NameKind} {x : Str} : ∀ {binds : List (Str × Value)} {m : Str → Option Value}, (∀ v, (x, v) ∉ binds) → bindC kindOf binds m x = m x
  | [], _, _ => rfl
  | (n, v) :: r, m, h => by
    unfold bindC
    rw [bindC_out fun w hw => h w (List.mem_cons_of_mem _ hw)]
    split
    · rfl
    · have : x ≠ n := by rintro rfl; exact h v List.mem_cons_self
      simp [this]
theorem bindL_get {kindOf : Str → Option NameKind} {x : Str} {v : Value} : ∀ {P : List Str} {vs : List Value} {i : Nat} {m : Str → Option Value}, P.Nodup → P[i]? = some x → vs[i]? = some v → kindOf x = some .local →
    bindL kindOf (P.zip vs) m x = some v
  | [], _, _, _, _, h, _, _ => by simp at h
  | _ :: _, [], _, _, _, _, h, _ => by simp at h
  | p :: P, w :: vs, 0, m, nd, h1, h2, hk => by
    simp at h1 h2; subst h1; subst h2
    show bindL kindOf ((p, w) :: P.zip vs) m p = _
    unfold bindL
    rw [bindL_out fun v hv => (List.nodup_cons.mp nd).1 (List.of_mem_zip hv).1, if_pos hk]
    simp
  | p :: P, w :: vs, i + 1, m, nd, h1, h2, hk => by
    show bindL kindOf ((p, w) :: P.zip vs) m x = _
    unfold bindL
    exact bindL_get (i := i) (List.nodup_cons.mp nd).2 (by simpa using h1) (by simpa using h2) hk
theorem bindC_get {kindOf : Str → Option NameKind} {x : Str} {v : Value} : ∀ {P : List Str} {vs : List Value} {i : Nat} {m : Str → Option Value}, P.Nodup → P[i]? = some x → vs[i]? = some v → kindOf x ≠ some .local →
    bindC kindOf (P.zip vs) m x = some v
  | [], _, _, _, _, h, _, _ => by simp at h
  | _ :: _, [], _, _, _, _, h, _ => by simp at h
  | p :: P, w :: vs, 0, m, nd, h1, h2, hk => by
    simp at h1 h2; subst h1; subst h2
    show bindC kindOf ((p, w) :: P.zip vs) m p = _
    unfold bindC
    rw [bindC_out fun v hv => (List.nodup_cons.mp nd).1 (List.of_mem_zip hv).1, if_neg hk]
    simp
  | p :: P, w :: vs, i + 1, m, nd, h1, h2, hk => by
    show bindC kindOf ((p, w) :: P.zip vs) m x = _
    unfold bindC
    exact bindC_get (i := i) (List.nodup_cons.mp nd).2 (by simpa using h1) (by simpa using h2) hk

noncomputable def start (N : List Str) (vs : List V) : St := vs.map some ++ List.replicate (N.length - vs.length) none

noncomputable def cxOf (CX : CXT) (P : Program) (w : World) (K : PySem.W.Frag) (mg : Str → Option Value) (base : Heap) (N : List Str) (qual : Str) (scope : Scope) (f : Addr) (cd : Value) (A : Around) (outer : List Env) (s : Shared) (H : Hp) (E : XK) : Cx where
  prog := P
  w := w
  K := K
  mg := mg
  base := base
  A := A.deeper (envOfC qual scope s.heap.objs.size f cd)
  N := N
  s₀ := s
  H₀ := H
  env := envOfC qual scope s.heap.objs.size f cd
  outer := outer
  stack := envOfC qual scope s.heap.objs.size f cd :: outer
  ex := []
  calm := true
  fn := fun _ => true
  pn := []
  xe := fun e s' => wpAny (model P w) (A.deeper (envOfC qual scope s.heap.objs.size f cd)) (leaving (envOfC qual scope s.heap.objs.size f cd) e) (fun _ s'' => CX outer H s E e s'') (fun e' s'' => CX outer H s E e' s'') s'

theorem cell_has {sc : Scope} {n : Nat} {x : Str} (h : sc.names.lookup x = some .cell) : ∃ c, (cellsFrom n sc.names []).lookup x = some c := by
  have q := PySem.W.cellsFrom_some sc.names n [] (.inl h)
  exact Option.isSome_iff_exists.mp q

theorem inv_start {CX : CXT} {P : Program} {w : World} {K : PySem.W.Frag} {mg : Str → Option Value} {base : Heap} {N ps : List Str} {qual : Str} {scope : Scope} {f : Addr} {cd : Value} {A : Around} {outer : List Env} {s s1 : Shared} {H : Hp} {E : XK} {us : List Value} {vs : List V}
    (S : FnScope N ps scope) (hd : A.handled = none) (e0 : Env0 P w K mg base A outer s H) (hl : vs.length = ps.length) (r : Vals vs us)
    (x : InCallC s s.heap.objs.size (bindL (envOfC qual scope s.heap.objs.size f cd).kindOf (ps.zip us) fun _ => none) (cellsFrom (s.heap.objs.size + 1) scope.names []) (bindC (envOfC qual scope s.heap.objs.size f cd).kindOf (ps.zip us) fun _ => none) s1) :
    Inv (cxOf CX P w K mg base N qual scope f cd A outer s H E) [] (start N vs) H s1 := by
  have hpl : ps.length ≤ N.length := by have := congrArg List.length S.pre; rw [List.length_take] at this; omega
  obtain ⟨h1, tk, rfl, hk⟩ := x.done
  have noA : ∀ b : Addr, b ∉ (cxOf CX P w K mg base N qual scope f cd A outer s H E).ex := fun b z => absurd (show b ∈ ([] : List Addr) from z) (by simp)
  refine ⟨⟨e0.mod, S.kind, rfl, rfl, Nat.le_refl _, fun y z c h1 h2 => ?_, fun y hy => ?_, fun y c _ h => ?_, fun _ => hd, Around.frames_deeper e0.frames, .inr ⟨rfl, rfl⟩, fun b z => absurd z (noA b), e0.bs, e0.bsz, fun b _ _ => noA b, fun b z => absurd z (noA b), e0.funs, e0.frf⟩,
    rfl, e0.bare, Un.kept hk, ⟨_, x.toInCall.ns, fun i y v h1 h2 h3 => ?_⟩, fun y c h => ⟨_, x.cell y c h⟩, e0.hok.fresh (Nat.le_refl _), fun y c h => ?_, fun p hp => absurd (show p ∈ ([] : List (Addr × Obj)) from hp) (by simp), e0.hok.kept hk, ?_⟩
  · exact name_of_addr x.apart (PySem.mem_of_lookup h1) (PySem.mem_of_lookup h2)
  · have hy : scope.names.lookup y = some .cell ∨ scope.names.lookup y = some .free := hy
    rcases hy with hy | hy
    · exact cell_has hy
    · exact absurd rfl (S.nofree _ (PySem.mem_of_lookup hy))
  · exact Nat.le_of_lt (x.above y c (PySem.mem_of_lookup h))
  · have hi : i < vs.length := by
      unfold start at h2
      by_cases hi : i < vs.length
      · exact hi
      · rw [List.getElem?_append_right (by simpa using hi)] at h2
        rw [List.getElem?_replicate] at h2
        split at h2 <;> cases h2
    have ha : vs[i]? = some v := by
      unfold start at h2
      rw [List.getElem?_append_left (by simpa using hi), List.getElem?_map] at h2
      cases e : vs[i]? with
      | none => rw [e] at h2; cases h2
      | some a => rw [e] at h2; cases h2; rfl
    obtain ⟨u, hu, rv⟩ := r.get ha
    have hp : ps[i]? = some y := by
      rw [← S.pre, List.getElem?_take_of_lt (by omega)]; exact h1
    have ndP : ps.Nodup := by rw [← S.pre]; exact S.nd.sublist (List.take_sublist _ _)
    refine ⟨u, rv, ?_⟩
    rcases S.par y (List.mem_of_getElem? hp) with k | k
    · exact .inl ⟨k, bindL_get ndP hp hu k⟩
    · obtain ⟨c, e⟩ := cell_has (n := s.heap.objs.size + 1) k
      refine .inr ⟨.inl k, c, e, ?_⟩
      have q := x.cell y c e
      rw [bindC_get ndP hp hu (by show scope.names.lookup y ≠ _; rw [k]; decide)] at q
      exact q
  · exact e0.hok.fresh (Nat.le_of_lt (x.above y c (PySem.mem_of_lookup h)))
  · unfold start
    show _ = N.length
    rw [List.length_append, List.length_map, List.length_replicate]
    omega

theorem fn_of {CX : CXT} {P : Program} {w : World} {K : PySem.W.Frag} {mg : Str → Option Value} {base : Heap} {k : Nat} {f : Addr} {name qual : Str} {params : Arguments} {body : List Stmt} {scope : Scope} {dV kV doc pm cdv ct oc : Value} {an od : Option Addr}
    {osl : Array (Option Value)} {N ps : List Str} {sp : Sp} (lk : K.lookup f = some ⟨oc, od, .func (PySem.W.fnOf name qual params body scope dV kV doc pm an cdv ct), osl⟩) (hcd : PySem.W.codeIn K cdv qual = true) (S : FnScope N ps scope)
    (len : ∀ vs H Q E, sp vs H Q E → vs.length = ps.length)
    (hbody : ∀ (A : Around) (outer : List Env) (s : Shared) (H : Hp) (vs : List V) (Q : VK) (E : XK), Room k (A.deeper (envOfC qual scope s.heap.objs.size f cdv)) → sp vs H Q E →
      ∃ t, PSs (cxOf CX P w K mg base N qual scope f cdv A outer s H E) body t ∧ t { nx := fun _ H' => Q .non H', rt := Q } (start N vs) H) :
    FnOk P w K mg base CX (k + 1) f (PySem.W.fnOf name qual params body scope dV kV doc pm an cdv ct) ps sp := by
  refine ⟨len, fun A outer s H args us vs Q E hr e0 hb r hsp => ?_⟩
  have hl := len _ _ _ _ hsp
  have KX : K.In s.heap := e0.mod.kin.keeps fun b o e => (e0.bs b o e).1
  have lim : s.heap.NoLimit := e0.mod.nolimit.keeps fun b o e => (e0.bs b o e).1
  have hkind : ∀ y ∈ ps.zip us, scope.names.lookup y.1 = some .local ∨ (scope.names.lookup y.1 = some .cell ∧ ((cellsFrom (s.heap.objs.size + 1) scope.names []).lookup y.1).isSome = true) := fun ⟨n, v⟩ hy => by
    rcases S.par n (List.of_mem_zip hy).1 with q | q
    · exact .inl q
    · exact .inr ⟨q, PySem.W.cellsFrom_some _ _ _ (.inl q)⟩
  refine codeAny_call_function hr.depth (KX _ _ lk) rfl S.co S.gen rfl (PySem.W.codeRec_of KX hcd) (hb _ _ _ _ ?_)
  refine wpAny_newFunctionEnv_cells S.kind hkind fun env he s1 x => ?_
  subst he
  refine ⟨lim.keeps x.toInCall.keep, codeAny_func ?_⟩
  obtain ⟨t, ht, hq⟩ := hbody A outer s H vs Q E (hr.deeper _) hsp
  have I : Inv (cxOf CX P w K mg base N qual scope f cdv A outer s H E) [] (start N vs) H s1 := inv_start S hr.hd e0 hl r x
  refine wpAny_mono (ht [] s1 (start N vs) H _ I hq) (fun fl s' hs => ?_) fun e s' hs => hs
  have fin : ∀ {σ' : St} {H' : Hp} {v : V} {u : Value}, Inv (cxOf CX P w K mg base N qual scope f cdv A outer s H E) [] σ' H' s' → RelV v u → Q v H' → CE outer P w H s Q u s' :=
    fun {σ' H' v u} J rv q => ⟨v, H', J.os, J.bare, J.base, J.hok, rv, q⟩
  cases fl with
  | ret u =>
    obtain ⟨v, σ', H', J, rv, q⟩ := hs
    exact fin J rv q
  | next =>
    obtain ⟨σ', H', J, q⟩ := hs
    exact fin (v := V.non) (u := Value.none) J rfl q
  | brk =>
    obtain ⟨_, _, _, q⟩ := hs
    exact False.elim q
  | cont =>
    obtain ⟨_, _, _, q⟩ := hs
    exact False.elim q
end L2

namespace L2
open PySem PySem.Spec PyProof.Rows
section
variable {X : Cx} {x : Str} {p pos : Pos} {e : Expr} {es : List Expr} {t : TA} {id T : String} {r : List V → Hp → VK → Prop}

noncomputable def tCB (r : List V → Hp → VK → Prop) (t : TA) : TE := fun σ H Q => t σ H fun vs H1 => r vs H1 Q
theorem pe_callB (hc : CallR X (.builtin id) r) (hg : Gl X x) (hm : X.mg x = none) (hv : bootBuiltins x = some (.builtin id)) (ha : PA X (e :: es) t) (hn : x ≠ "__name__" := by decide) (hdb : (x == ("__debug__" : Str)) = false := by decide)
    (he : starEach (e :: es) X.env = (false, eval e X.env) :: starEach es X.env := by rfl) (hpl : (backTo pos (starEach es X.env)).any (·.1) = false := by rfl) : PE X (.Call (.Name x p) (e :: es) [] pos) (tCB r t) := by
  intro pins s σ H Q I h
  refine wpAny_Call_Name_kw (ld_blt I hg hm hv ?_ hn hdb)
  exact PyProof.Rows.callWith_builtin1 (thn (ha pos pins s σ H _ I h) fun us s1 ⟨vs, H1, I1, r1, q1⟩ => hc pins s1 σ H1 vs us Q I1 r1 q1) he hpl
theorem pe_callTy (hc : CallR X (.type T) r) (hg : Gl X x) (hm : X.mg x = none) (hv : bootBuiltins x = some (.type T)) (ha : PA X (e :: es) t) (hn : x ≠ "__name__" := by decide) (hdb : (x == ("__debug__" : Str)) = false := by decide)
    (he : starEach (e :: es) X.env = (false, eval e X.env) :: starEach es X.env := by rfl) (hpl : (backTo pos (starEach es X.env)).any (·.1) = false := by rfl) : PE X (.Call (.Name x p) (e :: es) [] pos) (tCB r t) := by
  intro pins s σ H Q I h
  refine wpAny_Call_Name_kw (ld_blt I hg hm hv ?_ hn hdb)
  exact PyProof.Rows.callWith_type1 (thn (ha pos pins s σ H _ I h) fun us s1 ⟨vs, H1, I1, r1, q1⟩ => hc pins s1 σ H1 vs us Q I1 r1 q1) he hpl
end
end L2

namespace HT
open PySem PyProof.Rows

noncomputable def lexLt : List Int → List Int → Bool
  | [], [] => false
  | [], _ :: _ => true
  | _ :: _, [] => false
  | x :: xs, y :: ys => if x = y then lexLt xs ys else decide (x < y)
section
open PySem.SeqAt
open PySem.AutoSeq1 (wpAny_loadPart')
open PySem.MeetsSeq PySem.MeetsSeq2 PySem.MeetsSeq3

end

section
variable {prog : Program} {w : World} {A : Around} {E : Value → Shared → Prop} {s : Shared}

noncomputable def sIx (n d : Nat) : Option Int → Nat
  | none => d
  | some v => if v < 0 then (v + (n : Int)).toNat else min v.toNat n
theorem sIx_none (n d : Nat) : sIx n d none = d := rfl
theorem sIx_nat (n d k : Nat) : sIx n d (some (k : Int)) = min k n := by
  show (if (k : Int) < 0 then ((k : Int) + (n : Int)).toNat else min (k : Int).toNat n) = min k n
  rw [if_neg (by omega), Int.toNat_natCast]
end
end HT

namespace L2
open PySem PySem.Spec PyProof.Rows

noncomputable abbrev TO := St → Hp → (Option Int → Hp → Prop) → Prop
noncomputable def PO (X : Cx) (e : Option Expr) (t : TO) : Prop :=
  ∀ (pins : List (Addr × Obj)) (s : Shared) (σ : St) (H : Hp) (Q : Option Int → Hp → Prop), Inv X pins σ H s → t σ H Q →
    wpAny (model X.prog X.w) X.A (evalPart e X.env) (fun u s' => ∃ o H', Inv X pins σ H' s' ∧ IsPart u o ∧ Q o H') X.xe s
noncomputable def tNoPart : TO := fun _ H Q => Q none H
noncomputable def tPart (t : TE) : TO := fun σ H Q => t σ H fun x H1 => ∃ i, x = .int i ∧ Q (some i) H1

theorem intsAre_of {ns : List Int} : ∀ {us : List Value}, Vals (ns.map V.int) us → IntsAre us ns := by
  induction ns with
  | nil => intro us r; rw [List.map_nil] at r; cases r; exact .nil
  | cons n ns ih =>
    intro us r
    rw [List.map_cons] at r
    cases r with
    | cons r1 r2 =>
      obtain ⟨t, e⟩ := r1
      subst e
      exact .cons n t (ih r2)

section
variable {X : Cx} {e : Expr} {te : TE} {lo hi : Option Expr} {tl th : TO} {pos p2 : Pos}

theorem po_none : PO X none tNoPart := by
  intro pins s σ H Q I h
  rw [evalPart_none]
  exact wpAny_pure ⟨none, H, I, .none, h⟩
theorem po_some (h : PE X e te) : PO X (some e) (tPart te) := by
  intro pins s σ H Q I hw
  rw [evalPart_some]
  refine thn (h pins s σ H _ I hw) fun u s1 ⟨x, H1, I1, r1, q1⟩ => ?_
  obtain ⟨i, rfl, q⟩ := q1
  obtain ⟨t, rfl⟩ := r1
  exact ⟨some i, H1, I1, .int i t, q⟩

noncomputable def SlR (X : Cx) (r : V → Option Int → Option Int → Hp → VK → Prop) : Prop :=
  ∀ (pins : List (Addr × Obj)) (s : Shared) (σ : St) (H : Hp) (x : V) (v vl vu : Value) (lo hi : Option Int) (sl : Addr) (Q : VK), Inv X pins σ H s → RelV x v → s.heap.IsSliceOf sl vl vu .none → IsPart vl lo → IsPart vu hi → r x lo hi H Q →
    ∃ T id, typeLookup (.type T) "__getitem__" = pure (some (.builtin id)) ∧ s.TypeIs v T ∧ wpAny (model X.prog X.w) X.A (getItem v (.ref sl)) (EP X pins σ Q) X.xe s
noncomputable def tSl (r : V → Option Int → Option Int → Hp → VK → Prop) (te : TE) (tl th : TO) : TE := fun σ H Q => te σ H fun x H1 => tl σ H1 fun l H2 => th σ H2 fun u H3 => r x l u H3 Q
theorem pe_slice {r : V → Option Int → Option Int → Hp → VK → Prop} (hr : SlR X r) (he : PE X e te) (hl : PO X lo tl) (hu : PO X hi th) : PE X (.Subscript e (.Slice lo hi none p2) pos) (tSl r te tl th) := by
  intro pins s σ H Q I h
  refine Subscript_ (thn (he pins s σ H _ I h) fun v s1 ⟨x, H1, I1, r1, q1⟩ => ?_)
  refine wpAny_Slice (thn (hl pins s1 σ H1 _ I1 q1) fun vl s2 ⟨l, H2, I2, pl, q2⟩ => thn (hu pins s2 σ H2 _ I2 q2) fun vu s3 ⟨u, H3, I3, pu, q3⟩ => ?_)
  rw [evalPart_none]
  refine wpAny_pure ?_
  have I4 : Inv X pins σ H3 { s3 with heap := s3.heap.push { cls := .type "slice", data := .fields #[vl, vu, .none] } } := I3.kept (t' := s3.toks) fun b ob q => Heap.get?_push_of_some _ q
  obtain ⟨T, id, hT, ht, hg⟩ := hr pins { s3 with heap := s3.heap.push { cls := .type "slice", data := .fields #[vl, vu, .none] } } σ H3 x v vl vu l u s3.heap.objs.size Q I4 r1 (Heap.IsSliceOf.new ..) pl pu q3
  show wpAny (model X.prog X.w) X.A (subscriptTail e (.Slice lo hi none p2) v (.ref s3.heap.objs.size)) (EP X pins σ Q) X.xe { s3 with heap := s3.heap.push { cls := .type "slice", data := .fields #[vl, vu, .none] } }
  exact tail_any (ops := [.ref s3.heap.objs.size, v]) ht hT hg (by with_unfolding_all rfl)

noncomputable def cutV (xs : List V) (lo hi : Option Int) : List V := (xs.drop (HT.sIx xs.length 0 lo)).take (HT.sIx xs.length xs.length hi - HT.sIx xs.length 0 lo)
theorem cutV_length (xs : List V) (lo hi : Option Int) : (cutV xs lo hi).length ≤ xs.length := by
  unfold cutV
  rw [List.length_take, List.length_drop]
  omega
end
end L2

namespace L2
open PySem PySem.Spec PyProof.Rows

noncomputable def ixN (n : Nat) (i : Int) : Option Nat := if 0 ≤ i then (if i < n then some i.toNat else none) else if -(n : Int) ≤ i then some (i + n).toNat else none
noncomputable def atI {α : Type} (xs : List α) (i : Int) : Option α := (ixN xs.length i).bind fun j => xs[j]?
theorem ixN_seq {n : Nat} {i : Int} {j : Nat} (h : ixN n i = some j) : seqIndex? i n = some j ∧ j < n ∧ -(n : Int) ≤ i ∧ i < n := by
  unfold ixN at h
  by_cases h0 : 0 ≤ i
  · rw [if_pos h0] at h
    by_cases h1 : i < n
    · rw [if_pos h1] at h
      have e : i.toNat = j := Option.some.inj h
      exact ⟨by rw [seqIndex_of h0 h1, e], by omega, by omega, h1⟩
    · rw [if_neg h1] at h; cases h
  · rw [if_neg h0] at h
    by_cases h1 : -(n : Int) ≤ i
    · rw [if_pos h1] at h
      have e : (i + n).toNat = j := Option.some.inj h
      exact ⟨by rw [seqIndex_neg (by omega) h1, e], by omega, h1, by omega⟩
    · rw [if_neg h1] at h; cases h
theorem atI_get {α : Type} {xs : List α} {i : Int} {v : α} (h : atI xs i = some v) : ∃ j, seqIndex? i xs.length = some j ∧ xs[j]? = some v ∧ j < xs.length ∧ -(xs.length : Int) ≤ i ∧ i < xs.length := by
  unfold atI at h
  cases e : ixN xs.length i with
  | none => rw [e] at h; cases h
  | some j =>
    rw [e] at h
    obtain ⟨h1, h2, h3, h4⟩ := ixN_seq e
    exact ⟨j, h1, h, h2, h3, h4⟩
theorem atI_nat {α : Type} {xs : List α} {j : Nat} {v : α} (h : xs[j]? = some v) : atI xs (j : Int) = some v := by
  have hj : j < xs.length := (List.getElem?_eq_some_iff.mp h).1
  have e : ixN xs.length (j : Int) = some j := by
    unfold ixN
    rw [if_pos (by omega), if_pos (by omega)]; simp
  unfold atI; rw [e]; exact h
noncomputable def PlainIx (b : Expr) : Prop := ∀ o i, subscripted b false o i = operate [o, i] (getItem o i)
noncomputable def IxR (X : Cx) (r : R2) : Prop :=
  ∀ (value slice : Expr) (pins : List (Addr × Obj)) (s : Shared) (σ : St) (H : Hp) (x y : V) (v u : Value) (Q : VK), Inv X pins σ H s → RelV x v → RelV y u → r x y H Q →
    subscripted slice false v u = operate [v, u] (getItem v u) → wpAny (model X.prog X.w) X.A (subscriptTail value slice v u) (EP X pins σ Q) X.xe s
noncomputable def MtR (X : Cx) (id : String) (r : V → List V → Hp → VK → Prop) : Prop :=
  ∀ (pins : List (Addr × Obj)) (s : Shared) (σ : St) (H : Hp) (x : V) (xs : List V) (v : Value) (us : List Value) (Q : VK), Inv X pins σ H s → RelV x v → Vals xs us → r x xs H Q →
    wpAny (model X.prog X.w) X.A (call (.builtin id) (v :: us)) (EP X pins σ Q) X.xe s
section
variable {X : Cx} {a b : Expr} {ta tb : TE} {pos : Pos}
theorem pe_ix {r : R2} (hr : IxR X r) (ha : PE X a ta) (hb : PE X b tb) (hs : PlainIx b) : PE X (.Subscript a b pos) (tOp r ta tb) := by
  intro pins s σ H Q I h
  exact Subscript_ (binT ha hb I h fun v u s2 x y H2 I2 rx ry q => hr a b pins s2 σ H2 x y v u Q I2 rx ry q (hs _ _))

noncomputable def rIxL (K : PySem.W.Frag) : R2 := fun x y H Q => ∃ p xs i v, x = .ref p ∧ y = .int i ∧ SqL K H p xs ∧ atI xs i = some v ∧ Q v H
noncomputable def rIxT (K : PySem.W.Frag) : R2 := fun x y H Q => ∃ p xs i v, x = .ref p ∧ y = .int i ∧ SqT K H p xs ∧ atI xs i = some v ∧ Q v H
theorem ix_list : IxR X (rIxL X.K) := by
  intro value slice pins s σ H x y v u Q I rx ry h hs
  obtain ⟨p, xs, i, z, rfl, rfl, hq, he, q⟩ := h
  cases rx
  obtain ⟨t, rfl⟩ := ry
  obtain ⟨its, r, pl, hz⟩ := I.list hq
  obtain ⟨j, h1, h2, h3, h4, h5⟩ := atI_get he
  obtain ⟨w, ew, rw'⟩ := r.get h2
  have hl := r.length
  have hn := line63
  have fin : EP X pins σ Q w s := ⟨z, H, I, rw', q⟩
  by_cases h0 : 0 ≤ i
  · have hj : i.toNat = j := by
      rw [seqIndex_of h0 h5] at h1
      exact Option.some.inj h1
    exact item_listR pl.isList h0 (by omega) (by rw [hj]; simpa using ew) fin hs
  · have hj : (i + (its.toArray.size : Int)).toNat = j := by
      rw [seqIndex_neg (by omega) h4] at h1
      rw [List.size_toArray, ← hl]
      exact Option.some.inj h1
    exact subscriptTail_builtinR (x := w) pl.isList.typeIs slot_list_getitem.lookup
      (wpAny_getItem_list_neg (Q := fun r s' => r = w ∧ EP X pins σ Q r s') pl.isList (by omega) (by rw [List.size_toArray] <;> omega) (by omega) (by rw [hj]; simpa using ew) ⟨rfl, fin⟩) hs
theorem ix_tup : IxR X (rIxT X.K) := by
  intro value slice pins s σ H x y v u Q I rx ry h hs
  obtain ⟨p, xs, i, z, rfl, rfl, hq, he, q⟩ := h
  cases rx
  obtain ⟨t, rfl⟩ := ry
  obtain ⟨its, r, pl, hz⟩ := I.tuple hq
  obtain ⟨j, h1, h2, h3, h4, h5⟩ := atI_get he
  obtain ⟨w, ew, rw'⟩ := r.get h2
  have hl := r.length
  have hn := line63
  have fin : EP X pins σ Q w s := ⟨z, H, I, rw', q⟩
  exact subscriptTail_builtinR (x := w) pl.typeIs slot_tuple_getitem.lookup
    (getItem_tuple (j := j) (Q := fun r s' => r = w ∧ EP X pins σ Q r s') pl (by omega) (by omega) (by rw [List.size_toArray, ← hl]; exact h1) (by simpa using ew) ⟨rfl, fin⟩) hs
theorem mapSeq_set (its : List Value) (n j : Nat) (u : Value) : Obj.mapSeq (·.setIfInBounds j u) { cls := .type "list", data := .seq its.toArray n } = { cls := .type "list", data := .seq (its.set j u).toArray n } := by
  simp [Obj.mapSeq]
theorem Inv.lst {pins : List (Addr × Obj)} {σ : St} {H : Hp} {s : Shared} {p : Addr} {xs : List V} (I : Inv X pins σ H s) (h : H p = some (.lst xs)) :
    ∃ (its : List Value) (n : Nat), Vals xs its ∧ s.heap.get? p = some { cls := .type "list", data := .seq its.toArray n } ∧ xs.length ≤ sizeLine := by
  obtain ⟨z, its, n, r, e⟩ := I.hok p _ h
  exact ⟨its, n, r, e, z⟩
theorem Inv.lstUpd {pins : List (Addr × Obj)} {σ : St} {H : Hp} {s : Shared} {p : Addr} {xs ys : List V} {its its' : List Value} {n n' : Nat} {f : Obj → Obj} (I : Inv X pins σ H s) (h : H p = some (.lst xs))
    (ho : s.heap.get? p = some { cls := .type "list", data := .seq its.toArray n }) (hf : f { cls := .type "list", data := .seq its.toArray n } = { cls := .type "list", data := .seq its'.toArray n' }) (r : Vals ys its') (hz : ys.length ≤ sizeLine) (t : Nat) :
    Inv X pins σ (upd H p (.lst ys)) { s with heap := s.heap.update p f, toks := t } := by
  have e : (s.heap.update p f).get? p = some { cls := .type "list", data := .seq its'.toArray n' } := by
    rw [Heap.get?_update_self f ho (by rw [hf] <;> rfl), hf]
  refine I.write (x := p) (e := p) (by rw [h]; trivial) (.inl rfl) (fun b u hb q => (Heap.get?_update_other _ _ (Ne.symm hb)).trans q) ⟨_, e⟩ ?_
  exact ⟨hz, its', n', r, e⟩
noncomputable def rSetL : V → V → V → Hp → (Hp → Prop) → Prop := fun o i v H Q => ∃ p xs k j, o = .ref p ∧ i = .int k ∧ H p = some (.lst xs) ∧ ixN xs.length k = some j ∧ Q (upd H p (.lst (xs.set j v)))
theorem set_list : PSet X rSetL := by
  intro pins s σ H o i v ov iv u Q I ro ri rv h
  obtain ⟨p, xs, k, j, rfl, rfl, hp, hj, q⟩ := h
  cases ro
  obtain ⟨t, rfl⟩ := ri
  obtain ⟨its, n, r, ho, hz⟩ := I.lst hp
  obtain ⟨h1, h2, h3, h4⟩ := ixN_seq hj
  have hl := r.length
  have hn := line63
  have I' : Inv X pins σ (upd H p (.lst (xs.set j v))) { s with heap := s.heap.update p (Obj.mapSeq (·.setIfInBounds j u)) } :=
    I.lstUpd hp ho (mapSeq_set its n j u) (r.set rv j) (by rw [List.length_set]; exact hz) s.toks
  by_cases h0 : 0 ≤ k
  · have hk : k.toNat = j := by
      rw [seqIndex_of h0 h4] at h1
      exact Option.some.inj h1
    exact PySem.W.ki_setAt ho h0 (by omega) (by rw [List.size_toArray, ← hl]; exact h4) (by rw [hk]; exact ⟨_, I', q⟩)
  · have hk : (k + (its.toArray.size : Int)).toNat = j := by
      rw [seqIndex_neg (by omega) h3] at h1
      rw [List.size_toArray, ← hl]
      exact Option.some.inj h1
    exact PySem.W.ki_setBack ho (by omega) (by rw [List.size_toArray, ← hl]; exact h3) (by omega) (by rw [hk]; exact ⟨_, I', q⟩)

theorem slice_bounds (lo hi : Option Int) (n : Nat) : (sliceBounds lo hi none n).1 = ((HT.sIx n 0 lo : Nat) : Int) ∧ (sliceBounds lo hi none n).2.1 = ((HT.sIx n n hi : Nat) : Int) ∧ (sliceBounds lo hi none n).2.2 = 1 := by
  refine ⟨?_, ?_, rfl⟩
  · cases lo with
    | none => simp [sliceBounds, HT.sIx]
    | some i =>
      simp only [sliceBounds, HT.sIx, Option.getD_none, show (1 : Int) > 0 by decide, if_true]
      by_cases h : i < 0
      · simp only [h, if_true] <;> omega
      · simp only [h, if_false] <;> omega
  · cases hi with
    | none => simp [sliceBounds, HT.sIx]
    | some i =>
      simp only [sliceBounds, HT.sIx, Option.getD_none, show (1 : Int) > 0 by decide, if_true]
      by_cases h : i < 0
      · simp only [h, if_true] <;> omega
      · simp only [h, if_false] <;> omega
theorem slicePick_cut (its : List Value) (lo hi : Option Int) : slicePick its.toArray lo hi none = ((its.drop (HT.sIx its.length 0 lo)).take (HT.sIx its.length its.length hi - HT.sIx its.length 0 lo)).toArray := by
  obtain ⟨h1, h2, h3⟩ := slice_bounds lo hi its.toArray.size
  unfold slicePick
  rw [h1, h2, h3]
  simp only [sliceRange_one, pick_run, List.size_toArray] <;> rfl
noncomputable def rSlL (K : PySem.W.Frag) : V → Option Int → Option Int → Hp → VK → Prop := fun x lo hi H Q => ∃ a xs, x = .ref a ∧ SqL K H a xs ∧ ∀ p, H p = none → Q (.ref p) (upd H p (.lst (cutV xs lo hi)))
theorem sl_list : SlR X (rSlL X.K) := by
  intro pins s σ H x v vl vu lo hi sl Q I rx hs pl pu h
  obtain ⟨a, xs, rfl, hx, q⟩ := h
  cases rx
  obtain ⟨its, r, ht, hz⟩ := I.list hx
  have hlen := r.length
  refine ⟨"list", _, slot_list_getitem.lookup, ht.isList.typeIs, ?_⟩
  refine wpAny_getItem_list_slice ht.isList hs pl pu .none (by simp) ?_ (by rw [List.size_toArray] <;> omega)
  rw [slicePick_cut, ← hlen]
  refine ⟨.ref s.heap.objs.size, _, I.laid (t' := s.toks) (o := .lst (cutV xs lo hi)) (fun b ob q => Heap.get?_push_of_some _ q) (Nat.le_refl _) ?_, rfl, q _ (I.hok.fresh (Nat.le_refl _))⟩
  exact ⟨Nat.le_trans (cutV_length xs lo hi) hz, _, 0, (r.drop (HT.sIx xs.length 0 lo)).take (HT.sIx xs.length xs.length hi - HT.sIx xs.length 0 lo), Heap.get?_push_size _ rfl⟩

theorem call_len_seq : CallR X (.builtin "len") (fun xs H Q => ∃ p ys, xs = [.ref p] ∧ (SqL X.K H p ys ∨ SqT X.K H p ys) ∧ Q (.int ys.length) H) := by
  intro pins s σ H xs us Q I r h
  obtain ⟨p, ys, rfl, hq, q⟩ := h
  obtain ⟨u, rfl, rx⟩ := vals1 r
  cases rx
  have hn := line63
  rcases hq with hq | hq
  · obtain ⟨its, r', pl, hz⟩ := I.list hq
    have hlen := r'.length
    exact Calls.call_len_list pl.isList (by simp only [List.size_toArray] <;> omega) ⟨.int ys.length, H, I.tok _, ⟨s.toks + 1, by rw [List.size_toArray, hlen]⟩, q⟩
  · obtain ⟨its, r', pl, hz⟩ := I.tuple hq
    have hlen := r'.length
    exact len_tuple pl (by simp only [List.size_toArray] <;> omega) ⟨.int ys.length, H, I.tok _, ⟨s.toks + 1, by rw [List.size_toArray, hlen]⟩, q⟩
theorem call_list_of : CallR X (.type "list") (fun xs H Q => ∃ p ys, xs = [.ref p] ∧ (SqL X.K H p ys ∨ SqT X.K H p ys) ∧ ∀ l, H l = none → Q (.ref l) (upd H l (.lst ys))) := by
  intro pins s σ H xs us Q I r h
  obtain ⟨p, ys, rfl, hq, q⟩ := h
  obtain ⟨u, rfl, rx⟩ := vals1 r
  cases rx
  have fin : ∀ (its : List Value), Vals ys its → ys.length ≤ sizeLine → ∀ (h' : Heap) (c' : Nat), (∀ b o', s.heap.get? b = some o' → h'.get? b = some o') →
      h'.get? s.heap.objs.size = some { cls := .type "list", dict := none, data := .seq its.toArray c', slots := #[] } → EP X pins σ Q (.ref s.heap.objs.size) { s with heap := h' } := fun its r' hz h' c' kp e =>
    ⟨.ref s.heap.objs.size, _, I.laid (t' := s.toks) kp (Nat.le_refl _) (show ObjOk X.prog X.w _ h' _ (.lst ys) from ⟨hz, its, c', r', e⟩), rfl, q _ (I.hok.fresh (Nat.le_refl _))⟩
  rcases hq with hq | hq
  · obtain ⟨its, r', pl, hz⟩ := I.list hq
    have hlen := r'.length
    obtain ⟨o, ho, hc, n, hd⟩ := pl.isList
    exact call_list_seq p (.inl rfl) ho hc hd (fun h' c' kp e => fin its r' hz h' c' kp e) (by simp only [List.size_toArray] <;> omega)
  · obtain ⟨its, r', pl, hz⟩ := I.tuple hq
    have hlen := r'.length
    obtain ⟨o, ho, hc, n, hd⟩ := pl
    exact call_list_seq p (.inr rfl) ho hc hd (fun h' c' kp e => fin its r' hz h' c' kp e) (by simp only [List.size_toArray] <;> omega)
theorem call_tuple_of : CallR X (.type "tuple") (fun xs H Q => ∃ p ys, xs = [.ref p] ∧ ((SqL X.K H p ys ∧ ∀ l, H l = none → Q (.ref l) (upd H l (.tup ys))) ∨ (SqT X.K H p ys ∧ Q (.ref p) H))) := by
  intro pins s σ H xs us Q I r h
  obtain ⟨p, ys, rfl, h⟩ := h
  obtain ⟨u, rfl, rx⟩ := vals1 r
  cases rx
  rcases h with ⟨hq, q⟩ | ⟨hq, q⟩
  · obtain ⟨its, r', pl, hz⟩ := I.list hq
    have hlen := r'.length
    refine call_tuple_list pl.isList (fun h' kp => ?_) (by simp only [List.size_toArray] <;> omega)
    have I1 : Inv X pins σ H { s with heap := h' } := I.kept (t' := s.toks) kp
    have I2 : Inv X pins σ (upd H h'.objs.size (.tup ys)) { s with heap := h'.push { cls := .type "tuple", data := .seq its.toArray } } :=
      I1.laid (t' := s.toks) (fun b o e => Heap.get?_push_of_some _ e) (Nat.le_refl _) (show ObjOk X.prog X.w _ _ _ (.tup ys) from ⟨hz, its, r', IsTup.new _ _⟩)
    exact ⟨.ref h'.objs.size, _, I2, rfl, q _ (I1.hok.fresh (Nat.le_refl _))⟩
  · obtain ⟨its, r', pl, hz⟩ := I.tuple hq
    exact call_tuple_same pl ⟨.ref p, H, I, rfl, q⟩

noncomputable def tyV (K : PySem.W.Frag) (T : String) (x : V) (H : Hp) : Prop := match x with
  | .str _ => T = "str"
  | .int _ => T = "int"
  | .ref p => (T = "list" ∧ ∃ xs, SqL K H p xs) ∨ (T = "tuple" ∧ ∃ o, K.lookup p = some o ∧ o.cls = .type "tuple" ∧ o.dict = none) ∨
      (T = "dict" ∧ ((∃ kvs, H p = some (.dK kvs)) ∨ ∃ kvs, H p = some (.dT kvs))) ∨ (T = "set" ∧ ∃ S n, H p = some (.set S n))
  | _ => False
theorem tyV_is {pins : List (Addr × Obj)} {σ : St} {H : Hp} {s : Shared} {T : String} {x : V} {v : Value} (I : Inv X pins σ H s) (r : RelV x v) (ty : tyV X.K T x H) :
    s.TypeIs v T ∧ ∀ a, v = .ref a → ∃ ob, s.heap.get? a = some ob ∧ ob.dict = none := by
  cases x with
  | str z =>
    obtain ⟨t, rfl⟩ := r
    cases (show T = "str" from ty)
    exact ⟨typeIs_str s z t, fun _ e => nomatch e⟩
  | int i =>
    obtain ⟨t, rfl⟩ := r
    cases (show T = "int" from ty)
    exact ⟨typeIs_int s i t, fun _ e => nomatch e⟩
  | ref p =>
    cases r
    rcases ty with ⟨rfl, xs, hq⟩ | ⟨rfl, o, hk, hc, hd⟩ | ⟨rfl, hk⟩ | ⟨rfl, S, n, hk⟩
    · obtain ⟨its, _, pl, _⟩ := I.list hq
      refine ⟨pl.isList.typeIs, fun a e => ?_⟩
      cases e
      obtain ⟨o, n, e, c, hd, _⟩ := pl
      exact ⟨o, e, hd⟩
    · refine ⟨⟨o, I.kIn p o hk, hc⟩, fun a e => ?_⟩
      cases e
      exact ⟨o, I.kIn _ o hk, hd⟩
    · have z : ∃ o, s.heap.get? p = some o ∧ o.ExactDict := by
        rcases hk with ⟨kvs, hk⟩ | ⟨kvs, hk⟩
        · obtain ⟨_, _, _, _, o, _, _, e, ex, _⟩ := I.hok p _ hk
          exact ⟨o, e, ex⟩
        · obtain ⟨_, _, _, _, o, _, _, e, ex, _⟩ := I.hok p _ hk
          exact ⟨o, e, ex⟩
      obtain ⟨o, e, ex⟩ := z
      refine ⟨⟨o, e, ex.1⟩, fun a e2 => ?_⟩
      cases e2
      exact ⟨o, e, ex.2.1⟩
    · obtain ⟨o, _, _, _, e, ex, _⟩ := I.hok p _ hk
      refine ⟨⟨o, e, ex.1⟩, fun a e2 => ?_⟩
      cases e2
      exact ⟨o, e, ex.2.1⟩
  | _ => exact False.elim ty
noncomputable def tBM0 (K : PySem.W.Frag) (T : String) (r : V → List V → Hp → VK → Prop) (to : TE) : TE := fun σ H Q => to σ H fun x H1 => tyV K T x H1 ∧ r x [] H1 Q
noncomputable def tBM (K : PySem.W.Frag) (T : String) (r : V → List V → Hp → VK → Prop) (to : TE) (t : TA) : TE := fun σ H Q => to σ H fun x H1 => tyV K T x H1 ∧ t σ H1 fun xs H2 => r x xs H2 Q
variable {o e : Expr} {es : List Expr} {to : TE} {t : TA} {name : Str} {apos cpos : Pos} {T id : String} {r : V → List V → Hp → VK → Prop}
theorem pe_bm0 (pa : PlainAttrs T) (slot : Slot T name id) (hty : typeOf (.builtin id) = pure (.type "method_descriptor")) (hm : MtR X id r) (ho : PE X o to)
    (hbase : attributeBase o name X.env (eval o X.env) = eval o X.env := by rfl) (hline : (apos.endLine == cpos.line) = true := by rfl) : PE X (.Call (.Attribute o name apos) [] [] cpos) (tBM0 X.K T r to) := by
  intro pins s σ H Q I h
  refine wpAny_Call_method0_late hbase hline (thn (ho pins s σ H _ I h) fun v s1 ⟨x, H1, I1, r1, ty, q1⟩ => ?_)
  obtain ⟨h1, h2⟩ := tyV_is I1 r1 ty
  exact ⟨T, id, pa, slot, hty, h1, h2, Calls.callWith_builtin rfl (PySem.evalArgs_none (hm pins s1 σ H1 x [] v [] Q I1 r1 .nil q1))⟩
theorem pe_bm (pa : PlainAttrs T) (slot : Slot T name id) (hty : typeOf (.builtin id) = pure (.type "method_descriptor")) (hm : MtR X id r) (ho : PE X o to) (ha : PA X (e :: es) t)
    (hbase : attributeBase o name X.env (eval o X.env) = eval o X.env := by rfl)
    (hfew : ((backTo cpos (starEach (e :: es) X.env)).all (fun x => !x.1) && (backToKw cpos (keywordEach [] X.env)).all (fun x => x.1.isSome)
      && decide ((e :: es).length + ([] : List Keyword).length + (if ([] : List Keyword).isEmpty then 0 else 1) < 30)) = true := by rfl)
    (hline : (apos.endLine == cpos.line) = true := by rfl) (hs : starEach (e :: es) X.env = (false, eval e X.env) :: starEach es X.env := by rfl) (hplain : (backTo cpos (starEach es X.env)).any (·.1) = false := by rfl) :
    PE X (.Call (.Attribute o name apos) (e :: es) [] cpos) (tBM X.K T r to t) := by
  intro pins s σ H Q I h
  refine wpAny_Call_method_late hbase hfew hline rfl (thn (ho pins s σ H _ I h) fun v s1 ⟨x, H1, I1, r1, ty, q1⟩ => ?_)
  obtain ⟨h1, h2⟩ := tyV_is I1 r1 ty
  refine ⟨T, id, pa, slot, hty, h1, h2, ?_⟩
  have hA := ha cpos pins s1 σ H1 _ I1 q1
  rw [hs] at hA ⊢
  refine Calls.callWith_builtin (by show (false || (backTo cpos (starEach es X.env)).any (·.1)) = false; rw [hplain] <;> rfl) (Calls.evalArgs_plain ?_)
  exact thn hA fun us s2 ⟨vs, H2, I2, r2, q2⟩ => hm pins s2 σ H2 x vs v us Q I2 r1 r2 q2
end
end L2

namespace L2
open PySem PySem.Spec PyProof.Rows

noncomputable def MtM (X : Cx) (id : String) (r : V → List V → Hp → VK → Prop) : Prop :=
  ∀ (pins : List (Addr × Obj)) (s : Shared) (σ : St) (H : Hp) (x : V) (xs : List V) (v : Value) (us : List Value) (Q : VK), Inv X pins σ H s → RelV x v → Vals xs us → r x xs H Q →
    wpAny (model X.prog X.w) X.A (call (.builtin id) (v :: us)) (EP X pins σ Q) X.xe s

theorem Vals.one : ∀ {x : V} {us : List Value}, Vals [x] us → ∃ u, us = [u] ∧ RelV x u
  | _, _, .cons r .nil => ⟨_, rfl, r⟩
theorem Vals.zero : ∀ {us : List Value}, Vals [] us → us = []
  | _, .nil => rfl
theorem Vals.reverse {xs : List V} {us : List Value} (h : Vals xs us) : Vals xs.reverse us.reverse := by
  induction h with
  | nil => exact .nil
  | cons r t ih => rw [List.reverse_cons, List.reverse_cons]; exact Vals.append ih (.cons r .nil)
theorem Vals.rep {xs : List V} {us : List Value} (h : Vals xs us) : ∀ k : Nat, Vals (List.replicate k xs).flatten (List.replicate k us).flatten
  | 0 => .nil
  | k + 1 => by
    rw [List.replicate_succ, List.replicate_succ, List.flatten_cons, List.flatten_cons]
    exact Vals.append h (Vals.rep h k)
theorem foldl_rep (its : List Value) : ∀ (k : Nat) (acc : List Value),
    List.foldl (fun x1 x2 => x1 ++ x2) acc.toArray (List.replicate k its.toArray) = (acc ++ (List.replicate k its).flatten).toArray
  | 0, acc => by simp
  | k + 1, acc => by
    have e : acc.toArray ++ its.toArray = (acc ++ its).toArray := by simp
    have e2 : (acc ++ its) ++ (List.replicate k its).flatten = acc ++ (List.replicate (k + 1) its).flatten := by
      rw [List.replicate_succ, List.flatten_cons, List.append_assoc]
    rw [← e2, ← foldl_rep its k (acc ++ its), ← e, List.replicate_succ, List.foldl_cons]

section
variable {X : Cx} {pins : List (Addr × Obj)} {σ : St} {H : Hp} {s : Shared} {l b : Addr} {xs ys zs : List V}

theorem Inv.lset {its its' : List Value} {n : Nat} {f : Array Value → Array Value} {t' : Nat} (I : Inv X pins σ H s) (hH : H l = some (.lst xs))
    (e : s.heap.get? l = some { cls := .type "list", data := .seq its.toArray n }) (hf : f its.toArray = its'.toArray) (hv : Vals ys its') (hz : ys.length ≤ sizeLine) :
    Inv X pins σ (upd H l (.lst ys)) { s with heap := s.heap.update l (Obj.mapSeq f), toks := t' } := by
  have q := PySem.IsL.update e f
  rw [hf] at q
  refine I.write (x := l) (e := l) (by rw [hH]; exact trivial) (.inl rfl) (fun b' u hb hu => (Heap.get?_update_other s.heap (Obj.mapSeq f) (Ne.symm hb)).trans hu) ⟨_, q⟩ ?_
  exact ⟨hz, its', _, hv, q⟩
theorem Inv.lnew {its : List Value} {t' : Nat} (I : Inv X pins σ H s) (hv : Vals ys its) (hz : ys.length ≤ sizeLine) :
    Inv X pins σ (upd H s.heap.objs.size (.lst ys)) { s with heap := s.heap.push { cls := .type "list", data := .seq its.toArray }, toks := t' } :=
  I.laid (fun _ _ q => Heap.get?_push_of_some _ q) (Nat.le_refl _) ⟨hz, its, 0, hv, Heap.get?_push_size _ rfl⟩
theorem Inv.fresh (I : Inv X pins σ H s) : H s.heap.objs.size = none := I.hok.fresh (Nat.le_refl _)
theorem Inv.lstM (I : Inv X pins σ H s) (hH : H l = some (.lst xs)) : xs.length ≤ sizeLine ∧ ∃ (its : List Value) (n : Nat), Vals xs its ∧ xs.length = its.length ∧ s.heap.get? l = some { cls := .type "list", data := .seq its.toArray n } := by
  obtain ⟨z, its, n, r, e⟩ := I.hok l _ hH
  exact ⟨z, its, n, r, r.length, e⟩

theorem notLongL {n : Nat} (h : n ≤ sizeLine) : Builtin.List.listTooLong n = false := by
  unfold Builtin.List.listTooLong
  exact decide_eq_false (by omega)
end

section
variable {X : Cx}

noncomputable def rAppend : V → List V → Hp → VK → Prop := fun x vs H Q => ∃ l xs y, x = .ref l ∧ vs = [y] ∧ H l = some (.lst xs) ∧ xs.length < sizeLine ∧ Q .non (upd H l (.lst (xs ++ [y])))
theorem mt_append : MtM X "list.append" rAppend := by
  intro pins s σ H x vs v us Q I rx rv h
  obtain ⟨l, xs, y, rfl, rfl, hH, hz, q⟩ := h
  cases rx
  obtain ⟨u, rfl, ru⟩ := rv.one
  obtain ⟨z, its, n, r, hl, e⟩ := I.lstM hH
  refine call_meets F.slot_list_append ⟨_, e, rfl⟩ F.entry_list_append (F.args_list_append_2 _ _) (PySem.list_append l its.toArray n u (by rw [List.size_toArray]; omega)) ⟨e, ?_⟩
  refine ⟨.non, _, I.lset (its' := its ++ [u]) hH e (by simp) (r.append (.cons ru .nil)) ?_, rfl, q⟩
  rw [List.length_append, List.length_singleton]
  omega

noncomputable def rReverse : V → List V → Hp → VK → Prop := fun x vs H Q => ∃ l xs, x = .ref l ∧ vs = [] ∧ H l = some (.lst xs) ∧ Q .non (upd H l (.lst xs.reverse))
theorem mt_reverse : MtM X "list.reverse" rReverse := by
  intro pins s σ H x vs v us Q I rx rv h
  obtain ⟨l, xs, rfl, rfl, hH, q⟩ := h
  cases rx
  have hus := rv.zero
  subst hus
  obtain ⟨z, its, n, r, hl, e⟩ := I.lstM hH
  refine call_meets F.slot_list_reverse ⟨_, e, rfl⟩ F.entry_list_reverse (F.args_list_reverse_1 _) (AutoSeq1.list_reverse_list_0 l its.toArray n (by rw [List.size_toArray]; omega)) ⟨e, ?_⟩
  refine ⟨.non, _, I.lset (its' := its.reverse) hH e (by simp) r.reverse ?_, rfl, q⟩
  rw [List.length_reverse]
  omega

noncomputable def rCat : R2 := fun x y H Q => ∃ l b xs zs, x = .ref l ∧ y = .ref b ∧ H l = some (.lst xs) ∧ H b = some (.lst zs) ∧ xs.length + zs.length ≤ sizeLine ∧ ∀ p, H p = none → Q (.ref p) (upd H p (.lst (xs ++ zs)))
theorem op_cat : OpR X (binaryOp .Add) rCat := by
  intro pins s σ H x y v u Q I rx ry h
  obtain ⟨l, b, xs, zs, rfl, rfl, hH, hB, hz, q⟩ := h
  cases rx
  cases ry
  obtain ⟨z, its, n, r, hl, e⟩ := I.lstM hH
  obtain ⟨z2, its2, n2, r2, hl2, e2⟩ := I.lstM hB
  refine PySem.P.add_list e e2 ?_ (by rw [List.size_toArray, List.size_toArray]; omega)
  have ea : its.toArray ++ its2.toArray = (its ++ its2).toArray := by simp
  rw [ea]
  exact ⟨.ref _, _, I.lnew (t' := s.toks) (r.append r2) (by rw [List.length_append]; omega), rfl, q _ I.fresh⟩
noncomputable def rRep : R2 := fun x y H Q => ∃ l k xs, x = .ref l ∧ y = .int k ∧ H l = some (.lst xs) ∧ -(2 ^ 63) ≤ k ∧ k < 2 ^ 63 ∧ xs.length * k.toNat ≤ sizeLine ∧
  ∀ p, H p = none → Q (.ref p) (upd H p (.lst (List.replicate k.toNat xs).flatten))
theorem len_rep {α : Type} (xs : List α) (k : Nat) : (List.replicate k xs).flatten.length = k * xs.length := by
  induction k with
  | zero => simp
  | succ k ih => rw [List.replicate_succ, List.flatten_cons, List.length_append, ih, Nat.succ_mul, Nat.add_comm]
theorem op_rep : OpR X (binaryOp .Mult) rRep := by
  intro pins s σ H x y v u Q I rx ry h
  obtain ⟨l, k, xs, rfl, rfl, hH, h1, h2, hz, q⟩ := h
  cases rx
  obtain ⟨t, rfl⟩ := ry
  obtain ⟨z, its, n, r, hl, e⟩ := I.lstM hH
  have hlen : its.toArray.size * k.toNat ≤ sizeLine := by rw [List.size_toArray, ← hl]; exact hz
  have hcap : ¬ its.toArray.size * k.toNat > (2 ^ 63 - 1) / 8 := by
    have : (sizeLine : Nat) ≤ (2 ^ 63 - 1) / 8 := by decide
    omega
  have hfit : ¬ (!Builtin.List.listFitsIndex k) = true := by
    rw [fitsIndex_both h1 h2]
    exact Bool.false_ne_true
  have hlong : ¬ Builtin.List.listTooLong (its.toArray.size * k.toNat) = true := by
    rw [notLongL hlen]
    exact Bool.false_ne_true
  have hnew : List.foldl (fun x1 x2 => x1 ++ x2) #[] (List.replicate (if its.toArray.isEmpty = true then 0 else k.toNat) its.toArray) = (List.replicate k.toNat its).flatten.toArray := by
    have f0 : ∀ m : Nat, List.foldl (fun x1 x2 => x1 ++ x2) #[] (List.replicate m its.toArray) = (List.replicate m its).flatten.toArray := fun m => by
      have := foldl_rep its m []
      rw [List.nil_append] at this
      exact this
    rw [f0]
    cases its with
    | nil => simp
    | cons a r' => rw [if_neg (by simp)]
  refine wpAny_binaryOp_repeat_ref (T := "list") (U := "int") (by decide) ⟨_, e, rfl⟩ (fun s' => typeIs_int s' k t) noFill_list_mul F.fills_int_mul F.slot_int_rmul repeat_list F.slot_int_index.lookup
    (call_meets F.slot_int_rmul (typeIs_int s k t) F.entry_int_rmul (F.args_int_rmul_2 _ _) (int___rmul___int_list k t l its.toArray n)
      ⟨e, rfl, ⟨_, e, rfl⟩, call_meets F.slot_list_mul ⟨_, e, rfl⟩ F.entry_list_mul (F.args_list_mul_2 _ _) (AutoListH.list___mul___list_int_3 l its.toArray n k t hfit hcap hlong) ⟨e, ?_⟩⟩)
  rw [hnew]
  exact ⟨.ref _, _, I.lnew (t' := s.toks) (r.rep k.toNat) (by rw [len_rep, Nat.mul_comm]; exact hz), rfl, q _ I.fresh⟩

end

section
variable {prog : Program} {w : World} {A : Around} {E : Value → Shared → Prop} {s : Shared}
end

section
variable {X : Cx}
end
end L2

namespace Att
open PySem PySem.W PySem.Calls PyProof.Rows

theorem ints_of_wellAll {P : Params} {h : Heap} : ∀ (ns : List Int) (vs : List Value), WellAll P h vs (ns.map WData.int) → IntsAre vs ns := by
  intro ns
  induction ns with
  | nil =>
    intro vs w
    rw [List.map_nil] at w
    cases w
    exact .nil
  | cons n ns ih =>
    intro vs w
    rw [List.map_cons] at w
    cases w with
    | cons a b =>
      cases a
      exact .cons _ _ (ih _ b)

theorem script_of {l : OpenLaw} {n : Nat} (hn : l.most = some n) {P : Params} {h : Heap} {args : List WData} {vals : List Value}
    (hpre : l.row.toRowW.claim.pre args = true) (hwl : WellAll P h vals args) :
    ∃ a vs ns, vals = [Value.ref a] ∧ args = [WData.list (ns.map WData.int)] ∧ h.get? a = some { cls := .type "list", data := .seq vs.toArray } ∧ IntsAre vs ns ∧ ns.length ≤ n := by
  have hsh : WShape.hasAll [] args [.list .int] = true := (pre_splitW hpre).1
  have hc : l.pre.holds [] { args := args } = true := (pre_splitW hpre).2
  obtain ⟨d, r, rfl, h1, h2⟩ := hasAllW_cons hsh
  obtain rfl := hasAllW_nil h2
  obtain ⟨xs, rfl, h3⟩ := hasW_list h1
  obtain ⟨ns, rfl⟩ := items_int h3
  have hlen : ns.length ≤ n := by
    unfold OpenLaw.pre at hc
    have h4 : (WTm.not (.lt (.lit (.int (n : Int))) (.len (.arg 0)))).holds [] { args := [.list (ns.map .int)] } = true := by
      have h4 := (holds_andW hc).1
      rw [hn] at h4
      exact h4
    have h5 := condW_of h4 (w_not (w_lt w_lit (w_len_list (w_arg rfl))))
    rw [List.length_map] at h5
    refine Nat.le_of_not_lt fun q => ?_
    have q' : (n : Int) < ((ns.length : Nat) : Int) := by omega
    first
      | (rw [decide_eq_true q'] at h5; exact absurd h5 (by decide))
      | (simp at h5; omega)
  cases hwl with
  | cons w1 w2 =>
    cases w2
    cases w1 with
    | list ho hall => exact ⟨_, _, ns, rfl, rfl, ho, ints_of_wellAll ns _ hall, hlen⟩

theorem post_true (l : OpenLaw) (args : List WData) : l.row.toRowW.claim.post args (.bool true) args = true :=
  postW_of (r := l.row.toRowW) (X := (true == true))
    (show WShape.has [] (.bool true) .bool = true by first | rfl | decide | simp [WShape.has, WShape.arms, WShape.armsAll])
    (show (WTm.eq .res (.lit (.bool true))).value [] { args := args, res := some (.bool true), after := args } = some (.bool (true == true)) from w_eq_bool (w_res rfl) w_lit) rfl

theorem attach_call {l : OpenLaw} {n : Nat} {q : Program} {loose : List Str} {XP : (Str → Option Value) → Heap → Prop} {YP : World → Heap → Prop} {d : DefRec}
    (hn : l.most = some n) (hdf : d.params.defaults = [])
    (call : ∀ (w : World) (s₀ s₁ : Shared) (mg mb : Str → Option Value) (fa : Addr) (o : Obj) (pm cd doc : Value) (a : Addr) (vs : List Value) (ns : List Int),
      Ground q loose [] XP w s₀ mg mb s₁.heap → YP w s₁.heap →
      s₁.heap.get? fa = some o → o.data = .func (docDef d.name d.params d.body d.scope pm cd doc) → s₁.heap.CodeRec cd d.name → mg d.name = some (.ref fa) →
      s₁.heap.get? a = some { cls := .type "list", data := .seq vs.toArray } → IntsAre vs ns → ns.length ≤ n → s₁.gens = #[] →
      codeAny (model l.prog w) callerA (.call (.ref fa) ⟨[.ref a], []⟩) (fun r s' => r = .ok (.ret (.bool true)) ∧ OldK s₁.heap s'.heap ∧ s'.os = s₁.os ∧ AllBare s'.gens) s₁) :
    WalkO q loose XP YP l.row.toRowW d [] (fun f vs => PySem.call f vs) := by
  intro w s₀ s₁ mg mb G Y fa o pm cd doc dV kV ho hd hcd hD hmg hg args vals as hpre hlay hrd hwl hlo
  obtain rfl : dV = .none := Dflts.none hD hdf
  obtain rfl : kV = .none := Dflts.noKw hD
  obtain ⟨a, vs, ns, rfl, rfl, hobj, hints, hlen⟩ := script_of hn hpre hwl
  refine enter_call (codeAny_mono (call w s₀ s₁ mg mb fa o pm cd doc a vs ns G Y ho (fd_plain hd) hcd hmg hobj hints hlen hg) fun r s' hq => ?_)
  obtain ⟨rfl, h2, h3, h4⟩ := hq
  exact ⟨.inl ⟨.bool true, .bool true, [], rfl, fun _ => rfl, .bool true, post_true l _, fun _ => ⟨List.Pairwise.nil, fun _ hm => (nomatch hm)⟩⟩, h2, h3, h4⟩

section
variable {prog : Program} {w : World} {A : Around} {E : Value → Shared → Prop} {s : Shared} {K : Frag}

theorem get_field {x C : Addr} {ox : Obj} {es : List DictEntry} {n : Nat} {name : Str} {expr : Bool} {v : Value} {Q : Value → Shared → Prop}
    (X : K.In s.heap) (I : PySem.W.InstAt s.heap x ox C (some (dictOf es n))) (hg : plainGet K C name = true) (hh : hasDictIn K C = true) (ha : findIn K (.ref C) name = some none)
    (hl : getL name es = some (some v)) (hv : handedIn v = true) (h : Q v { s with toks := s.toks + 1 }) : wpAny (model prog w) A (getAttr (.ref x) name expr) Q E s :=
  get_value X I (plainGet_of hg).1 (findObj_own hh ha rfl hl) hv h

end
end Att

namespace L2
open PySem PySem.Spec PyProof.Rows

theorem vals_ints : ∀ {vs : List Value} {ns : List Int}, IntsAre vs ns → Vals (ns.map V.int) vs
  | _, _, .nil => .nil
  | _, _, .cons n t h => .cons ⟨t, rfl⟩ (vals_ints h)

noncomputable def Only (H : Hp) : Prop := ∀ b, H b = none ∨ ∃ o xs, H b = some (.frz o (.lst xs))

theorem law_call {P : Program} {w : World} {K : PySem.W.Frag} {mg mb : Str → Option Value} {CX : CXT} {k : Nat} {fa a : Addr} {fd : FuncData} {x : Str} {sp : Sp} {s₁ : Shared} {vs : List Value} {ns : List Int}
    (KX : K.In s₁.heap) (hns : s₁.heap.Ns mainGlobals mg) (hb : s₁.heap.Ns builtinsNs mb) (hbb : ∀ x : Str, x ≠ "__name__" → mb x = bootBuiltins x) (hlim : s₁.heap.NoLimit) (hg : s₁.gens = #[])
    (ha : s₁.heap.get? a = some { cls := .type "list", data := .seq vs.toArray }) (hi : IntsAre vs ns) (hl : ns.length ≤ sizeLine) (hr : Room k callerA)
    (F : ∀ base : Heap, K.In base → base.Ns mainGlobals mg → FnOk P w K mg base CX k fa fd [x] sp) (hbind : ∀ (s : Shared) (u : Value), BindsTo s fd ⟨[u], []⟩ [(x, u)])
    (hsp : ∀ H : Hp, Only H → SqL K H a (ns.map V.int) → sp [.ref a] H (fun v _ => v = .bl true) fun _ _ _ => False)
    (hCX : ∀ H e s', CX [] H s₁ (fun _ _ _ => False) e s' → False) :
    codeAny (model P w) callerA (.call (.ref fa) ⟨[.ref a], []⟩) (fun r s' => r = .ok (.ret (.bool true)) ∧ OldK s₁.heap s'.heap ∧ s'.os = s₁.os ∧ AllBare s'.gens) s₁ := by
  have rv := vals_ints hi
  have lenV := hi.length
  -- from an abstract heap in which nothing but the script may be tracked
  have core : ∀ H : Hp, Only H → SqL K H a (ns.map V.int) → HOk P w H s₁.heap → (∀ b, H b ≠ none → b = a) → (H a ≠ none → K.lookup a = none) →
      codeAny (model P w) callerA (.call (.ref fa) ⟨[.ref a], []⟩) (fun r s' => r = .ok (.ret (.bool true)) ∧ OldK s₁.heap s'.heap ∧ s'.os = s₁.os ∧ AllBare s'.gens) s₁ := by
    intro H hO hS hok hA hK
    have base_of : ∀ {b : Addr} {o : Obj}, s₁.heap.get? b = some o → H b = none → (hidT s₁.heap H).get? b = some o := fun e n => hidT_get e n
    have noA : ∀ {b : Addr} {o : Obj} {es : Array DictEntry} {ep : Nat}, s₁.heap.get? b = some o → o.data = .dict es ep → H b = none := fun {b o es ep} e d => by
      cases q : H b with
      | none => rfl
      | some u =>
        have e' : b = a := hA b (by rw [q]; simp)
        subst e'
        rw [ha] at e; cases e
        have d' : Data.seq vs.toArray _ = Data.dict es ep := d
        cases d'
    have nsK : ∀ {b : Addr} {m : Str → Option Value}, s₁.heap.Ns b m → (hidT s₁.heap H).Ns b m := fun {b m} ⟨o, es, ep, e, d, r⟩ => ⟨o, es, ep, base_of e (noA e d), d, r⟩
    have hKb : K.In (hidT s₁.heap H) := fun b o e => base_of (KX b o e) (by
      cases q : H b with
      | none => rfl
      | some u =>
        have e' : b = a := hA b (by rw [q]; simp)
        subst e'
        rw [hK (by rw [q]; simp)] at e; cases e)
    have hM : Mod K mg (hidT s₁.heap H) := ⟨hKb, nsK hns, ⟨mb, nsK hb, hbb⟩, let ⟨mc, h1, h2⟩ := hlim; ⟨mc, nsK h1, h2⟩⟩
    have e0 : Env0 P w K mg (hidT s₁.heap H) callerA [] s₁ H := ⟨rfl, hM, fun b o e => of_hidT e, Nat.le_of_eq (hidT_size _ _), trivial, fun b hb => absurd (show b ∈ ([] : List Addr) from hb) (by simp), hok, .of_eq hg⟩
    refine codeAny_mono ((F _ hKb (nsK hns)).run callerA [] s₁ H ⟨[.ref a], []⟩ [.ref a] [.ref a] _ _ hr e0 (hbind s₁ (.ref a)) (.cons rfl .nil) (hsp H hO hS)) fun r s' h => ?_
    cases r with
    | error e => exact (hCX H e s' h).elim
    | ok fl =>
      cases fl with
      | next => exact False.elim h
      | brk => exact False.elim h
      | cont => exact False.elim h
      | ret u =>
        obtain ⟨v, H', os, bare, un, hok', r', q⟩ := h
        have q' : v = .bl true := q
        subst q'
        obtain rfl : u = Value.bool true := r'
        refine ⟨rfl, OldK.of_keep fun b o e => ?_, os, bare⟩
        cases q : H b with
        | none => exact un.keep b o e q (by intro z; exact absurd (show b ∈ ([] : List Addr) from z) (by simp)) (by simp)
        | some u =>
          rcases hO b with z | ⟨ob, xs, z⟩
          · rw [q] at z; cases z
          · have z2 := un.frzs b ob _ z
            obtain ⟨e1, _⟩ := hok b _ z
            obtain ⟨e2, _⟩ := hok' b _ z2
            rw [e] at e1; cases e1
            exact e2
  cases hk : K.lookup a with
  | some o =>
    -- the script is one of the module's own objects
    have e := KX a o hk
    rw [ha] at e
    cases e
    refine core (fun _ => none) (fun _ => .inl rfl) (.inr ⟨_, vs.toArray, _, hk, rfl, rfl, rfl, by rw [List.size_toArray, lenV]; exact hl, by simpa using rv⟩) (fun b u z => by have z' : (none : Option HO) = some u := z; cases z') (fun b z => absurd rfl z) fun z => absurd rfl z
  | none =>
    refine core (fun b => if b = a then some (.frz { cls := .type "list", data := .seq vs.toArray } (.lst (ns.map V.int))) else none) (fun b => ?_) (.inl (.inr ⟨{ cls := .type "list", data := .seq vs.toArray }, if_pos rfl⟩)) (fun b u z => ?_) (fun b z => ?_) fun _ => hk
    · by_cases hb : b = a
      · exact .inr ⟨_, _, if_pos hb⟩
      · exact .inl (if_neg hb)
    · by_cases hb : b = a
      · have z' := (if_pos hb).symm.trans z
        cases z'
        subst hb
        exact ⟨ha, by rw [List.length_map]; exact hl, vs, _, rv, ha⟩
      · have z' := (if_neg hb).symm.trans z
        cases z'
    · by_cases hb : b = a
      · exact hb
      · exact absurd (if_neg hb) z
end L2

namespace L2
open PySem PySem.Spec PyProof.Rows

theorem walk_of {l : PySem.W.OpenLaw} {n k : Nat} {q : Program} {loose : List Str} {XP : (Str → Option Value) → Heap → Prop} {YP : World → Heap → Prop} {d : DefRec} {K : Params → PySem.W.Frag} {CX : World → CXT} {sp : World → Sp} {x : Str}
    (hn : l.most = some n) (hn2 : n ≤ sizeLine) (hdf : d.params.defaults = []) (hr : Room k callerA)
    (hY : ∀ (w : World) (h : Heap), YP w h → (K w.params).In h)
    (F : ∀ (w : World) (mg : Str → Option Value) (fa : Addr) (h : Heap), (K w.params).In h → h.Ns mainGlobals mg → mg d.name = some (.ref fa) →
      ∃ fd : FuncData, (∀ (s : Shared) (u : Value), BindsTo s fd ⟨[u], []⟩ [(x, u)]) ∧
        ∀ base : Heap, (K w.params).In base → base.Ns mainGlobals mg → FnOk l.prog w (K w.params) mg base (CX w) k fa fd [x] (sp w))
    (hsp : ∀ (w : World) (H : Hp) (a : Addr) (ns : List Int), ns.length ≤ n → Only H → SqL (K w.params) H a (ns.map V.int) → sp w [.ref a] H (fun v _ => v = .bl true) fun _ _ _ => False)
    (hCX : ∀ (w : World) (H : Hp) (s : Shared) (e : Value) (s' : Shared), CX w [] H s (fun _ _ _ => False) e s' → False) :
    PySem.W.WalkO q loose XP YP l.row.toRowW d [] (fun f vs => PySem.call f vs) := by
  refine Att.attach_call hn hdf fun w s₀ s₁ mg mb fa o pm cd doc a vs ns G Y ho hd hcd hmg hobj hints hlen hg => ?_
  have KX := hY w _ Y
  obtain ⟨fd, hb, hF⟩ := F w mg fa _ KX G.T.g hmg
  exact law_call KX G.T.g G.T.b G.T.builtins G.T.nolimit hg hobj hints (Nat.le_trans hlen hn2) hr hF hb (fun H hO hS => hsp w H a ns hlen hO hS) fun H e s' => hCX w H s₁ e s'
end L2



namespace L2
open PySem PySem.Spec PyProof.Rows

noncomputable def inClass (s : Stmt) (j : Nat) : Stmt := match s with
  | .ClassDef _ _ _ body _ _ _ _ _ _ _ => body.getD j (.Pass ⟨0, 0, 0, 0⟩)
  | _ => .Pass ⟨0, 0, 0, 0⟩
noncomputable def defArgs (s : Stmt) : Arguments := match s with
  | .FunctionDef _ a _ _ _ _ _ _ _ _ => a
  | _ => { posonlyargs := [], args := [], vararg := none, kwonlyargs := [], kw_defaults := [], kwarg := none, defaults := [] }
noncomputable def defBody (s : Stmt) : List Stmt := match s with
  | .FunctionDef _ _ b _ _ _ _ _ _ _ => b
  | _ => []
noncomputable def defScope (s : Stmt) : Scope := match s with
  | .FunctionDef _ _ _ _ _ _ sc _ _ _ => sc
  | _ => { kind := .function, names := [], isGenerator := false, isCoroutine := false }

noncomputable abbrev CX0 : CXT := fun _ _ _ _ _ _ => False
noncomputable abbrev E0 : XK := fun _ _ _ => False
theorem pass0 {X : Cx} : Passes CX0 X E0 := fun _ _ _ _ _ _ _ h => h.elim

structure Fun (K : PySem.W.Frag) (x qual : Str) (st : Stmt) (f : Addr) (fd : FuncData) : Prop where
  ex : ∃ (oc : Value) (od : Option Addr) (kV doc pm : Value) (an : Option Addr) (cdv ct : Value) (osl : Array (Option Value)),
    fd = PySem.W.fnOf x qual (defArgs st) (defBody st) (defScope st) .none kV doc pm an cdv ct ∧ K.lookup f = some ⟨oc, od, .func fd, osl⟩ ∧ PySem.W.codeIn K cdv qual = true
  kp : PySem.W.keepIn K (.ref f) = true
section
variable {P : Program} {w : World} {K : PySem.W.Frag} {mg : Str → Option Value} {base : Heap}
theorem Fun.ok {x qual : Str} {st : Stmt} {f : Addr} {fd : FuncData} {N ps : List Str} {k : Nat} {sp : Sp} (F : Fun K x qual st f fd) (S : FnScope N ps (defScope st)) (len : ∀ vs H Q E, sp vs H Q E → vs.length = ps.length)
    (hbody : ∀ (cdv : Value) (A : Around) (outer : List Env) (s : Shared) (H : Hp) (vs : List V) (Q : VK) (E : XK), Room k (A.deeper (envOfC qual (defScope st) s.heap.objs.size f cdv)) → sp vs H Q E →
      ∃ t, PSs (cxOf CX0 P w K mg base N qual (defScope st) f cdv A outer s H E).nox (defBody st) t ∧ t { nx := fun _ H' => Q .non H', rt := Q } (start N vs) H) : FnOk P w K mg base CX0 (k + 1) f fd ps sp := by
  obtain ⟨oc, od, kV, doc, pm, an, cdv, ct, osl, rfl, lk, hcd⟩ := F.ex
  refine fn_of lk hcd S len fun A outer s H vs Q E hr hsp => ?_
  obtain ⟨t, h, q⟩ := hbody cdv A outer s H vs Q E hr hsp
  exact ⟨t, h.nox, q⟩
theorem Fun.binds {x qual : Str} {st : Stmt} {f : Addr} {fd : FuncData} {ps : List Str} (F : Fun K x qual st f fd)
    (h : ∀ (kV doc pm : Value) (an : Option Addr) (cdv ct : Value) (us : List Value), us.length = ps.length → bindArgs (PySem.W.fnOf x qual (defArgs st) (defBody st) (defScope st) .none kV doc pm an cdv ct) ⟨us, []⟩ = pure (ps.zip us)) : Binds K fd ps [] := by
  obtain ⟨oc, od, kV, doc, pm, an, cdv, ct, osl, rfl, lk, hcd⟩ := F.ex
  exact .all (h kV doc pm an cdv ct)
theorem fun_mk {x qual : Str} {st : Stmt} {f : Addr} {oc : Value} {od an : Option Addr} {osl : Array (Option Value)} {kV doc pm cdv ct : Value} (l : K.lookup f = some ⟨oc, od, .func (PySem.W.fnOf x qual (defArgs st) (defBody st) (defScope st) .none kV doc pm an cdv ct), osl⟩)
    (c : PySem.W.codeIn K cdv qual = true) (k : PySem.W.keepIn K (.ref f) = true) : Fun K x qual st f (PySem.W.fnOf x qual (defArgs st) (defBody st) (defScope st) .none kV doc pm an cdv ct) := ⟨⟨oc, od, kV, doc, pm, an, cdv, ct, osl, rfl, l, c⟩, k⟩
end
theorem small1000 {n : Nat} (h : n ≤ 1000) : n < sizeLine := Nat.lt_of_le_of_lt h (by decide)

section
variable {X : Cx}
theorem pv (i : Nat) {x : Str} {pos : Pos} (hN : X.N[i]? = some x := by rfl) (hv : Vis X.env.scope x := by first | exact Or.inl rfl | exact Or.inr (Or.inl rfl) | exact Or.inr (Or.inr rfl)) (hd : (x == ("__debug__" : Str)) = false := by decide)
    (hcd : (x == ("__classdict__" : Str)) = false := by decide) : PE X (.Name x pos) (tVar i) := pe_var hN hv hd hcd
end

noncomputable def Same (H H' : Hp) : Prop := ∀ b o, H b = some o → H' b = some o
theorem Same.refl (H : Hp) : Same H H := fun _ _ h => h
theorem Same.trans {H H1 H2 : Hp} (a : Same H H1) (b : Same H1 H2) : Same H H2 := fun c o h => b c o (a c o h)
theorem Same.free {H H' : Hp} (e : Same H H') {l : Addr} (h : H' l = Option.none) : H l = Option.none := by
  cases q : H l with
  | none => rfl
  | some o =>
    rw [e l o q] at h
    cases h
theorem Same.seq {K : PySem.W.Frag} {H H' : Hp} {a : Addr} {xs : List V} (e : Same H H') (h : SqL K H a xs) : SqL K H' a xs := by
  rcases h with (h | ⟨o, h⟩) | h
  · exact .inl (.inl (e _ _ h))
  · exact .inl (.inr ⟨o, e _ _ h⟩)
  · exact .inr h

end L2

namespace L2
open PySem PySem.Spec PyProof.Rows

section
variable {X : Cx} {pins : List (Addr × Obj)} {σ : St} {H : Hp} {s : Shared}
theorem Inv.adopt {D : Addr} {o : HO} (I : Inv X pins σ H s) (hn : H D = none) (hL : D ≠ X.env.locals)
    (h1 : D ∈ X.ex ∨ X.s₀.heap.objs.size ≤ D) (h2 : ∀ x c, X.env.cells.lookup x = some c → c ≠ D) (h3 : ∀ p ∈ X.pn ++ pins, p.1 ≠ D)
    (new : ObjOk X.prog X.w (upd H D o) s.heap D o) : Inv X pins σ (upd H D o) s := by
  have nit : ∀ b u, H b = some u → b ≠ D := fun b u e z => by rw [z, hn] at e; cases e
  have keep : ∀ b u, H b = some u → upd H D o b = some u := fun b u e => by rw [upd_ne (nit b u e)]; exact e
  refine I.step (h' := s.heap) (g' := s.gens) (d' := s.drawn) (t' := s.toks) (ch := [D]) (fun b hb => ?_) (fun b o _ _ _ e _ => e) (fun b o _ _ _ e _ => ⟨o.slots, e⟩) (fun b u hc e n => ?_)
    (fun b o _ e => ⟨o, e⟩) (fun b xs e => keep b _ e) (fun b o u e => keep b _ e) (fun b ps e => ⟨#[], by rw [keep b _ e]; simp⟩) (fun m hm => hm) (fun b u e => ?_) I.bare
  · have e : b = D := by simpa using hb
    subst e
    exact ⟨h1, hL, h2, h3⟩
  · rw [upd_ne (fun z => hc (by simp [z]))]; exact n
  · by_cases hb : b = D
    · subst hb; rw [upd_same] at e; cases e; exact new
    · rw [upd_ne hb] at e
      exact (I.hok b u e).stay (fun c v _ q => q) (fun c q => keep c _ q) fun c xs q => keep c _ q
end

noncomputable def cxComp (X : Cx) (N : List Str) (scope : Scope) (cl : List (Str × Addr)) (fp : List Addr) (C : Addr) (s : Shared) (H : Hp) : Cx :=
  { X with N := N, s₀ := s, H₀ := H, env := compEnvC scope cl C X.env, outer := X.stack, ex := fp, fn := fun _ => false, pn := [], xe := fun _ _ => False }

noncomputable def FrOk (X : Cx) (scope : Scope) (cl : List (Str × Addr)) : List Str → Prop
  | [] => True
  | x :: r => (X.env.kindOf x = some .cell ∧ (relabel scope X.env).names.lookup x = some .cell ∧ ∃ c, cl.lookup x = some c ∧ X.env.cells.lookup x = some c) ∧ FrOk X scope cl r
theorem FrOk.mem {X : Cx} {scope : Scope} {cl : List (Str × Addr)} : ∀ {l : List Str}, FrOk X scope cl l → ∀ x ∈ l,
    X.env.kindOf x = some .cell ∧ (relabel scope X.env).names.lookup x = some .cell ∧ ∃ c, cl.lookup x = some c ∧ X.env.cells.lookup x = some c
  | [], _, _, h => nomatch h
  | y :: r, ⟨h1, h2⟩, x, h => by
    rcases List.mem_cons.mp h with e | e
    · subst e; exact h1
    · exact FrOk.mem h2 x e
noncomputable def ClOk (X : Cx) : List (Str × Addr) → Prop
  | [] => True
  | p :: r => X.env.cells.lookup p.1 = some p.2 ∧ ClOk X r
theorem ClOk.get {X : Cx} : ∀ {l : List (Str × Addr)}, ClOk X l → ∀ x c, l.lookup x = some c → X.env.cells.lookup x = some c
  | [], _, _, _, h => by simp at h
  | p :: r, ⟨h1, h2⟩, x, c, h => by
    obtain ⟨n, a⟩ := p
    cases e : x == n with
    | true =>
      have e' : x = n := by simpa using e
      subst e'
      simp only [List.lookup_cons, e] at h
      cases h
      exact h1
    | false =>
      simp only [List.lookup_cons, e] at h
      exact ClOk.get h2 x c h

structure CompOk (X : Cx) (N tgs frs : List Str) (ix : List Nat) (scope : Scope) (cl : List (Str × Addr)) : Prop where
  clos : closureFor scope X.env = pure cl
  cell : ∀ y ∈ scope.names, y.2 ≠ .cell
  kind : scope.kind = .function
  names : ∀ y ∈ scope.names, y.2 = .local → scope.names.lookup y.1 = some .local
  nm : N = tgs ++ frs
  ixs : ix.map (X.N[·]?) = frs.map some
  fr : FrOk X scope cl frs
  cls : ClOk X cl
  has : (relabel scope X.env).names.all (fun p => !(p.2 == .cell || p.2 == .free) || (cl.lookup p.1).isSome) = true

noncomputable def stComp (tgs : List Str) (ix : List Nat) (σ : St) : St := List.replicate tgs.length none ++ ix.map fun j => (σ[j]?).getD none

section
variable {X : Cx} {N tgs frs : List Str} {ix : List Nat} {scope : Scope} {cl : List (Str × Addr)}

theorem stComp_get {σ : St} {i : Nat} {x : Str} {v : V} (c : CompOk X N tgs frs ix scope cl) (h1 : N[i]? = some x) (h2 : (stComp tgs ix σ)[i]? = some (some v)) : x ∈ frs ∧ ∃ j : Nat, X.N[j]? = some x ∧ σ[j]? = some (some v) := by
  unfold stComp at h2
  by_cases hi : i < tgs.length
  · rw [List.getElem?_append_left (by simpa using hi), List.getElem?_replicate, if_pos hi] at h2
    cases h2
  · rw [List.getElem?_append_right (by simpa using hi), List.length_replicate, List.getElem?_map] at h2
    rw [c.nm, List.getElem?_append_right (by omega)] at h1
    have e := congrArg (·[i - tgs.length]?) c.ixs
    simp only [List.getElem?_map, h1] at e
    cases q : ix[i - tgs.length]? with
    | none => rw [q] at e; cases e
    | some j =>
      rw [q] at e h2
      simp only [Option.map_some, Option.some.injEq] at e h2
      refine ⟨List.mem_of_getElem? h1, j, e, ?_⟩
      cases z : σ[j]? with
      | none => rw [z] at h2; cases h2
      | some o => rw [z] at h2; simp at h2; rw [h2]

theorem lookup_mem {l : List (Str × NameKind)} {x : Str} {k : NameKind} (h : l.lookup x = some k) : (x, k) ∈ l := PySem.mem_of_lookup h

theorem CompOk.hasOf (c : CompOk X N tgs frs ix scope cl) {x : Str} (h : (relabel scope X.env).names.lookup x = some .cell ∨ (relabel scope X.env).names.lookup x = some .free) : ∃ a, cl.lookup x = some a := by
  have all := List.all_eq_true.mp c.has
  rcases h with h | h
  · have q := all _ (lookup_mem h)
    exact Option.isSome_iff_exists.mp (by simpa only [beq_self_eq_true, Bool.true_or, Bool.not_true, Bool.false_or] using q)
  · have q := all _ (lookup_mem h)
    exact Option.isSome_iff_exists.mp (by simpa only [beq_self_eq_true, Bool.or_true, Bool.not_true, Bool.false_or] using q)

theorem inv_comp {pins : List (Addr × Obj)} {σ : St} {H : Hp} {s2 : Shared} {fp : List Addr} {h1 : Heap} {tk : Nat} {C : Addr} {m : Str → Option Value} (c : CompOk X N tgs frs ix scope cl) (I : Inv X pins σ H s2) (hf : ∀ b ∈ fp, FpOk X pins H b) (hfl : ∀ b ∈ fp, b < s2.heap.objs.size)
    (hC : s2.heap.objs.size ≤ C) (hns : h1.Ns C m) (hk : ∀ b o, s2.heap.get? b = some o → h1.get? b = some o) {pins' : List (Addr × Obj)}
    (hpin : ∀ p ∈ pins', h1.get? p.1 = some p.2 ∧ s2.heap.objs.size ≤ p.1 ∧ p.1 ≠ C ∧ ∀ v, p.2.data ≠ .cell v) :
    Inv (cxComp X N scope cl fp C s2 H) pins' (stComp tgs ix σ) H { s2 with heap := h1, toks := tk } := by
  have hcn : ∀ x a, cl.lookup x = some a → X.env.cells.lookup x = some a := c.cls.get
  have clt : ∀ x a, cl.lookup x = some a → a < s2.heap.objs.size := fun x a e => by
    obtain ⟨v, q⟩ := I.cell x a (hcn x a e)
    exact q.lt
  refine ⟨⟨I.ok.mod, c.kind, I.ok.glob, I.ok.blt, hC, fun x y a h1 h2 => I.ok.inj x y a (hcn _ _ h1) (hcn _ _ h2), fun x hx => c.hasOf hx, (fun x a z _ => Bool.noConfusion z), I.ok.hd, I.ok.frames, .inl rfl, fun b hb => ⟨?_, fun x a e => ?_⟩, I.bs, Nat.le_trans I.ok.bsz I.sz, fun b o e hb => ?_, fun b hb z => ?_, I.stack, I.stkFree⟩,
    rfl, I.bare, Un.kept hk, ⟨m, hns, fun i x v e1 e2 e3 => ?_⟩, fun x a e => ?_, I.hok.fresh hC, fun x a e => I.freeC x a (hcn x a e), fun p hp => ?_, I.hok.kept hk, ?_⟩
  · exact Nat.ne_of_lt (Nat.lt_of_lt_of_le (hfl b hb) hC)
  · exact (hf b hb).2.2.2.2.1 x a (hcn x a e)
  · rcases (hf b hb).2.2.2.1 with z | z
    · exact I.ok.noex b o e z
    · exact absurd (Nat.lt_of_lt_of_le (Heap.lt_size (I.ok.bs b o e).1) z) (Nat.lt_irrefl _)
  · rcases List.mem_cons.mp (I.stkSub b z) with e | e
    · exact (hf b hb).2.1 e
    · exact (hf b hb).2.2.1 e
  · obtain ⟨hx, j, n1, n2⟩ := stComp_get c e1 e2
    obtain ⟨k1, k2, a, l1, l2⟩ := c.fr.mem x hx
    obtain ⟨m', _, hl⟩ := I.loc
    obtain ⟨u, r, l⟩ := hl j x v n1 n2 (.inr (.inl k1))
    refine ⟨u, r, .inr ⟨.inl k2, a, l1, ?_⟩⟩
    rcases l with ⟨l, _⟩ | ⟨_, a', l3, o, l4, l5⟩
    · rw [k1] at l; cases l
    · rw [l2] at l3; cases l3
      exact ⟨o, hk _ _ l4, l5⟩
  · obtain ⟨v, o, q1, q2⟩ := I.cell x a (hcn x a e)
    exact ⟨v, o, hk _ _ q1, q2⟩
  · have hp' : p ∈ pins' := by simpa [cxComp] using hp
    obtain ⟨q1, q2, q3, q4⟩ := hpin p hp'
    exact ⟨q1, I.hok.fresh q2, q3, fun z => by
      rcases List.mem_cons.mp (I.stkSub p.1 z) with e | e
      · exact absurd (Nat.lt_of_lt_of_le I.lt q2) (by rw [e]; exact Nat.lt_irrefl _)
      · exact I.nofs q2 e, q4⟩
  · show (stComp tgs ix σ).length = N.length
    unfold stComp
    have e := congrArg List.length c.ixs
    simp only [List.length_map] at e
    rw [c.nm]; simp [e]

theorem compLoop_gen {prog : Program} {w : World} {A : Around} {R : Result → Shared → Prop} {s : Shared} {elt target iter : Expr} {pos : Pos} {it acc : Value} {env : Env} (I : Nat → Shared → Prop)
    (turn : ∀ n s, I n s → wpAny (model prog w) A (pyNext it) (fun r s1 => match r with
      | none => R (.ok .next) s1
      | some v => wpAny (model prog w) A (letOwnedTupleGo target it v) (fun _ s1' => wpAny (model prog w) A (assign target env v) (fun _ s2 => wpAny (model prog w) A (eval elt env) (fun x s3 =>
          wpAny (model prog w) A (call (.builtin "list.append") [acc, x]) (fun _ s4 => ∃ m, m < n ∧ I m s4) (fun _ _ => False) s3)
          (fun _ _ => False) s2) (fun _ _ => False) s1') (fun _ _ => False) s1) (fun _ _ => False) s)
    (n : Nat) (h : I n s) :
    codeAny (model prog w) A (.compLoop (.ListComp elt [⟨target, iter, [], 0⟩] scope pos) 0 it acc env) R s := by
  have up : ∀ {α : Type} {t : Sem α} {Q Q' : α → Shared → Prop} {E : Value → Shared → Prop} {s : Shared}, wpAny (model prog w) A t Q (fun _ _ => False) s → (∀ a s, Q a s → Q' a s) → wpAny (model prog w) A t Q' E s := fun h hq => wpAny_mono h hq fun _ _ f => f.elim
  refine codeAny_loop rfl I (fun n s hI => ?_) n h
  show wpAny _ _ ((compTurn (.ListComp elt [⟨target, iter, [], 0⟩] scope pos) 0 it acc env).onRaise (fun x => do noteFrame x env; theTreesLotGoes x)) _ _ s
  refine wpAny_noted ?_
  rw [compTurn_list1]
  refine wpAny_bind (wpAny_standAt (wpAny_bind (up (turn n s hI) (fun r s1 h1 => ?_))))
  cases r with
  | none => exact wpAny_pure h1
  | some v =>
    refine wpAny_bind (up h1 fun _ s1' h1' => ?_)
    exact wpAny_bind (up h1' (fun _ s2 h2 => wpAny_bind (wpAny_bind (up h2 (fun x s3 h3 => wpAny_bind (up h3
      (fun _ s4 h4 => wpAny_pure (wpAny_pure ⟨rfl, h4⟩))))))))

noncomputable def tComp (wi : TI) (g : TG) (te : TE) (tgs : List Str) (ix : List Nat) : TE := fun σ H Q => wi σ H fun J H1 =>
  ∃ W : Nat → Nat → List V → St → Hp → Prop, (∃ m, W 0 m [] (stComp tgs ix σ) H1) ∧ ∀ i m xs σc H, W i m xs σc H → xs.length < sizeLine ∧
    ((J.stop i H ∧ ∀ p, H p = none → Q (.ref p) (upd H p (.lst xs))) ∨ (J.go i H ∧ ∀ x H', J.yld i H x H' → g x σc H' fun σ2 H2 => te σ2 H2 fun y H3 => ∃ m', m' < m ∧ W (i + 1) m' (xs ++ [y]) σ2 H3))

noncomputable abbrev lstObj (us : List Value) (k : Nat) : Obj := { cls := .type "list", data := .seq us.toArray k }

theorem pe_comp {elt iter tg : Expr} {pos : Pos} {wi : TI} {g : TG} {te : TE} (c : CompOk X N tgs frs ix scope cl) (hc : X.calm = true) (hi : PI X tg iter wi)
    (hg : ∀ fp C s H, PG (cxComp X N scope cl fp C s H) tg g) (he : ∀ fp C s H, PE (cxComp X N scope cl fp C s H) elt te)
    (hs : ∀ x, foldedSetIterable iter X.env x = pure x := by intro _; rfl) :
    PE X (.ListComp elt [⟨tg, iter, [], 0⟩] scope pos) (tComp wi g te tgs ix) := by
  intro pins s σ H Q I h
  rw [eval_ListComp]
  refine wpAny_comprehension_free (use := none) rfl hs c.clos c.kind c.names (thn (hi pins s σ H _ I h) fun xv s1 h1 => thn h1 fun itv s2 h2 => ?_)
  obtain ⟨it, fp, tn, J, H2, rfl, I2, T, st2, f2, W, ⟨m0, w0⟩, turn⟩ := h2
  have hfl : ∀ b ∈ fp, b < s2.heap.objs.size := fun b hb => by
    obtain ⟨o, e, _⟩ := T.obj _ _ st2 b hb
    exact Heap.lt_size e
  have hcn : ∀ x a, cl.lookup x = some a → X.env.cells.lookup x = some a := c.cls.get
  refine wpAny_newObj_type (wpAny_newFunctionEnv c.cell (by intro y hy; simp at hy) (fun h1 hns1 hsb1 => ?_) c.kind)
  dsimp only at hns1 hsb1 ⊢
  generalize hH2 : s2.heap.push { cls := .type "list", dict := none, data := .seq ([] : List Value).toArray } = G2 at hns1 hsb1 ⊢
  have hC : G2.objs.size = s2.heap.objs.size + 1 := by rw [← hH2, Heap.size_push]
  generalize hCC : G2.objs.size = C at *
  generalize hDD : s2.heap.objs.size = D at *
  have hDC : D ≠ C := by omega
  have hCle : D ≤ C := by omega
  have old : ∀ b o, s2.heap.get? b = some o → h1.get? b = some o := fun b o e => by
    have lt : b < s2.heap.objs.size := Heap.lt_size e
    exact hsb1.extBut b o (Nat.ne_of_lt (Nat.lt_of_lt_of_le (hDD ▸ lt) hCle)) (Heap.get?_push_of_some _ (hH2 ▸ Heap.get?_push_of_some _ e))
  have hacc : h1.get? D = some (lstObj [] 0) := hsb1.extBut _ _ hDC (Heap.get?_push_of_some _ (hH2 ▸ (hDD ▸ Heap.get?_push_size _ rfl)))
  have cellD : ∀ x a, X.env.cells.lookup x = some a → a < D := fun x a e => by
    obtain ⟨v, q⟩ := I2.cell x a e
    exact hDD ▸ q.lt
  have fpc : ∀ {H' : Hp} {us : List Value} {k : Nat}, (∀ b ∈ fp, H' b = none) → ∀ b ∈ fp, FpOk (cxComp X N scope cl fp C s2 H2) [(D, lstObj us k)] H' b := fun {H' us k} hn b hb => by
    have lb := hfl b hb
    refine ⟨hn b hb, ?_, fun z => ?_, .inl hb, fun x a e z => ?_, fun p hp => ?_⟩
    · exact Nat.ne_of_lt (Nat.lt_of_lt_of_le lb hCle)
    · rcases List.mem_cons.mp (I2.stkSub b z) with e | e
      · exact (f2 b hb).2.1 e
      · exact (f2 b hb).2.2.1 e
    · exact (f2 b hb).2.2.2.2.1 x a (hcn x a e) z
    · have : p = (D, lstObj us k) := by simpa [cxComp] using hp
      rw [this]; exact Nat.ne_of_gt lb
  have D_fs : D ∉ (cxComp X N scope cl fp C s2 H2).fs := fun z => by
    rcases List.mem_cons.mp (I2.stkSub D z) with e | e
    · exact absurd I2.lt (by rw [← e, hDD]; exact Nat.lt_irrefl _)
    · exact I2.nofs (Nat.le_of_eq hDD) e
  have I3 := inv_comp (tk := s2.toks + ([] : List (Str × Value)).length) (pins' := [(D, lstObj [] 0)]) c I2 f2 (fun b hb => hDD ▸ hfl b hb) (hDD ▸ hCle : s2.heap.objs.size ≤ C) hns1 old (fun p hp => by
    have e : p = (D, lstObj [] 0) := by simpa using hp
    subst e
    exact ⟨hacc, Nat.le_of_eq hDD, hDC, fun v z => by cases z⟩)
  have tn3 : tn 0 h1 := T.keep _ _ _ st2 fun b _ o e => old b o e
  have loop : codeAny (model X.prog X.w) X.A (.compLoop (.ListComp elt [⟨tg, iter, [], 0⟩] scope pos) 0 (.ref it) (.ref D) (compEnvC scope cl C X.env))
      (compPost (model X.prog X.w) X.A X.xe none (EP X pins σ Q) (.ref D) C) { s2 with heap := h1, toks := s2.toks + ([] : List (Str × Value)).length } := by
    refine compLoop_gen (fun n s' => ∃ i xs us k σc H', Inv (cxComp X N scope cl fp C s2 H2) [(D, lstObj us k)] σc H' s' ∧ tn i s'.heap ∧ (∀ b ∈ fp, H' b = none) ∧ Vals xs us ∧ W i n xs σc H') ?_ m0
      ⟨0, [], [], 0, _, H2, I3, tn3, fun b hb => (f2 b hb).1, .nil, w0⟩
    rintro n s4 ⟨i, xs, us, k, σ4, H4, I4, tn4, fr4, rv, w4⟩
    obtain ⟨hsz, tt⟩ := turn i n xs σ4 H4 w4
    rcases tt with ⟨stop, fin⟩ | ⟨go, step⟩
    · refine thn (T.done (cxComp X N scope cl fp C s2 H2) rfl rfl rfl hc i _ s4 σ4 H4 _ I4 (fpc fr4) tn4 stop) fun r s5 ⟨hr, I5⟩ => ?_
      subst hr
      obtain ⟨m, ns, _⟩ := I5.loc
      refine ⟨m, ns, fun h' sb => ?_⟩
      have J1 : Inv X pins σ H4 s5 := I2.call' I5.os I5.base I5.hok I5.bare fun b hb => ⟨(f2 b hb).2.2.2.1, (f2 b hb).2.1, (f2 b hb).2.2.2.2.1, (f2 b hb).2.2.2.2.2⟩
      have big : ∀ a, D ≤ a → a ≠ X.env.locals ∧ (a ∈ X.ex ∨ X.s₀.heap.objs.size ≤ a) ∧ (∀ x y, X.env.cells.lookup x = some y → y ≠ a) ∧ ∀ p ∈ X.pn ++ pins, p.1 ≠ a := fun a ha => by
        obtain ⟨q0, q1, q2, q3, q4, q5⟩ := I2.fpOk (b := a) (H' := fun _ => none) (hDD ▸ ha) rfl
        exact ⟨q1, q3, q4, q5⟩
      obtain ⟨b1, b2, b3, b4⟩ := big C hCle
      have J2 : Inv X pins σ H4 { s5 with heap := h' } := J1.turned (t' := s5.toks) (fun b o hb e => sb.extBut b o hb e) I5.free b1 b2 b3 b4
      obtain ⟨p1, p2, p3, p4, p5⟩ := I5.pin (D, lstObj us k) (by simp)
      obtain ⟨d1, d2, d3, d4⟩ := big D (Nat.le_refl _)
      have J3 : Inv X pins σ (upd H4 D (.lst xs)) { s5 with heap := h' } := J2.adopt p2 d1 d2 d3 d4 ⟨Nat.le_of_lt hsz, us, k, rv, sb.extBut _ _ hDC p1⟩
      exact ⟨.ref D, _, J3, rfl, fin D p2⟩
    · refine thn (T.item (cxComp X N scope cl fp C s2 H2) rfl rfl rfl hc i _ s4 σ4 H4 _ I4 (fpc fr4) tn4 go) fun r s5 ⟨u, hr, h5⟩ => ?_
      subst hr
      refine thn h5 fun _ s6 ⟨x, H6, I6, r6, y6, tn6, fr6⟩ => ?_
      have I6' := I6.pinned (fpc fr6) (T.obj _ _ tn6)
      refine thn (hg fp C s2 H2 _ s6 σ4 H6 x u _ I6' r6 (step x H6 y6)) fun _ s7 ⟨σ7, H7, I7, q7⟩ => ?_
      refine thn (he fp C s2 H2 _ s7 σ7 H7 _ I7 q7) fun yv s8 ⟨y, H8, I8, r8, m', hm, w8⟩ => ?_
      obtain ⟨p1, p2, p3, p4, p5⟩ := I8.pin (D, lstObj us k) (by simp [cxComp])
      have hsz' : us.toArray.size ≤ sizeLine := by simp; rw [← rv.length]; exact Nat.le_of_lt hsz
      refine wpAny_list_append_plain (hsz := hsz') ⟨k, p1⟩ fun h' pl sb => ?_
      have tn8 : tn (i + 1) s8.heap := T.keep _ _ _ tn6 fun b hb o e => (I8.pin (b, o) (List.mem_append_right _ (List.mem_append_right _ (mem_pinsAt hb e)))).1
      have fr8 : ∀ b ∈ fp, H8 b = none := fun b hb => by
        obtain ⟨o, e, d⟩ := T.obj _ _ tn6 b hb
        exact (I8.pin (b, o) (List.mem_append_right _ (List.mem_append_right _ (mem_pinsAt hb e)))).2.1
      have I9 : Inv (cxComp X N scope cl fp C s2 H2) [] σ7 H8 s8 := I8.pins_of fun p hp => nomatch hp
      have I10 : Inv (cxComp X N scope cl fp C s2 H2) [] σ7 H8 { s8 with heap := h' } := I9.turned (t' := s8.toks) (it := D) (fun b o hb e => sb.extBut b o hb e) p2 p3 (.inr (Nat.le_of_eq hDD))
        (fun x a e => Nat.ne_of_lt (cellD x a (hcn x a e))) (fun p hp => by simp [cxComp] at hp)
      obtain ⟨k', pl⟩ := pl
      have eu : us.toArray.push yv = (us ++ [yv]).toArray := by simp
      rw [eu] at pl
      have I11 : Inv (cxComp X N scope cl fp C s2 H2) [(D, lstObj (us ++ [yv]) k')] σ7 H8 { s8 with heap := h' } := I10.pins_of fun p hp => by
        have e : p = (D, lstObj (us ++ [yv]) k') := by simpa using hp
        subst e
        exact ⟨pl, p2, p3, p4, fun v z => by cases z⟩
      exact ⟨m', hm, i + 1, xs ++ [y], us ++ [yv], k', σ7, H8, I11, T.keep _ _ _ tn8 fun b hb o e => sb.extBut b o (Nat.ne_of_lt (hfl b hb)) e, fr8, rv.append (.cons r8 .nil), w8⟩
  exact codeAny_compStart_list loop (T.self _ 0 _ _ _ tn3 loop)
end
end L2

namespace L2
open PySem PySem.Spec PyProof.Rows
section
variable {X : Cx}
noncomputable def CDivL (i j : Int) : Prop := 0 < j ∧ j.natAbs.log2 < 9000
theorem log2_small {j : Int} (h0 : 0 < j) (h : j < 2 ^ 64) : j.natAbs.log2 < 9000 := by
  have : j.natAbs < 2 ^ 64 := by omega
  have h2 := (Nat.log2_lt (by omega : j.natAbs ≠ 0)).mpr this
  omega
theorem op_fdivL : OpR X (binaryOp .FloorDiv) (rI CDivL fun i j => .int (i / j)) := opI fun i j _ _ _ _ _ hc q => by
  have e : i.fdiv j = i / j := Int.fdiv_eq_ediv_of_nonneg _ (Int.le_of_lt hc.1)
  exact floordiv_int (Int.ne_of_gt hc.1) (by rw [e]; exact q) (.inl (PyProof.noPylong_of_log2 hc.2))

theorem call_isi : CallR X (.builtin "isinstance") (fun xs H Q => ∃ x t T b, xs = [x, .ty T] ∧ TyOf X.K H x t ∧ PySem.W.kitOne X.K t (.type T) = some b ∧ Q (.bl b) H) := by
  intro pins s σ H xs us Q I r h
  obtain ⟨x, t, T, b, rfl, ty, e, q⟩ := h
  obtain ⟨u, w', rfl, ru, rw'⟩ := vals2 r
  cases (show w' = Value.type T from rw')
  exact isinst_ok I ru ty e fun tk => ⟨.bl b, H, I.tok _, rfl, q⟩
example (K : PySem.W.Frag) : PySem.W.kitOne K (.type "int") (.type "int") = some true := rfl
example (K : PySem.W.Frag) : PySem.W.kitOne K (.type "int") (.type "bool") = some false := rfl
example (K : PySem.W.Frag) : PySem.W.kitOne K (.type "tuple") (.type "tuple") = some true := rfl
end
noncomputable def nstar : Expr → Bool
  | .Starred .. => false
  | _ => true
theorem star_cons {e : Expr} {es : List Expr} {env : Env} (h : nstar e = true) : starEach (e :: es) env = (false, eval e env) :: starEach es env := by
  cases e <;> first | rfl | cases h
theorem star_any {pos : Pos} {env : Env} : ∀ {es : List Expr}, es.all nstar = true → (backTo pos (starEach es env)).any (·.1) = false
  | [], _ => rfl
  | e :: es, h => by
    rw [List.all_cons, Bool.and_eq_true] at h
    rw [star_cons h.1]
    exact star_any (es := es) h.2
section
variable {X : Cx} {CX : CXT} {k : Nat} {f : Addr} {fd : FuncData} {ps : List Str} {sp : Sp} {E : XK} {x : Str} {p pos apos cpos : Pos} {e o : Expr} {es : List Expr} {te to : TE} {t : TA} {id T : String} {name : Str}
theorem pa_c (ha : PE X e te) (hr : PA X es t) (hn : nstar e = true := by rfl) : PA X (e :: es) (tCons te t) := pa_cons ha hr (star_cons hn)
theorem pe_callN (F : FnOk X.prog X.w X.K X.mg X.base CX k f fd ps sp) (hr : Room k X.A) (hg : Gl X x) (hm : X.mg x = some (.ref f)) (hk : PySem.W.keepIn X.K (.ref f) = true) (hb : Binds X.K fd ps []) (hx : Passes CX X E)
    (ha : PA X (e :: es) t) (hn : (e :: es).all nstar = true := by rfl) (hdb : (x == ("__debug__" : Str)) = false := by decide) : PE X (.Call (.Name x p) (e :: es) [] pos) (tCall sp [] E t) := by
  rw [List.all_cons, Bool.and_eq_true] at hn
  exact pe_call F hr hg hm hk hb .nil hx ha hdb (star_cons hn.1) (star_any hn.2)
theorem pe_callBN {r : List V → Hp → VK → Prop} (hc : CallR X (.builtin id) r) (hg : Gl X x) (hm : X.mg x = none) (hv : bootBuiltins x = some (.builtin id)) (ha : PA X (e :: es) t) (hn : (e :: es).all nstar = true := by rfl) (hn2 : x ≠ "__name__" := by decide) (hdb : (x == ("__debug__" : Str)) = false := by decide) :
    PE X (.Call (.Name x p) (e :: es) [] pos) (tCB r t) := by
  rw [List.all_cons, Bool.and_eq_true] at hn
  exact pe_callB hc hg hm hv ha hn2 hdb (star_cons hn.1) (star_any hn.2)
theorem pe_callTyN {r : List V → Hp → VK → Prop} (hc : CallR X (.type T) r) (hg : Gl X x) (hm : X.mg x = none) (hv : bootBuiltins x = some (.type T)) (ha : PA X (e :: es) t) (hn : (e :: es).all nstar = true := by rfl) (hn2 : x ≠ "__name__" := by decide) (hdb : (x == ("__debug__" : Str)) = false := by decide) :
    PE X (.Call (.Name x p) (e :: es) [] pos) (tCB r t) := by
  rw [List.all_cons, Bool.and_eq_true] at hn
  exact pe_callTy hc hg hm hv ha hn2 hdb (star_cons hn.1) (star_any hn.2)
theorem pe_bmN {r : V → List V → Hp → VK → Prop} (pa : PlainAttrs T) (slot : Slot T name id) (hty : typeOf (.builtin id) = pure (.type "method_descriptor")) (hm : MtR X id r) (ho : PE X o to) (ha : PA X [e] t)
    (hbase : attributeBase o name X.env (eval o X.env) = eval o X.env := by rfl) (hline : (apos.endLine == cpos.line) = true := by rfl) (hn : nstar e = true := by rfl) :
    PE X (.Call (.Attribute o name apos) [e] [] cpos) (tBM X.K T r to t) := by
  refine pe_bm pa slot hty hm ho ha hbase ?_ hline (star_cons hn) rfl
  rw [star_cons hn]; rfl
end
end L2

namespace L2
open PySem PySem.Spec PyProof.Rows
section
variable {K : PySem.W.Frag} {σ : St} {H : Hp} {Q : VK} {D : Ends} {E : XK}
theorem in_seq {t u : TS} (h : t { D with nx := u D } σ H) : tSeq t u D σ H := h
theorem in_asg {te : TE} {g : TG} (h : te σ H fun x H1 => g x σ H1 D.nx) : tAsg te g D σ H := h
theorem in_gname {i : Nat} {v : V} {R : St → Hp → Prop} (h : R (σ.set i (some v)) H) : gName i v σ H R := h
theorem in_gsub {to ti : TE} {t : TSet} {v : V} {R : St → Hp → Prop} (h : to σ H fun o H1 => ti σ H1 fun i H2 => t o i v H2 fun H3 => R σ H3) : gSub to ti t v σ H R := h
theorem in_ret {te : TE} (h : te σ H D.rt) : tRet te D σ H := h
theorem in_drop {te : TE} (h : te σ H fun _ H1 => D.nx σ H1) : tDrop te D σ H := h
theorem in_next (h : D.nx σ H) : tNext D σ H := h
theorem in_if {c : TT} {t u : TS} (h : c σ H fun b H1 => if b = true then t D σ H1 else u D σ H1) : tIfS c t u D σ H := h
theorem in_tif {c : TT} {ta tb : TE} (h : c σ H fun b H1 => if b = true then ta σ H1 Q else tb σ H1 Q) : tIf c ta tb σ H Q := h
theorem in_test {t : TE} {R : Bool → Hp → Prop} (h : t σ H fun x H' => ∃ k, x = .bl k ∧ R k H') : tTest t σ H R := h
theorem in_B {t : TE} {R : Bool → Hp → Prop} (h : t σ H fun x H' => ∃ k, x = .bl k ∧ R k H') : tB t σ H R := h
theorem in_bl {b : Bool} {R : Bool → Prop} (h : R b) : ∃ k, V.bl b = .bl k ∧ R k := ⟨b, rfl, h⟩
theorem in_not {t : TT} {R : Bool → Hp → Prop} (h : t σ H fun c H1 => R (!c) H1) : tNot t σ H R := h
theorem in_or {t u : TT} {R : Bool → Hp → Prop} (h : t σ H fun c H1 => if c = true then R true H1 else u σ H1 R) : tOr t u σ H R := h
theorem in_and {t u : TT} {R : Bool → Hp → Prop} (h : t σ H fun c H1 => if c = true then u σ H1 R else R false H1) : tAnd t u σ H R := h
theorem in_andV {ta tb : TE} (h : ta σ H fun x H1 => ∃ c, x = .bl c ∧ if c = true then tb σ H1 Q else Q (.bl false) H1) : tAndV ta tb σ H Q := h
theorem in_orV {ta tb : TE} (h : ta σ H fun x H1 => ∃ c, x = .bl c ∧ if c = true then Q (.bl true) H1 else tb σ H1 Q) : tOrV ta tb σ H Q := h
theorem in_notV {ta : TE} (h : ta σ H fun x H1 => ∃ c, x = .bl c ∧ Q (.bl (!c)) H1) : tNotV ta σ H Q := h
theorem in_C {v : V} (h : Q v H) : tC v σ H Q := h
theorem in_op {r : R2} {ta tb : TE} (h : ta σ H fun x H1 => tb σ H1 fun y H2 => r x y H2 Q) : tOp r ta tb σ H Q := h
theorem in_un {r : V → Hp → VK → Prop} {ta : TE} (h : ta σ H fun x H1 => r x H1 Q) : tUn r ta σ H Q := h
theorem in_I0 {g : Int → Int → V} {i j : Int} (h : Q (g i j) H) : rI0 g (.int i) (.int j) H Q := ⟨i, j, rfl, rfl, h⟩
theorem in_I {C : Int → Int → Prop} {g : Int → Int → V} {i j : Int} (c : C i j) (h : Q (g i j) H) : rI C g (.int i) (.int j) H Q := ⟨i, j, rfl, rfl, c, h⟩
theorem in_U {g : Int → V} {i : Int} (h : Q (g i) H) : rU g (.int i) H Q := ⟨i, rfl, h⟩
theorem in_eqI {i j : Int} (h : Q (.bl (decide (V.int i = V.int j))) H) : rEq (.int i) (.int j) H Q := ⟨rfl, h⟩
theorem in_neI {i j : Int} (h : Q (.bl (!decide (V.int i = V.int j))) H) : rNe (.int i) (.int j) H Q := ⟨rfl, h⟩
theorem in_ix {p : Addr} {xs : List V} {i : Int} {v : V} (s : SqL K H p xs) (a : atI xs i = some v) (h : Q v H) : rIxL K (.ref p) (.int i) H Q := ⟨p, xs, i, v, rfl, rfl, s, a, h⟩
theorem in_set {p : Addr} {xs : List V} {k : Int} {j : Nat} {v : V} {R : Hp → Prop} (s : H p = some (.lst xs)) (a : ixN xs.length k = some j) (h : R (upd H p (.lst (xs.set j v)))) : rSetL (.ref p) (.int k) v H R := ⟨p, xs, k, j, rfl, rfl, s, a, h⟩
theorem in_ix' {p : Addr} {xs : List V} {i : Int} (s : H p = some (.lst xs)) (h : ∃ v, atI xs i = some v ∧ Q v H) : rIxL K (.ref p) (.int i) H Q := let ⟨v, a, q⟩ := h; ⟨p, xs, i, v, rfl, rfl, SqL.of s, a, q⟩
theorem in_ixT' {p : Addr} {xs : List V} {i : Int} (s : H p = some (.tup xs)) (h : ∃ v, atI xs i = some v ∧ Q v H) : rIxT K (.ref p) (.int i) H Q := let ⟨v, a, q⟩ := h; ⟨p, xs, i, v, rfl, rfl, SqT.of s, a, q⟩
theorem in_set' {p : Addr} {xs : List V} {k : Int} {v : V} {R : Hp → Prop} (s : H p = some (.lst xs)) (h : ∃ j, ixN xs.length k = some j ∧ R (upd H p (.lst (xs.set j v)))) : rSetL (.ref p) (.int k) v H R := let ⟨j, a, q⟩ := h; ⟨p, xs, k, j, rfl, rfl, s, a, q⟩
theorem in_cb {r : List V → Hp → VK → Prop} {t : TA} (h : t σ H fun vs H1 => r vs H1 Q) : tCB r t σ H Q := h
theorem in_cons {ta : TE} {tr : TA} {R : List V → Hp → Prop} (h : ta σ H fun x H1 => tr σ H1 fun xs H2 => R (x :: xs) H2) : tCons ta tr σ H R := h
theorem in_nil {R : List V → Hp → Prop} (h : R [] H) : tNil σ H R := h
theorem in_call {sp : Sp} {t : TA} (h : t σ H fun vs H1 => sp (vs ++ []) H1 Q E) : tCall sp [] E t σ H Q := h
theorem in_lst {t : TA} (h : t σ H fun xs H1 => xs.length ≤ sizeLine ∧ ∀ p, H1 p = none → Q (.ref p) (upd H1 p (.lst xs))) : tLst t σ H Q := h
theorem in_tup {t : TA} (h : t σ H fun xs H1 => xs.length ≤ sizeLine ∧ ∀ p, H1 p = none → Q (.ref p) (upd H1 p (.tup xs))) : tTup t σ H Q := h
theorem in_itrue {A B : Prop} (h : A) : if true = true then A else B := by rw [if_pos rfl]; exact h
theorem in_ifalse {A B : Prop} (h : B) : if false = true then A else B := by rw [if_neg Bool.false_ne_true]; exact h
theorem in_split {c A B : Prop} [Decidable c] (h1 : c → A) (h2 : ¬ c → B) : if decide c = true then A else B := by
  by_cases h : c
  · rw [decide_eq_true h]; exact in_itrue (h1 h)
  · rw [decide_eq_false h]; exact in_ifalse (h2 h)
theorem in_pos {c A B : Prop} [Decidable c] (hc : c) (h : A) : if decide c = true then A else B := by rw [decide_eq_true hc]; exact in_itrue h
theorem three {n : Nat} (h : n ≤ 1000) : n ≤ sizeLine := Nat.le_of_lt (small1000 h)

theorem cdivL {i j : Int} (h1 : 0 < j) (h2 : j < 2 ^ 64) : CDivL i j := ⟨h1, log2_small h1 h2⟩
theorem cdivP {i : Int} {b e : Nat} (h1 : 0 < b) (h2 : b ≤ 64) (h3 : e ≤ 1000) : CDivL i ((b ^ e : Nat) : Int) := by
  have hp : 0 < b ^ e := Nat.pow_pos h1
  refine ⟨Int.natCast_pos.mpr hp, ?_⟩
  rw [Int.natAbs_natCast, Nat.log2_lt (Nat.ne_of_gt hp)]
  have h4 : b ^ e ≤ 64 ^ e := Nat.pow_le_pow_left h2 e
  have h5 : (64 : Nat) ^ e = 2 ^ (6 * e) := by rw [Nat.pow_mul]
  have h6 : 2 ^ (6 * e) < 2 ^ 9000 := Nat.pow_lt_pow_right (by decide) (by omega)
  omega
theorem cdiv {i j : Int} (h1 : 0 < j) (h2 : j < 1073741824) : CDiv i j := ⟨h1, h2⟩
theorem cmulL {i j : Int} (h1 : -(2 ^ 64) < i) (h2 : i < 2 ^ 64) : CMul i j := .inl ⟨h1, h2⟩
theorem cmulR {i j : Int} (h1 : -(2 ^ 64) < j) (h2 : j < 2 ^ 64) : CMul i j := .inr ⟨h1, h2⟩
theorem cpow {i j : Int} (h1 : 0 ≤ j) (h2 : j ≤ 1000000) (h3 : i.natAbs < 2 ^ 64) : CPow i j := ⟨h1, h2, h3⟩
theorem in_pow18 (h : Q (.int 1000000000000000000) H) : rI CPow (fun i j => .int (i ^ j.toNat)) (.int 10) (.int 18) H Q := ⟨10, 18, rfl, rfl, ⟨by decide, by decide, by decide⟩, by
  have e : (10 : Int) ^ (18 : Int).toNat = 1000000000000000000 := by decide
  show Q (.int ((10 : Int) ^ (18 : Int).toNat)) H
  rw [e]; exact h⟩
theorem in_pow6 (h : Q (.int 1000000) H) : rI CPow (fun i j => .int (i ^ j.toNat)) (.int 10) (.int 6) H Q := ⟨10, 6, rfl, rfl, ⟨by decide, by decide, by decide⟩, by
  have e : (10 : Int) ^ (6 : Int).toNat = 1000000 := by decide
  show Q (.int ((10 : Int) ^ (6 : Int).toNat)) H
  rw [e]; exact h⟩
theorem in_pow53 (h : Q (.int 9007199254740992) H) : rI CPow (fun i j => .int (i ^ j.toNat)) (.int 2) (.int 53) H Q := ⟨2, 53, rfl, rfl, ⟨by decide, by decide, by decide⟩, by
  have e : (2 : Int) ^ (53 : Int).toNat = 9007199254740992 := by decide
  show Q (.int ((2 : Int) ^ (53 : Int).toNat)) H
  rw [e]; exact h⟩
noncomputable abbrev RC := List V → Hp → VK → Prop
noncomputable def rAbs : RC := fun xs H Q => ∃ i, xs = [.int i] ∧ Q (.int (if i < 0 then -i else i)) H
noncomputable def rIntB : RC := fun xs H Q => ∃ k, xs = [.bl k] ∧ Q (.int (if k then 1 else 0)) H
noncomputable def rMin2 : RC := fun xs H Q => ∃ i j, xs = [.int i, .int j] ∧ Q (.int (if j < i then j else i)) H
noncomputable def rMax2 : RC := fun xs H Q => ∃ i j, xs = [.int i, .int j] ∧ Q (.int (if j > i then j else i)) H
noncomputable def rLen (K : PySem.W.Frag) : RC := fun xs H Q => ∃ p ys, xs = [.ref p] ∧ (SqL K H p ys ∨ SqT K H p ys) ∧ Q (.int ys.length) H
noncomputable def rIsi (K : PySem.W.Frag) : RC := fun xs H Q => ∃ x t T b, xs = [x, .ty T] ∧ TyOf K H x t ∧ PySem.W.kitOne K t (.type T) = some b ∧ Q (.bl b) H
noncomputable def rListOf (K : PySem.W.Frag) : RC := fun xs H Q => ∃ p ys, xs = [.ref p] ∧ (SqL K H p ys ∨ SqT K H p ys) ∧ ∀ l, H l = none → Q (.ref l) (upd H l (.lst ys))
noncomputable def rTupleOf (K : PySem.W.Frag) : RC := fun xs H Q => ∃ p ys, xs = [.ref p] ∧ ((SqL K H p ys ∧ ∀ l, H l = none → Q (.ref l) (upd H l (.tup ys))) ∨ (SqT K H p ys ∧ Q (.ref p) H))
section
variable {X : Cx}
theorem cl_abs : CallR X (.builtin "abs") rAbs := call_abs
theorem cl_int : CallR X (.type "int") rIntB := fun pins s σ H xs us Q I r h => call_int1 pins s σ H xs us Q I r (.inr h)
theorem cl_min (hc : X.calm = true) : CallR X (.builtin "min") rMin2 := call_min2 hc
theorem cl_len : CallR X (.builtin "len") (rLen X.K) := call_len_seq
theorem cl_isi : CallR X (.builtin "isinstance") (rIsi X.K) := call_isi
theorem cl_list : CallR X (.type "list") (rListOf X.K) := call_list_of
theorem cl_tuple : CallR X (.type "tuple") (rTupleOf X.K) := call_tuple_of
end
theorem in_abs {i : Int} (h : Q (.int (if i < 0 then -i else i)) H) : rAbs [.int i] H Q := ⟨i, rfl, h⟩
theorem in_intB {k : Bool} (h : Q (.int (if k then 1 else 0)) H) : rIntB [.bl k] H Q := ⟨k, rfl, h⟩
theorem in_min {i j : Int} (h : Q (.int (if j < i then j else i)) H) : rMin2 [.int i, .int j] H Q := ⟨i, j, rfl, h⟩
theorem in_max {i j : Int} (h : Q (.int (if j > i then j else i)) H) : rMax2 [.int i, .int j] H Q := ⟨i, j, rfl, h⟩
theorem in_lenL {p : Addr} {ys : List V} (s : SqL K H p ys) (h : Q (.int ys.length) H) : rLen K [.ref p] H Q := ⟨p, ys, rfl, .inl s, h⟩
theorem in_lenT {p : Addr} {ys : List V} (s : SqT K H p ys) (h : Q (.int ys.length) H) : rLen K [.ref p] H Q := ⟨p, ys, rfl, .inr s, h⟩
theorem in_isiII {i : Int} (h : Q (.bl true) H) : rIsi K [.int i, .ty "int"] H Q := ⟨_, _, _, _, rfl, .int i, rfl, h⟩
theorem in_isiIB {i : Int} (h : Q (.bl false) H) : rIsi K [.int i, .ty "bool"] H Q := ⟨_, _, _, _, rfl, .int i, rfl, h⟩
theorem in_isiTT {p : Addr} {xs : List V} (s : H p = some (.tup xs)) (h : Q (.bl true) H) : rIsi K [.ref p, .ty "tuple"] H Q := ⟨_, _, _, _, rfl, .tup s, rfl, h⟩
theorem in_isiLL {p : Addr} {xs : List V} (s : H p = some (.lst xs)) (h : Q (.bl true) H) : rIsi K [.ref p, .ty "list"] H Q := ⟨_, _, _, _, rfl, .lst s, rfl, h⟩
theorem in_tupleL {p : Addr} {ys : List V} (s : SqL K H p ys) (h : ∀ l, H l = none → Q (.ref l) (upd H l (.tup ys))) : rTupleOf K [.ref p] H Q := ⟨p, ys, rfl, .inl ⟨s, h⟩⟩
theorem atI_mem {xs : List V} {r : Int} (h0 : 0 ≤ r) (h1 : r < xs.length) : ∃ v, atI xs r = some v ∧ v ∈ xs := by
  have hl : r.toNat < xs.length := by omega
  have e : r = (r.toNat : Int) := by omega
  refine ⟨xs[r.toNat], ?_, List.getElem_mem hl⟩
  have := atI_nat (xs := xs) (j := r.toNat) (v := xs[r.toNat]) (by simp [hl])
  rw [← e] at this; exact this
theorem in_for {wi : TI} {g : TG} {tb : TS} (h : wi σ H fun J H1 => ∃ W : Nat → Nat → St → Hp → Prop, (∃ m, W 0 m σ H1) ∧ ∀ i m σ H, W i m σ H →
  (J.stop i H ∧ D.nx σ H) ∨ (J.go i H ∧ ∃ N : St → Hp → Prop, (∀ σ' H', N σ' H' → ∃ m', m' < m ∧ W (i + 1) m' σ' H') ∧ ∀ x H', J.yld i H x H' → g x σ H' fun σ2 H2 => tb { D with nx := N, ct := N, bk := D.nx } σ2 H2)) : tFor wi g tb D σ H := h
theorem in_rng1 {ta : TA} {R : It → Hp → Prop} (h : ta σ H fun vs H1 => ∃ j : Int, vs = [.int j] ∧ -(2 ^ 62) ≤ j ∧ j < 2 ^ 62 ∧ R (Itr 0 j.toNat) H1) : iRng1 ta σ H R := h
theorem in_ilist {tl : TE} {R : It → Hp → Prop} (h : tl σ H fun x H1 => ∃ a, x = .ref a ∧ (∃ xs, SqL K H1 a xs) ∧ R (Itl K a) H1) : iList K tl σ H R := h
theorem in_itup {tl : TE} {R : It → Hp → Prop} (h : tl σ H fun x H1 => ∃ a, x = .ref a ∧ (∃ xs, SqT K H1 a xs) ∧ R (Itt K a) H1) : iTup K tl σ H R := h
theorem in_nt {A B : Prop} (h : B) : if (!true) = true then A else B := in_ifalse h
theorem in_nf {A B : Prop} (h : A) : if (!false) = true then A else B := in_itrue h
theorem in_comp {wi : TI} {g : TG} {te : TE} {tgs : List Str} {ix : List Nat} (h : wi σ H fun J H1 =>
  ∃ W : Nat → Nat → List V → St → Hp → Prop, (∃ m, W 0 m [] (stComp tgs ix σ) H1) ∧ ∀ i m xs σc H, W i m xs σc H → xs.length < sizeLine ∧
    ((J.stop i H ∧ ∀ p, H p = none → Q (.ref p) (upd H p (.lst xs))) ∨ (J.go i H ∧ ∀ x H', J.yld i H x H' → g x σc H' fun σ2 H2 => te σ2 H2 fun y H3 => ∃ m', m' < m ∧ W (i + 1) m' (xs ++ [y]) σ2 H3))) : tComp wi g te tgs ix σ H Q := h
end
end L2

namespace L2
open PySem PySem.Spec PyProof.Rows
structure QE (X : Cx) (e : Expr) (t : TE) : Prop where
  out : PE X e t
structure QT (X : Cx) (e : Expr) (t : TT) : Prop where
  out : PT X e t
structure QW (X : Cx) (e : Expr) (t : TT) : Prop where
  out : PW X e t
structure QA (X : Cx) (es : List Expr) (t : TA) : Prop where
  out : PA X es t
structure QO (X : Cx) (e : Option Expr) (t : TO) : Prop where
  out : PO X e t
structure QI (X : Cx) (tg iter : Expr) (t : TI) : Prop where
  out : PI X tg iter t
structure QG (X : Cx) (tg : Expr) (t : TG) : Prop where
  out : PG X tg t
structure QGs (X : Cx) (ts : List Expr) (t : TGs) : Prop where
  out : PGs X ts t
structure QS (X : Cx) (st : Stmt) (t : TS) : Prop where
  out : PS X st t
structure QB (X : Cx) (sts : List Stmt) (t : TS) : Prop where
  out : PSs X sts t
structure QOp (X : Cx) (f : Value → Value → Sem Value) (r : R2) : Prop where
  out : OpR X f r
structure QUn (X : Cx) (f : Value → Sem Value) (r : V → Hp → VK → Prop) : Prop where
  out : UnR X f r
structure QC (X : Cx) (f : Value) (r : List V → Hp → VK → Prop) : Prop where
  out : CallR X f r
structure QIx (X : Cx) (r : R2) : Prop where
  out : IxR X r
structure QSl (X : Cx) (r : V → Option Int → Option Int → Hp → VK → Prop) : Prop where
  out : SlR X r
noncomputable def nslc : Expr → Bool
  | .Slice .. => false
  | _ => true
theorem plain_of {b : Expr} (h : nslc b = true) : PlainIx b := by
  cases b <;> first | (intro _ _; rfl) | cases h
noncomputable def tTru (K : PySem.W.Frag) (ta : TE) : TT := fun σ H Q => ta σ H fun x H' => ∃ k, TruV K x H' k ∧ Q k H'
section
variable {X : Cx} {a b c e o : Expr} {es rest : List Expr} {ta tb tc te to ti : TE} {tA tB' : TT} {t : TA} {pos p p2 apos cpos : Pos} {r r' : R2} {x : Str}
theorem qv (i : Nat) {x : Str} {pos : Pos} (hN : X.N[i]? = some x := by rfl) (hv : Vis X.env.scope x := by first | exact Or.inl rfl | exact Or.inr (Or.inl rfl) | exact Or.inr (Or.inr rfl)) (hd : (x == ("__debug__" : Str)) = false := by decide)
    (hcd : (x == ("__classdict__" : Str)) = false := by decide) : QE X (.Name x pos) (tVar i) := ⟨pe_var hN hv hd hcd⟩
theorem qe_int {i j pos} : QE X (.Constant (.int i) j pos) (tC (.int i)) := ⟨pe_int⟩
theorem qe_bl {b j pos} : QE X (.Constant (.bool b) j pos) (tC (.bl b)) := ⟨pe_bl⟩
theorem qe_non {j pos} : QE X (.Constant .none j pos) (tC .non) := ⟨pe_non⟩
theorem qe_str {x j pos} : QE X (.Constant (.str x) j pos) (tC (.str x)) := ⟨pe_str⟩
theorem qe_bltn {v : V} {u : Value} (hg : Gl X x) (hm : X.mg x = none) (hv : bootBuiltins x = some u) (r : RelV v u) (hn : x ≠ "__name__" := by decide) (hd : (x == ("__debug__" : Str)) = false := by decide) : QE X (.Name x pos) (tC v) := ⟨pe_bltn hg hm hv r hn hd⟩
theorem qe_op {op : Operator} (ho : QOp X (binaryOp op) r) (ha : QE X a ta) (hb : QE X b tb) : QE X (.BinOp a op b pos) (tOp r ta tb) := ⟨pe_op ho.out ha.out hb.out⟩
theorem qe_un {op : UnaryOp} {r : V → Hp → VK → Prop} (ho : QUn X (unaryOp op) r) (ha : QE X a ta) : QE X (.UnaryOp op a pos) (tUn r ta) := ⟨pe_un ho.out ha.out⟩
theorem qe_cmpR {op : CmpOp} (ho : QOp X (compareOp op) r) (ha : QE X a ta) (hb : QE X b tb) (hm : behindInMarks op b = false) : QE X (.Compare a [op] [b] pos) (tOp r ta tb) := ⟨pe_cmpR ho.out ha.out hb.out hm⟩
theorem qt_cmpR {op : CmpOp} (ho : QOp X (compareOp op) r) (ha : QE X a ta) (hb : QE X b tb) (hm : behindInMarks op b = false) : QT X (.Compare a [op] [b] pos) (tTest (tOp r ta tb)) := ⟨pt_cmpR ho.out ha.out hb.out hm⟩
theorem qe_one {op} (h : QE X a ta) : QE X (.BoolOp op [a] pos) ta := ⟨pe_one h.out⟩
theorem qe_and (ha : QE X a ta) (hb : QE X (.BoolOp .And (b :: rest) pos) tb) : QE X (.BoolOp .And (a :: b :: rest) pos) (tAndV ta tb) := ⟨pe_and ha.out hb.out⟩
theorem qt_not (ha : QT X a tA) : QT X (.UnaryOp .Not a pos) (tNot tA) := ⟨pt_not ha.out⟩
theorem qt_val (h : QE X a ta) (he : ∀ whole, isTrue a X.env whole = (do let v ← whole; standAt a.pos; holding [v] (truthy v)) := by intro _; rfl) : QT X a (tB ta) := ⟨pt_val h.out he⟩
theorem qw_and1 (ha : QT X a tA) : QW X (.BoolOp .And [a] pos) tA := ⟨pw_and1 ha.out⟩
theorem qw_or1 (ha : QT X a tA) : QW X (.BoolOp .Or [a] pos) tA := ⟨pw_or1 ha.out⟩
theorem qw_and (ha : QT X a tA) (hb : QW X (.BoolOp .And (b :: rest) pos) tB') : QW X (.BoolOp .And (a :: b :: rest) pos) (tAnd tA tB') := ⟨pw_and ha.out hb.out⟩
theorem qw_or (ha : QT X a tA) (hb : QW X (.BoolOp .Or (b :: rest) pos) tB') : QW X (.BoolOp .Or (a :: b :: rest) pos) (tOr tA tB') := ⟨pw_or ha.out hb.out⟩
theorem QW.qt (h : QW X e tA) : QT X e tA := ⟨h.out.pt⟩
theorem qa_nil : QA X [] tNil := ⟨pa_nil⟩
theorem qa_c (ha : QE X e te) (hr : QA X es t) (hn : nstar e = true := by rfl) : QA X (e :: es) (tCons te t) := ⟨pa_c ha.out hr.out hn⟩
theorem qe_lst (h : QA X es t) : QE X (.List es pos) (tLst t) := ⟨pe_lst h.out⟩
theorem qe_tup {x1} (h : QA X es t) : QE X (.Tuple es x1 pos) (tTup t) := ⟨pe_tup h.out⟩
theorem qe_ix (hr : QIx X r) (ha : QE X a ta) (hb : QE X b tb) (hs : nslc b = true := by rfl) : QE X (.Subscript a b pos) (tOp r ta tb) := ⟨pe_ix hr.out ha.out hb.out (plain_of hs)⟩
theorem qo_none : QO X none tNoPart := ⟨po_none⟩
theorem qo_some (h : QE X e te) : QO X (some e) (tPart te) := ⟨po_some h.out⟩
theorem qe_slice {r : V → Option Int → Option Int → Hp → VK → Prop} {lo hi : Option Expr} {tl th : TO} (hr : QSl X r) (he : QE X e te) (hl : QO X lo tl) (hu : QO X hi th) : QE X (.Subscript e (.Slice lo hi none p2) pos) (tSl r te tl th) := ⟨pe_slice hr.out he.out hl.out hu.out⟩
theorem qe_callB {id : String} {r : RC} (hc : QC X (.builtin id) r) (hg : Gl X x) (hm : X.mg x = none) (hv : bootBuiltins x = some (.builtin id)) (ha : QA X (e :: es) t) (hn : (e :: es).all nstar = true := by rfl) (hn2 : x ≠ "__name__" := by decide) (hdb : (x == ("__debug__" : Str)) = false := by decide) :
    QE X (.Call (.Name x p) (e :: es) [] pos) (tCB r t) := ⟨pe_callBN hc.out hg hm hv ha.out hn hn2 hdb⟩
theorem qe_callTy {T : String} {r : RC} (hc : QC X (.type T) r) (hg : Gl X x) (hm : X.mg x = none) (hv : bootBuiltins x = some (.type T)) (ha : QA X (e :: es) t) (hn : (e :: es).all nstar = true := by rfl) (hn2 : x ≠ "__name__" := by decide) (hdb : (x == ("__debug__" : Str)) = false := by decide) :
    QE X (.Call (.Name x p) (e :: es) [] pos) (tCB r t) := ⟨pe_callTyN hc.out hg hm hv ha.out hn hn2 hdb⟩
theorem qe_call {CX : CXT} {k : Nat} {f : Addr} {fd : FuncData} {ps : List Str} {sp : Sp} {E : XK} (F : FnOk X.prog X.w X.K X.mg X.base CX k f fd ps sp) (hr : Room k X.A) (hg : Gl X x) (hm : X.mg x = some (.ref f)) (hk : PySem.W.keepIn X.K (.ref f) = true) (hb : Binds X.K fd ps []) (hx : Passes CX X E)
    (ha : QA X (e :: es) t) (hn : (e :: es).all nstar = true := by rfl) (hdb : (x == ("__debug__" : Str)) = false := by decide) : QE X (.Call (.Name x p) (e :: es) [] pos) (tCall sp [] E t) := ⟨pe_callN F hr hg hm hk hb hx ha.out hn hdb⟩
theorem qe_append {K : PySem.W.Frag} (ho : QE X o to) (ha : QA X [e] t) (hbase : attributeBase o ("append" : Str) X.env (eval o X.env) = eval o X.env := by rfl) (hline : (apos.endLine == cpos.line) = true := by rfl) (hn : nstar e = true := by rfl) (hK : X.K = K := by rfl) :
    QE X (.Call (.Attribute o "append" apos) [e] [] cpos) (tBM K "list" rAppend to t) := by subst hK; exact ⟨pe_bmN PySem.F.plainAttrs_list PySem.F.slot_list_append PySem.F.type_list_append mt_append ho.out ha.out hbase hline hn⟩
variable {tg iter : Expr} {wi : TI} {g : TG} {i : Nat} {u : TGs}
theorem qi_range1 {p pos : Pos} (hg : Gl X "range") (hm : X.mg "range" = none) (ha : QA X [a] t) (hn : nstar a = true := by rfl) : QI X tg (.Call (.Name "range" p) [a] [] pos) (iRng1 t) := ⟨pi_range1 hg hm ha.out (star_cons hn)⟩
theorem qi_list {K : PySem.W.Frag} (hl : QE X e te) (hK : X.K = K := by rfl) : QI X tg e (iList K te) := by subst hK; exact ⟨pi_list hl.out⟩
theorem qi_tup {K : PySem.W.Frag} (hl : QE X e te) (hK : X.K = K := by rfl) : QI X tg e (iTup K te) := by subst hK; exact ⟨pi_tup hl.out⟩
theorem qg_name (hN : X.N.Nodup) (hi : X.N[i]? = some x) (hx : Loc X.env.scope x) (hf : X.fn x = true ∨ X.env.scope.names.lookup x = some .local := by first | exact .inl rfl | exact .inr rfl | assumption) : QG X (.Name x pos) (gName i) := ⟨pg_name hN hi hx hf⟩
theorem qgs_nil : QGs X [] gNil := ⟨pgs_nil⟩
theorem qgs_cons {ts : List Expr} (h1 : QG X e g) (h2 : QGs X ts u) (hs : (assignEach (e :: ts) X.env).map (·.2) = assign e X.env :: (assignEach ts X.env).map (·.2) := by rfl) : QGs X (e :: ts) (gCons g u) := ⟨pgs_cons h1.out h2.out hs⟩
theorem qg_tup {K : PySem.W.Frag} {ts : List Expr} {k n : Nat} (hc : X.calm = true) (h : QGs X ts u) (hn : (assignEach ts X.env).length = n := by rfl) (hst : (assignEach ts X.env).findIdx? (·.1) = none := by rfl) (hK : X.K = K := by rfl) : QG X (.Tuple ts k pos) (gTup K n u) := by subst hK; exact ⟨pg_tup hc h.out hn hst⟩
variable {st : Stmt} {sts s1 s2 : List Stmt} {T1 T2 : TS}
theorem qb_nil : QB X [] tNext := ⟨pss_nil⟩
theorem qb_cons (h1 : QS X st T1) (h2 : QB X sts T2) : QB X (st :: sts) (tSeq T1 T2) := ⟨pss_cons h1.out h2.out⟩
theorem qb_one (h1 : QS X st T1) : QB X [st] T1 := ⟨pss_one h1.out⟩
theorem qs_ret (he : QE X e te) : QS X (.Return (some e) pos) (tRet te) := ⟨ps_ret he.out⟩
theorem qs_expr (he : QE X e te) (hs : swapsWith e none pos.line X.env = pure false := by rfl) : QS X (.Expr e pos) (tDrop te) := ⟨ps_expr he.out hs⟩
theorem qs_if (hc : QT X c tA) (ha : QB X s1 T1) (hb : QB X s2 T2) : QS X (.If c s1 s2 pos) (tIfS tA T1 T2) := ⟨ps_if hc.out ha.out hb.out⟩
theorem qs_set {pos' : Pos} (hN : X.N.Nodup) (hi : X.N[i]? = some x) (hx : Loc X.env.scope x) (he : QE X e te) (hs : swapsWith e (some (.Name x pos')) pos.line X.env = pure false := by rfl) (hf : X.fn x = true ∨ X.env.scope.names.lookup x = some .local := by first | exact .inl rfl | exact .inr rfl | assumption) :
    QS X (.Assign [.Name x pos'] e pos) (tAsg te (gName i)) := ⟨ps_set hN hi hx he.out hs hf⟩
theorem qs_sub {tpos : Pos} (he : QE X e te) (ho : QE X o to) (hi : QE X b tb)
    (ha : ∀ v, assign (.Subscript o b tpos) X.env v = (do
      let ov ← holding [v] (eval o X.env)
      let iv ← holding [v, ov] (eval b X.env)
      standAt tpos
      holding [v, ov, iv] (setItem ov iv v)
      release [v, ov, iv] []) := by intro _; rfl)
    (hs : swapsWithSole [.Subscript o b tpos] e pos.line X.env = pure false := by rfl) (hw : swappedStores [.Subscript o b tpos] e X.env = pure none := by rfl)
    (h1 : (assignEach [.Subscript o b tpos] X.env).map (·.2) = [assign (.Subscript o b tpos) X.env] := by rfl) : QS X (.Assign [.Subscript o b tpos] e pos) (tAsg te (gSub to tb rSetL)) := ⟨ps_asg he.out (pg_sub ho.out hi.out set_list ha) hs hw h1⟩
theorem qs_aug {op : Operator} {ti : R2} {pos' : Pos} (hN : X.N.Nodup) (hi : X.N[i]? = some x) (hx : Loc X.env.scope x) (he : QE X e te) (ho : QOp X (inplaceOp op) ti) (hf : X.fn x = true ∨ X.env.scope.names.lookup x = some .local := by first | exact .inl rfl | exact .inr rfl | assumption) :
    QS X (.AugAssign (.Name x pos') op e pos) (tAug i te ti) := ⟨ps_aug hN hi hx he.out ho.out hf⟩
theorem qs_while (hp : PassesOwn (model X.prog X.w) X.A X.env X.xe) (hc : QT X c tA) (hb : QB X sts T1) : QS X (.While c sts [] pos) (tWhile tA T1) := ⟨ps_while hp hc.out hb.out⟩
theorem qs_for (hp : PassesOwn (model X.prog X.w) X.A X.env X.xe) (hc : X.calm = true) (hi : QI X tg iter wi) (hg : QG X tg g) (hb : QB X sts T1) (hs : ∀ x, foldedSetIterable iter X.env x = pure x := by intro _; rfl) : QS X (.For tg iter sts [] pos) (tFor wi g T1) := ⟨ps_for hp hc hi.out hg.out hb.out hs⟩
theorem qe_comp {N tgs frs : List Str} {ix : List Nat} {scope : Scope} {cl : List (Str × Addr)} {elt : Expr} (c : CompOk X N tgs frs ix scope cl) (hc : X.calm = true) (hi : QI X tg iter wi)
    (hg : ∀ fp C s H, QG (cxComp X N scope cl fp C s H) tg g) (he : ∀ fp C s H, QE (cxComp X N scope cl fp C s H) elt te)
    (hs : ∀ x, foldedSetIterable iter X.env x = pure x := by intro _; rfl) :
    QE X (.ListComp elt [⟨tg, iter, [], 0⟩] scope pos) (tComp wi g te tgs ix) := ⟨pe_comp c hc hi.out (fun fp C s H => (hg fp C s H).out) (fun fp C s H => (he fp C s H).out) hs⟩
theorem q_add : QOp X (binaryOp .Add) (rI0 fun i j => .int (i + j)) := ⟨op_add⟩
theorem q_sub : QOp X (binaryOp .Sub) (rI0 fun i j => .int (i - j)) := ⟨op_sub⟩
theorem q_mul : QOp X (binaryOp .Mult) (rI CMul fun i j => .int (i * j)) := ⟨op_mul⟩
theorem q_fdivL : QOp X (binaryOp .FloorDiv) (rI CDivL fun i j => .int (i / j)) := ⟨op_fdivL⟩
theorem q_mod : QOp X (binaryOp .Mod) (rI (fun _ j => 0 < j) fun i j => .int (i % j)) := ⟨op_mod⟩
theorem q_pow : QOp X (binaryOp .Pow) (rI CPow fun i j => .int (i ^ j.toNat)) := ⟨op_pow⟩
theorem q_cat : QOp X (binaryOp .Add) rCat := ⟨op_cat⟩
theorem q_rep : QOp X (binaryOp .Mult) rRep := ⟨op_rep⟩
theorem q_eq : QOp X (compareOp .Eq) rEq := ⟨op_eq⟩
theorem q_ne : QOp X (compareOp .NotEq) rNe := ⟨op_ne⟩
theorem q_lt : QOp X (compareOp .Lt) (rI0 fun i j => .bl (decide (i < j))) := ⟨op_lt⟩
theorem q_gt : QOp X (compareOp .Gt) (rI0 fun i j => .bl (decide (j < i))) := ⟨op_gt⟩
theorem q_ge : QOp X (compareOp .GtE) (rI0 fun i j => .bl (decide (j ≤ i))) := ⟨op_ge⟩
theorem q_iadd : QOp X (inplaceOp .Add) (rI0 fun i j => .int (i + j)) := ⟨iop_add⟩
theorem q_neg : QUn X (unaryOp .USub) (rU fun i => .int (-i)) := ⟨un_neg⟩
theorem q_ixL {K : PySem.W.Frag} (hK : X.K = K := by rfl) : QIx X (rIxL K) := by subst hK; exact ⟨ix_list⟩
theorem q_ixT {K : PySem.W.Frag} (hK : X.K = K := by rfl) : QIx X (rIxT K) := by subst hK; exact ⟨ix_tup⟩
theorem q_slL {K : PySem.W.Frag} (hK : X.K = K := by rfl) : QSl X (rSlL K) := by subst hK; exact ⟨sl_list⟩
theorem qc_abs : QC X (.builtin "abs") rAbs := ⟨cl_abs⟩
theorem qc_int : QC X (.type "int") rIntB := ⟨cl_int⟩
theorem qc_min (hc : X.calm = true) : QC X (.builtin "min") rMin2 := ⟨cl_min hc⟩
theorem qc_len {K : PySem.W.Frag} (hK : X.K = K := by rfl) : QC X (.builtin "len") (rLen K) := by subst hK; exact ⟨cl_len⟩
theorem qc_isi {K : PySem.W.Frag} (hK : X.K = K := by rfl) : QC X (.builtin "isinstance") (rIsi K) := by subst hK; exact ⟨cl_isi⟩
theorem qc_list {K : PySem.W.Frag} (hK : X.K = K := by rfl) : QC X (.type "list") (rListOf K) := by subst hK; exact ⟨cl_list⟩
theorem qc_tuple {K : PySem.W.Frag} (hK : X.K = K := by rfl) : QC X (.type "tuple") (rTupleOf K) := by subst hK; exact ⟨cl_tuple⟩
end
section
variable {P : Program} {w : World} {K : PySem.W.Frag} {mg : Str → Option Value} {base : Heap}
theorem Fun.okQ {x qual : Str} {st : Stmt} {f : Addr} {fd : FuncData} {N ps : List Str} {k : Nat} {sp : Sp} (F : Fun K x qual st f fd) (S : FnScope N ps (defScope st)) (len : ∀ vs H Q E, sp vs H Q E → vs.length = ps.length)
    (hbody : ∀ (cdv : Value) (A : Around) (outer : List Env) (s : Shared) (H : Hp) (vs : List V) (Q : VK) (E : XK), Room k (A.deeper (envOfC qual (defScope st) s.heap.objs.size f cdv)) → sp vs H Q E →
      ∃ t, QB (cxOf CX0 P w K mg base N qual (defScope st) f cdv A outer s H E).nox (defBody st) t ∧ t { nx := fun _ H' => Q .non H', rt := Q } (start N vs) H) : FnOk P w K mg base CX0 (k + 1) f fd ps sp :=
  F.ok S len fun cdv A outer s H vs Q E hr hsp => by
    obtain ⟨t, h, q⟩ := hbody cdv A outer s H vs Q E hr hsp
    exact ⟨t, h.out, q⟩
end
end L2

namespace L2
open PySem PySem.Spec PyProof.Rows
noncomputable def tRev (K : PySem.W.Frag) (te : TE) : TE := fun σ H Q => te σ H fun x H1 => ∃ a xs, x = .ref a ∧ SqL K H1 a xs ∧ ∀ p, H1 p = none → Q (.ref p) (upd H1 p (.lst xs.reverse))
section
variable {X : Cx} {e : Expr} {te : TE} {pos p1 p2 p3 : Pos} {j : Nat}
end
section
variable {X : Cx}
end
section
variable {K : PySem.W.Frag} {σ : St} {H : Hp} {Q : VK} {D : Ends}
theorem in_rev {te : TE} (h : te σ H fun x H1 => ∃ a xs, x = .ref a ∧ SqL K H1 a xs ∧ ∀ p, H1 p = none → Q (.ref p) (upd H1 p (.lst xs.reverse))) : tRev K te σ H Q := h
theorem in_par2 {i j : Nat} {ta tb : TE} (h : ta σ H fun x H1 => tb σ H1 fun y H2 => (fun x y => ∃ v w, [x, y] = [v, w] ∧ D.nx ((σ.set i (some v)).set j (some w)) H2) x y) : tPar i j (tCons ta (tCons tb tNil)) D σ H := h
theorem in_pair {x y : V} {R : V → V → Prop} (h : R x y) : ∃ v w, [x, y] = [v, w] ∧ R v w := ⟨x, y, rfl, h⟩
theorem in_bm {r : V → List V → Hp → VK → Prop} {to : TE} {t : TA} {T : String} (h : to σ H fun x H1 => tyV K T x H1 ∧ t σ H1 fun xs H2 => r x xs H2 Q) : tBM K T r to t σ H Q := h
theorem in_append {l : Addr} {xs : List V} {y : V} (s : H l = some (.lst xs)) (z : xs.length < sizeLine) (h : Q .non (upd H l (.lst (xs ++ [y])))) : rAppend (.ref l) [y] H Q := ⟨l, xs, y, rfl, rfl, s, z, h⟩
theorem ty_list {l : Addr} {xs : List V} (h : H l = some (.lst xs)) : tyV K "list" (.ref l) H := .inl ⟨rfl, _, SqL.of h⟩
theorem Same.new {H1 : Hp} {p : Addr} {o : HO} (e : Same H H1) (h : H1 p = none) : Same H (upd H1 p o) := fun b u q => by rw [upd_ne (ne_of_none (e b u q) h)]; exact e b u q
theorem Same.own {H1 : Hp} {p : Addr} {o : HO} (e : Same H H1) (h : H p = none) : Same H (upd H1 p o) := fun b u q => by rw [upd_ne (ne_of_none q h)]; exact e b u q
end
noncomputable def Nx (n i : Nat) (P : Prop) : Prop := ∃ m', m' < n - i ∧ m' = n - (i + 1) ∧ i + 1 ≤ n ∧ P
theorem Nx.mk {n i : Nat} {P : Prop} (h : i < n) (p : P) : Nx n i P := ⟨n - (i + 1), by omega, rfl, h, p⟩
section
variable {K : PySem.W.Frag} {H : Hp} {g : TG} {te : TE} {σ0 : St} {R : List V → Hp → Prop}
theorem comp_rng {n : Nat} (Pv : Nat → List V → St → Hp → Prop) (hz : n < sizeLine) (hl : ∀ i ys σ H, Pv i ys σ H → ys.length = i) (h0 : Pv 0 [] σ0 H)
    (hs : ∀ i ys σ H, i < n → Pv i ys σ H → g (.int (0 + i)) σ H fun σ2 H2 => te σ2 H2 fun y H3 => Nx n i (Pv (i + 1) (ys ++ [y]) σ2 H3)) (hd : ∀ ys σ H, Pv n ys σ H → R ys H) :
    ∃ W : Nat → Nat → List V → St → Hp → Prop, (∃ m, W 0 m [] σ0 H) ∧ ∀ i m xs σc H, W i m xs σc H → xs.length < sizeLine ∧
    (((Itr 0 n).stop i H ∧ R xs H) ∨ ((Itr 0 n).go i H ∧ ∀ x H', (Itr 0 n).yld i H x H' → g x σc H' fun σ2 H2 => te σ2 H2 fun y H3 => ∃ m', m' < m ∧ W (i + 1) m' (xs ++ [y]) σ2 H3)) := by
  refine ⟨fun i m xs σ H => m = n - i ∧ i ≤ n ∧ Pv i xs σ H, ⟨n, by simp, Nat.zero_le _, h0⟩, ?_⟩
  rintro i m xs σ H ⟨rfl, hi, p⟩
  refine ⟨by rw [hl i xs σ H p]; exact Nat.lt_of_le_of_lt hi hz, ?_⟩
  by_cases hlt : i < n
  · refine .inr ⟨hlt, fun x H' y => ?_⟩
    obtain ⟨e, y⟩ := y
    subst e y
    exact hs i xs σ _ hlt p
  · have e : i = n := by omega
    subst e
    exact .inl ⟨Nat.le_refl _, hd xs σ H p⟩
theorem comp_tupl {a : Addr} {vs : List V} (Pv : Nat → List V → St → Hp → Prop) (hz : vs.length < sizeLine) (hl : ∀ i ys σ H, Pv i ys σ H → ys.length = i) (ht : ∀ i ys σ H, Pv i ys σ H → SqT K H a vs) (h0 : Pv 0 [] σ0 H)
    (hs : ∀ i ys σ H x, vs[i]? = some x → Pv i ys σ H → g x σ H fun σ2 H2 => te σ2 H2 fun y H3 => Nx vs.length i (Pv (i + 1) (ys ++ [y]) σ2 H3)) (hd : ∀ ys σ H, Pv vs.length ys σ H → R ys H) :
    ∃ W : Nat → Nat → List V → St → Hp → Prop, (∃ m, W 0 m [] σ0 H) ∧ ∀ i m xs σc H, W i m xs σc H → xs.length < sizeLine ∧
    (((Itt K a).stop i H ∧ R xs H) ∨ ((Itt K a).go i H ∧ ∀ x H', (Itt K a).yld i H x H' → g x σc H' fun σ2 H2 => te σ2 H2 fun y H3 => ∃ m', m' < m ∧ W (i + 1) m' (xs ++ [y]) σ2 H3)) := by
  refine ⟨fun i m xs σ H => m = vs.length - i ∧ i ≤ vs.length ∧ Pv i xs σ H, ⟨vs.length, by simp, Nat.zero_le _, h0⟩, ?_⟩
  rintro i m xs σ H ⟨rfl, hi, p⟩
  have q := ht i xs σ H p
  refine ⟨by rw [hl i xs σ H p]; exact Nat.lt_of_le_of_lt hi hz, ?_⟩
  by_cases hlt : i < vs.length
  · refine .inr ⟨⟨vs, vs[i], q, by simp [hlt]⟩, fun x H' y => ?_⟩
    obtain ⟨e, y⟩ := y
    subst e
    exact hs i xs σ _ x (y vs q) p
  · have e : i = vs.length := by omega
    subst e
    exact .inl ⟨⟨vs, q, Nat.le_refl _⟩, hd xs σ H p⟩
theorem comp_lst {a : Addr} {vs : List V} (Pv : Nat → List V → St → Hp → Prop) (hz : vs.length < sizeLine) (hl : ∀ i ys σ H, Pv i ys σ H → ys.length = i) (ht : ∀ i ys σ H, Pv i ys σ H → SqL K H a vs) (h0 : Pv 0 [] σ0 H)
    (hs : ∀ i ys σ H x, vs[i]? = some x → Pv i ys σ H → g x σ H fun σ2 H2 => te σ2 H2 fun y H3 => Nx vs.length i (Pv (i + 1) (ys ++ [y]) σ2 H3)) (hd : ∀ ys σ H, Pv vs.length ys σ H → R ys H) :
    ∃ W : Nat → Nat → List V → St → Hp → Prop, (∃ m, W 0 m [] σ0 H) ∧ ∀ i m xs σc H, W i m xs σc H → xs.length < sizeLine ∧
    (((Itl K a).stop i H ∧ R xs H) ∨ ((Itl K a).go i H ∧ ∀ x H', (Itl K a).yld i H x H' → g x σc H' fun σ2 H2 => te σ2 H2 fun y H3 => ∃ m', m' < m ∧ W (i + 1) m' (xs ++ [y]) σ2 H3)) := by
  refine ⟨fun i m xs σ H => m = vs.length - i ∧ i ≤ vs.length ∧ Pv i xs σ H, ⟨vs.length, by simp, Nat.zero_le _, h0⟩, ?_⟩
  rintro i m xs σ H ⟨rfl, hi, p⟩
  have q := ht i xs σ H p
  refine ⟨by rw [hl i xs σ H p]; exact Nat.lt_of_le_of_lt hi hz, ?_⟩
  by_cases hlt : i < vs.length
  · refine .inr ⟨⟨vs, vs[i], q, by simp [hlt]⟩, fun x H' y => ?_⟩
    obtain ⟨e, y⟩ := y
    subst e
    exact hs i xs σ _ x (y vs q) p
  · have e : i = vs.length := by omega
    subst e
    exact .inl ⟨⟨vs, q, Nat.le_refl _⟩, hd xs σ H p⟩
end
end L2

namespace L2
open PySem PySem.Spec PyProof.Rows
section
variable {X : Cx} {N tgs frs : List Str} {ix : List Nat} {scope : Scope} {cl : List (Str × Addr)}
theorem ps_setC {elt iter tg : Expr} {pos spos py : Pos} {y : Str} {iy : Nat} {wi : TI} {g : TG} {te : TE} (hN : X.N.Nodup) (hy : X.N[iy]? = some y) (hx : Loc X.env.scope y) (c : CompOk X N tgs frs ix scope cl) (hc : X.calm = true) (hi : PI X tg iter wi)
    (hg : ∀ fp C s H, PG (cxComp X N scope cl fp C s H) tg g) (he : ∀ fp C s H, PE (cxComp X N scope cl fp C s H) elt te)
    (hs : ∀ x, foldedSetIterable iter X.env x = pure x := by intro _; rfl)
    (hsw : swapsWith (.ListComp elt [⟨tg, iter, [], 0⟩] scope pos) (some (.Name y py)) spos.line X.env = pure true := by rfl)
    (hf : X.fn y = true ∨ X.env.scope.names.lookup y = some .local := by first | exact .inl rfl | exact .inr rfl | assumption) :
    PS X (.Assign [.Name y py] (.ListComp elt [⟨tg, iter, [], 0⟩] scope pos) spos) (tAsg (tComp wi g te tgs ix) (gName iy)) := by
  intro pins s σ H Dn I h
  rw [exec_Assign_Name_used _ _ _ _ hsw]
  refine wpAny_bind (wpAny_standAt (wpAny_bind ?_))
  show wpAny _ X.A (do let _ ← comprehension (.ListComp elt [⟨tg, iter, [], 0⟩] scope pos) scope X.env _ (newList []) false (eval iter X.env) (some (assign (.Name y py) X.env))) _ _ s
  refine wpAny_bind (wpAny_mono (wpAny_comprehension_free (use := some (assign (.Name y py) X.env)) (Q := fun _ s' => SP X pins Dn .next s') rfl hs c.clos c.kind c.names (thn (hi pins s σ H _ I h) fun xv s1 h1 => thn h1 fun itv s2 h2 => ?_)) (fun _ s' hq => wpAny_pure (wpAny_pure hq)) fun _ _ e => e)
  obtain ⟨it, fp, tn, J, H2, rfl, I2, T, st2, f2, W, ⟨m0, w0⟩, turn⟩ := h2
  have hfl : ∀ b ∈ fp, b < s2.heap.objs.size := fun b hb => by
    obtain ⟨o, e, _⟩ := T.obj _ _ st2 b hb
    exact Heap.lt_size e
  have hcn : ∀ x a, cl.lookup x = some a → X.env.cells.lookup x = some a := c.cls.get
  refine wpAny_newObj_type (wpAny_newFunctionEnv c.cell (by intro y hy; simp at hy) (fun h1 hns1 hsb1 => ?_) c.kind)
  dsimp only at hns1 hsb1 ⊢
  generalize hH2 : s2.heap.push { cls := .type "list", dict := none, data := .seq ([] : List Value).toArray } = G2 at hns1 hsb1 ⊢
  have hC : G2.objs.size = s2.heap.objs.size + 1 := by rw [← hH2, Heap.size_push]
  generalize hCC : G2.objs.size = C at *
  generalize hDD : s2.heap.objs.size = D at *
  have hDC : D ≠ C := by omega
  have hCle : D ≤ C := by omega
  have old : ∀ b o, s2.heap.get? b = some o → h1.get? b = some o := fun b o e => by
    have lt : b < s2.heap.objs.size := Heap.lt_size e
    exact hsb1.extBut b o (Nat.ne_of_lt (Nat.lt_of_lt_of_le (hDD ▸ lt) hCle)) (Heap.get?_push_of_some _ (hH2 ▸ Heap.get?_push_of_some _ e))
  have hacc : h1.get? D = some (lstObj [] 0) := hsb1.extBut _ _ hDC (Heap.get?_push_of_some _ (hH2 ▸ (hDD ▸ Heap.get?_push_size _ rfl)))
  have cellD : ∀ x a, X.env.cells.lookup x = some a → a < D := fun x a e => by
    obtain ⟨v, q⟩ := I2.cell x a e
    exact hDD ▸ q.lt
  have fpc : ∀ {H' : Hp} {us : List Value} {k : Nat}, (∀ b ∈ fp, H' b = none) → ∀ b ∈ fp, FpOk (cxComp X N scope cl fp C s2 H2) [(D, lstObj us k)] H' b := fun {H' us k} hn b hb => by
    have lb := hfl b hb
    refine ⟨hn b hb, ?_, fun z => ?_, .inl hb, fun x a e z => ?_, fun p hp => ?_⟩
    · exact Nat.ne_of_lt (Nat.lt_of_lt_of_le lb hCle)
    · rcases List.mem_cons.mp (I2.stkSub b z) with e | e
      · exact (f2 b hb).2.1 e
      · exact (f2 b hb).2.2.1 e
    · exact (f2 b hb).2.2.2.2.1 x a (hcn x a e) z
    · have : p = (D, lstObj us k) := by simpa [cxComp] using hp
      rw [this]; exact Nat.ne_of_gt lb
  have D_fs : D ∉ (cxComp X N scope cl fp C s2 H2).fs := fun z => by
    rcases List.mem_cons.mp (I2.stkSub D z) with e | e
    · exact absurd I2.lt (by rw [← e, hDD]; exact Nat.lt_irrefl _)
    · exact I2.nofs (Nat.le_of_eq hDD) e
  have I3 := inv_comp (tk := s2.toks + ([] : List (Str × Value)).length) (pins' := [(D, lstObj [] 0)]) c I2 f2 (fun b hb => hDD ▸ hfl b hb) (hDD ▸ hCle : s2.heap.objs.size ≤ C) hns1 old (fun p hp => by
    have e : p = (D, lstObj [] 0) := by simpa using hp
    subst e
    exact ⟨hacc, Nat.le_of_eq hDD, hDC, fun v z => by cases z⟩)
  have tn3 : tn 0 h1 := T.keep _ _ _ st2 fun b _ o e => old b o e
  have loop : codeAny (model X.prog X.w) X.A (.compLoop (.ListComp elt [⟨tg, iter, [], 0⟩] scope pos) 0 (.ref it) (.ref D) (compEnvC scope cl C X.env))
      (compPost (model X.prog X.w) X.A X.xe (some (assign (.Name y py) X.env)) (fun _ s' => SP X pins Dn .next s') (.ref D) C) { s2 with heap := h1, toks := s2.toks + ([] : List (Str × Value)).length } := by
    refine compLoop_gen (fun n s' => ∃ i xs us k σc H', Inv (cxComp X N scope cl fp C s2 H2) [(D, lstObj us k)] σc H' s' ∧ tn i s'.heap ∧ (∀ b ∈ fp, H' b = none) ∧ Vals xs us ∧ W i n xs σc H') ?_ m0
      ⟨0, [], [], 0, _, H2, I3, tn3, fun b hb => (f2 b hb).1, .nil, w0⟩
    rintro n s4 ⟨i, xs, us, k, σ4, H4, I4, tn4, fr4, rv, w4⟩
    obtain ⟨hsz, tt⟩ := turn i n xs σ4 H4 w4
    rcases tt with ⟨stop, fin⟩ | ⟨go, step⟩
    · refine thn (T.done (cxComp X N scope cl fp C s2 H2) rfl rfl rfl hc i _ s4 σ4 H4 _ I4 (fpc fr4) tn4 stop) fun r s5 ⟨hr, I5⟩ => ?_
      subst hr
      obtain ⟨m, ns, _⟩ := I5.loc
      have J1 : Inv X pins σ H4 s5 := I2.call' I5.os I5.base I5.hok I5.bare fun b hb => ⟨(f2 b hb).2.2.2.1, (f2 b hb).2.1, (f2 b hb).2.2.2.2.1, (f2 b hb).2.2.2.2.2⟩
      have big : ∀ a, D ≤ a → a ≠ X.env.locals ∧ (a ∈ X.ex ∨ X.s₀.heap.objs.size ≤ a) ∧ (∀ x y, X.env.cells.lookup x = some y → y ≠ a) ∧ ∀ p ∈ X.pn ++ pins, p.1 ≠ a := fun a ha => by
        obtain ⟨q0, q1, q2, q3, q4, q5⟩ := I2.fpOk (b := a) (H' := fun _ => none) (hDD ▸ ha) rfl
        exact ⟨q1, q3, q4, q5⟩
      have nfs : ∀ a, D ≤ a → a ∉ X.fs := fun a ha => I2.nofs (hDD ▸ ha)
      obtain ⟨b1, b2, b3, b4⟩ := big C hCle
      obtain ⟨p1, p2, p3, p4, p5⟩ := I5.pin (D, lstObj us k) (by simp)
      obtain ⟨d1, d2, d3, d4⟩ := big D (Nat.le_refl _)
      have J3 : Inv X pins σ (upd H4 D (.lst xs)) s5 := J1.adopt p2 d1 d2 d3 d4 ⟨Nat.le_of_lt hsz, us, k, rv, p1⟩
      obtain ⟨oC, esC, epC, hoC, hdC, rC⟩ := id ns
      have hHC : (upd H4 D (.lst xs)) C = none := by rw [upd_ne (Ne.symm hDC)]; exact I5.free
      have J4 : Inv X (pins ++ [(C, oC)]) σ (upd H4 D (.lst xs)) s5 := J3.pins_of fun p hp => by
        rcases List.mem_append.mp hp with z | z
        · exact J3.pin p (List.mem_append_right _ z)
        · have e : p = (C, oC) := by simpa using z
          subst e
          exact ⟨hoC, hHC, b1, nfs C hCle, fun v z => by rw [hdC] at z; cases z⟩
      show wpAny _ X.A (assign (.Name y py) X.env (.ref D)) _ _ s5
      refine wpAny_assign_Name (store_ok J4 hN hy hx (v := .ref D) rfl (fun s6 J5 => ?_) hf)
      have hC6 := (J5.pin (C, oC) (List.mem_append_right _ (List.mem_append_right _ (by simp)))).1
      refine ⟨m, ⟨oC, esC, epC, hC6, hdC, rC⟩, fun h' sb => ?_⟩
      have J6 : Inv X pins (σ.set iy (some (.ref D))) (upd H4 D (.lst xs)) s6 := J5.unpinned
      have J7 : Inv X pins (σ.set iy (some (.ref D))) (upd H4 D (.lst xs)) { s6 with heap := h' } := J6.turned (t' := s6.toks) (fun b o hb e => sb.extBut b o hb e) hHC b1 b2 b3 b4
      exact ⟨_, _, J7, fin D p2⟩
    · refine thn (T.item (cxComp X N scope cl fp C s2 H2) rfl rfl rfl hc i _ s4 σ4 H4 _ I4 (fpc fr4) tn4 go) fun r s5 ⟨u, hr, h5⟩ => ?_
      subst hr
      refine thn h5 fun _ s6 ⟨x, H6, I6, r6, y6, tn6, fr6⟩ => ?_
      have I6' := I6.pinned (fpc fr6) (T.obj _ _ tn6)
      refine thn (hg fp C s2 H2 _ s6 σ4 H6 x u _ I6' r6 (step x H6 y6)) fun _ s7 ⟨σ7, H7, I7, q7⟩ => ?_
      refine thn (he fp C s2 H2 _ s7 σ7 H7 _ I7 q7) fun yv s8 ⟨y, H8, I8, r8, m', hm, w8⟩ => ?_
      obtain ⟨p1, p2, p3, p4, p5⟩ := I8.pin (D, lstObj us k) (by simp [cxComp])
      have hsz' : us.toArray.size ≤ sizeLine := by simp; rw [← rv.length]; exact Nat.le_of_lt hsz
      refine wpAny_list_append_plain (hsz := hsz') ⟨k, p1⟩ fun h' pl sb => ?_
      have tn8 : tn (i + 1) s8.heap := T.keep _ _ _ tn6 fun b hb o e => (I8.pin (b, o) (List.mem_append_right _ (List.mem_append_right _ (mem_pinsAt hb e)))).1
      have fr8 : ∀ b ∈ fp, H8 b = none := fun b hb => by
        obtain ⟨o, e, d⟩ := T.obj _ _ tn6 b hb
        exact (I8.pin (b, o) (List.mem_append_right _ (List.mem_append_right _ (mem_pinsAt hb e)))).2.1
      have I9 : Inv (cxComp X N scope cl fp C s2 H2) [] σ7 H8 s8 := I8.pins_of fun p hp => nomatch hp
      have I10 : Inv (cxComp X N scope cl fp C s2 H2) [] σ7 H8 { s8 with heap := h' } := I9.turned (t' := s8.toks) (it := D) (fun b o hb e => sb.extBut b o hb e) p2 p3 (.inr (Nat.le_of_eq hDD))
        (fun x a e => Nat.ne_of_lt (cellD x a (hcn x a e))) (fun p hp => by simp [cxComp] at hp)
      obtain ⟨k', pl⟩ := pl
      have eu : us.toArray.push yv = (us ++ [yv]).toArray := by simp
      rw [eu] at pl
      have I11 : Inv (cxComp X N scope cl fp C s2 H2) [(D, lstObj (us ++ [yv]) k')] σ7 H8 { s8 with heap := h' } := I10.pins_of fun p hp => by
        have e : p = (D, lstObj (us ++ [yv]) k') := by simpa using hp
        subst e
        exact ⟨pl, p2, p3, p4, fun v z => by cases z⟩
      exact ⟨m', hm, i + 1, xs ++ [y], us ++ [yv], k', σ7, H8, I11, T.keep _ _ _ tn8 fun b hb o e => sb.extBut b o (Nat.ne_of_lt (hfl b hb)) e, fr8, rv.append (.cons r8 .nil), w8⟩
  exact codeAny_compStart_list loop (T.self _ 0 _ _ _ tn3 loop)
end
section
variable {X : Cx} {N tgs frs : List Str} {ix : List Nat} {scope : Scope} {cl : List (Str × Addr)}
theorem qs_setC {elt iter tg : Expr} {pos spos py : Pos} {y : Str} {i : Nat} {wi : TI} {g : TG} {te : TE} (hN : X.N.Nodup) (hy : X.N[i]? = some y) (hx : Loc X.env.scope y) (c : CompOk X N tgs frs ix scope cl) (hc : X.calm = true) (hi : QI X tg iter wi)
    (hg : ∀ fp C s H, QG (cxComp X N scope cl fp C s H) tg g) (he : ∀ fp C s H, QE (cxComp X N scope cl fp C s H) elt te)
    (hs : ∀ x, foldedSetIterable iter X.env x = pure x := by intro _; rfl)
    (hsw : swapsWith (.ListComp elt [⟨tg, iter, [], 0⟩] scope pos) (some (.Name y py)) spos.line X.env = pure true := by rfl)
    (hf : X.fn y = true ∨ X.env.scope.names.lookup y = some .local := by first | exact .inl rfl | exact .inr rfl | assumption) :
    QS X (.Assign [.Name y py] (.ListComp elt [⟨tg, iter, [], 0⟩] scope pos) spos) (tAsg (tComp wi g te tgs ix) (gName i)) :=
  ⟨ps_setC hN hy hx c hc hi.out (fun fp C s H => (hg fp C s H).out) (fun fp C s H => (he fp C s H).out) hs hsw hf⟩
end
section
variable {prog : Program} {w : World} {A : Around} {E : Value → Shared → Prop} {s : Shared}
theorem draw_lst {it l : Addr} {items : Array Value} (hne : l ≠ it) : ∀ (n i : Nat) (s : Shared) (Q : List Value → Shared → Prop), s.heap.IsListIter it l i → s.heap.IsList l items → i + n ≤ items.size →
    (∀ h', h'.IsListIter it l (i + n) → Heap.SameBut it s.heap h' → Q ((items.toList.drop i).take n) { s with heap := h' }) → wpAny (model prog w) A (draw (.ref it) n) Q E s
  | 0, i, s, Q, hit, _, _, hQ => by
    show wpAny _ _ (pure []) Q E s
    exact wpAny_pure (by simpa using hQ s.heap hit (Heap.SameBut.refl ..))
  | n + 1, i, s, Q, hit, ht, hle, hQ => by
    have hlt : i < items.size := by omega
    show wpAny _ _ (pyNext (.ref it) >>= _) Q E s
    refine wpAny_bind (wpAny_pyNext_list_item hit ht (x := items[i]) (by simp [hlt]) fun h1 hit1 hs1 => ?_)
    refine wpAny_bind (wpAny_holding (draw_lst hne n (i + 1) _ _ hit1 (ht.extBut hs1.extBut hne) (by omega) fun h2 hit2 hs2 => wpAny_pure ?_))
    have hd : items.toList.drop i = items[i] :: items.toList.drop (i + 1) := by simp [List.drop_eq_getElem_cons, hlt]
    have := hQ h2 (by rw [show i + (n + 1) = i + 1 + n by omega]; exact hit2) (hs1.trans hs2)
    rw [hd, List.take_succ_cons] at this
    exact this
theorem unpackItems_lst {l : Addr} {items : Array Value} {Q : List Value → Shared → Prop} (hh : A.handled = none) (ht : s.heap.IsList l items)
    (hQ : ∀ h', Heap.ExtBut s.heap.objs.size s.heap h' → Q items.toList { s with heap := h' }) : wpAny (model prog w) A (unpackItems (.ref l) items.size none) Q E s := by
  have hlt : l ≠ s.heap.objs.size := by obtain ⟨o, ho, _⟩ := ht; exact Nat.ne_of_lt (Heap.lt_size ho)
  unfold unpackItems
  refine wpAny_bind ?_
  · unfold notIterableAtAll
    refine wpAny_bind (wpAny_specialOf ht.typeIs slot_list_iter.lookup ?_)
    refine wpAny_pure ?_
    simp only [Bool.false_eq_true, if_false]
    refine wpAny_bind (wpAny_holding (wpAny_pyIter_list ht ?_))
    refine wpAny_bind (wpAny_holding (draw_lst hlt items.size 0 _ _ ⟨_, Heap.get?_push_size _ rfl, rfl, rfl⟩ (ht.at fun o e => Heap.get?_push_of_some _ e) (by omega) fun h1 hit1 hs1 => ?_))
    have hall : List.take items.size (List.drop 0 items.toList) = items.toList := by
      rw [List.drop_zero]; exact List.take_of_length_le (by simp)
    rw [hall]
    rw [if_neg (by simp)]
    have ht1 : h1.IsList l items := (ht.at fun o e => Heap.get?_push_of_some _ e).extBut hs1.extBut hlt
    refine wpAny_bind (wpAny_holding (wpAny_pyNext_list_end hh hit1 ht1 (by simp) fun h2 he2 => ?_))
    simp only [Option.isSome_none, Bool.false_eq_true, if_false]
    refine wpAny_pure (hQ h2 fun b o hb e => he2 b o hb (hs1.extBut b o hb (Heap.get?_push_of_some _ e)))
theorem assign_Tuple_lst {env : Env} {elts : List Expr} {x1} {pos : Pos} {t : Addr} {items : Array Value} {Q : Unit → Shared → Prop} (hh : A.handled = none) (ht : s.heap.IsList t items)
    (hn : (assignEach elts env).length = items.size) (hstar : (assignEach elts env).findIdx? (·.1) = none)
    (h : ∀ h', Heap.ExtBut s.heap.objs.size s.heap h' → wpAny (model prog w) A (assignInOrder ((assignEach elts env).map (·.2)) items.toList) Q E { s with heap := h' }) :
    wpAny (model prog w) A (assign (.Tuple elts x1 pos) env (.ref t)) Q E s := by
  rw [assign_Tuple]
  refine wpAny_bind (wpAny_standAt ?_)
  unfold unpack
  rw [hn, hstar]
  exact wpAny_bind (wpAny_holding (unpackItems_lst hh ht h))
end
section
variable {X : Cx} {pos : Pos} {u : TGs}
noncomputable def gTupL (K : PySem.W.Frag) (n : Nat) (t : TGs) : TG := fun v σ H Q => ∃ a xs, v = .ref a ∧ SqL K H a xs ∧ xs.length = n ∧ t xs σ H Q
theorem qg_tupL {K : PySem.W.Frag} {ts : List Expr} {k n : Nat} (hc : X.calm = true) (h : QGs X ts u) (hn : (assignEach ts X.env).length = n := by rfl) (hst : (assignEach ts X.env).findIdx? (·.1) = none := by rfl) (hK : X.K = K := by rfl) : QG X (.Tuple ts k pos) (gTupL K n u) := by
  subst hK
  refine ⟨fun pins s σ H v u' Q I r hw => ?_⟩
  obtain ⟨a, xs, e1, hq, hl, hw⟩ := hw
  subst e1
  cases r
  obtain ⟨its, rv, ht, hz⟩ := I.list hq
  refine assign_Tuple_lst (I.ok.hd hc) ht.isList (by simp [hn, ← hl, rv.length]) hst fun h' hx => ?_
  have I1 : Inv X pins σ H { s with heap := h' } := I.kept (t' := s.toks) fun b o e => hx b o (Nat.ne_of_lt (Heap.lt_size e)) e
  exact h.out pins _ σ H xs _ Q I1 (by simpa using rv) hw
end
end L2

namespace L2
open PySem PySem.Spec PyProof.Rows
theorem snoc_get {α : Type} {xs : List α} {x : α} {i : Nat} {y : α} (h : (xs ++ [x])[i]? = some y) : (i < xs.length ∧ xs[i]? = some y) ∨ (i = xs.length ∧ y = x) := by
  rcases Nat.lt_trichotomy i xs.length with l | l | l
  · rw [List.getElem?_append_left l] at h; exact .inl ⟨l, h⟩
  · subst l; simp at h; exact .inr ⟨rfl, h.symm⟩
  · rw [List.getElem?_eq_none (by simp; omega)] at h; cases h
end L2

namespace L2
open PySem PySem.Spec PyProof.Rows
section
variable {X : Cx} {pins : List (Addr × Obj)} {σ : St} {H : Hp} {s : Shared} {h' : Heap}
theorem Inv.turnedAll {t' : Nat} {ch : List Addr} (I : Inv X pins σ H s) (k : ∀ b o, b ∉ ch → s.heap.get? b = some o → h'.get? b = some o) (hf : ∀ b ∈ ch, FpOk X pins H b) : Inv X pins σ H { s with heap := h', toks := t' } := by
  have nit : ∀ b u, H b = some u → b ∉ ch := fun b u e z => by rw [(hf b z).1] at e; cases e
  refine I.step (g' := s.gens) (d' := s.drawn) (ch := ch) (fun b hb => ?_) (fun b o _ _ hc e _ => k b o hc e) (fun b o _ _ hc e _ => ⟨o.slots, k b o hc e⟩) (fun _ _ _ _ n => n)
    (fun b o hc e => ⟨o, k b o hc e⟩) (fun _ _ e => e) (fun _ _ _ e => e) (fun b ps e => ⟨#[], by rw [e]; simp⟩) (fun m hm => ?_) (fun b u e => ?_) I.bare
  · obtain ⟨_, f1, _, f3, f4, f5⟩ := hf b hb
    exact ⟨f3, f1, f4, f5⟩
  · obtain ⟨o, es, ep, q, r⟩ := hm
    exact ⟨o, es, ep, k _ o (fun z => (hf _ z).2.1 rfl) q, r⟩
  · refine (I.hok b u e).stay (fun c v hc q => k c v ?_ q) (fun _ q => q) fun _ _ q => q
    rcases hc with z | z
    · rw [z]; exact nit b u e
    · exact nit c _ z
end
section
variable {X : Cx}
end
section
variable {K : PySem.W.Frag} {H : Hp} {Q : VK}
end
end L2

namespace L2
open PySem PySem.Spec PyProof.Rows
section
variable {prog : Program} {w : World} {A : Around} {E : Value → Shared → Prop} {s : Shared}
end
noncomputable def IteL (K : PySem.W.Frag) (a : Addr) : It :=
  ⟨fun i H => ∃ xs x, SqL K H a xs ∧ xs[i]? = some x, fun i H v H' => ∃ p x, v = .ref p ∧ H p = none ∧ H' = upd H p (.tup [.int i, x]) ∧ ∀ xs, SqL K H a xs → xs[i]? = some x, fun i H => ∃ xs, SqL K H a xs ∧ xs.length = i⟩
noncomputable def IteT (K : PySem.W.Frag) (a : Addr) : It :=
  ⟨fun i H => ∃ xs x, SqT K H a xs ∧ xs[i]? = some x, fun i H v H' => ∃ p x, v = .ref p ∧ H p = none ∧ H' = upd H p (.tup [.int i, x]) ∧ ∀ xs, SqT K H a xs → xs[i]? = some x, fun i H => ∃ xs, SqT K H a xs ∧ xs.length = i⟩
theorem cls_apart {h : Heap} {a b : Addr} {o u : Obj} {x y : String} (e1 : h.get? a = some o) (c1 : o.cls = .type x) (e2 : h.get? b = some u) (c2 : u.cls = .type y) (hn : x ≠ y) : a ≠ b := fun z => by
  subst z
  rw [e1] at e2
  cases e2
  rw [c1] at c2
  exact hn (by injection c2)
theorem Inv.pair {X : Cx} {pins : List (Addr × Obj)} {σ : St} {H : Hp} {s : Shared} {g : Heap} {tk : Nat} {ch : List Addr} {u v : Value} {x y : V} (I : Inv X pins σ H s) (k : ∀ b o, b ∉ ch → s.heap.get? b = some o → g.get? b = some o) (hf : ∀ b ∈ ch, FpOk X pins H b)
    (hg : g.get? s.heap.objs.size = some { cls := .type "tuple", data := .seq #[u, v] }) (rx : RelV x u) (ry : RelV y v) : Inv X pins σ (upd H s.heap.objs.size (.tup [x, y])) { s with heap := g, toks := tk } ∧ H s.heap.objs.size = none := by
  have I1 : Inv X pins σ H { s with heap := g, toks := tk } := I.turnedAll k hf
  have hn : H s.heap.objs.size = none := I.hok.fresh (Nat.le_refl _)
  obtain ⟨_, f1, f2, f3, f4, f5⟩ := I.fpOk (Nat.le_refl _) hn
  refine ⟨I1.adopt hn f1 f3 f4 f5 ?_, hn⟩
  exact ⟨by show 2 ≤ sizeLine; decide, [u, v], .cons rx (.cons ry .nil), ⟨_, hg, rfl, _, rfl⟩⟩
theorem turn_enumL {P : Program} {w : World} {K : PySem.W.Frag} {elts : List Expr} {k : Nat} {pos : Pos} (a e it : Addr) (hei : e ≠ it) : Turn P w K (.Tuple elts k pos) (IteL K a) [e, it] e (fun i h => (∃ old, IsEnum h e it i old) ∧ h.IsListIter it a i) where
  mem := by simp
  obj := fun i h st b hb => by
    obtain ⟨⟨old, q⟩, o, q1, q2, q3⟩ := st
    simp only [List.mem_cons, List.not_mem_nil, or_false] at hb
    rcases hb with rfl | rfl
    · exact ⟨_, q, fun v z => by cases z⟩
    · exact ⟨o, q1, fun v z => by rw [q3] at z; cases z⟩
  keep := fun i h h' st kk => by
    obtain ⟨⟨old, q⟩, o, q1, q2⟩ := st
    exact ⟨⟨old, kk e (by simp) _ q⟩, o, kk it (by simp) o q1, q2⟩
  item := by
    intro X hP hw hK hc i pins s σ H E I hf st hg
    subst hP hw hK
    obtain ⟨xs, x, hq, hx⟩ := hg
    obtain ⟨its, rv, p, hz⟩ := I.list hq
    obtain ⟨u, hu, ru⟩ := rv.get hx
    have hl := rv.length
    have hil : i < its.toArray.size := by have := (List.getElem?_eq_some_iff.mp hu).1; simpa using this
    obtain ⟨⟨old, q⟩, q2⟩ := st
    have hne : a ≠ it := by
      obtain ⟨o1, g1, g2, _⟩ := p.isList
      obtain ⟨o2, g3, g4, _⟩ := q2
      exact cls_apart g1 g2 g3 g4 (by decide)
    have hea : e ≠ a := by
      obtain ⟨o1, g1, g2, _⟩ := p.isList
      exact cls_apart q rfl g1 g2 (by decide)
    refine wpAny_pyNext_enum_itemD (Draws.list (A := X.A.in1) (I.ok.hd hc) it a hne its.toArray) q ⟨q2, p.isList⟩ hil hei (by simp [hei, hea]) fun y h' tk hP ho hs' hT hsz hk => ⟨_, rfl, wpAny_letOwnedTupleGo_enum ho fun g he' sb => ?_⟩
    have ey : y = u := by
      have h1 : its.toArray[i]? = some u := by simpa using hu
      exact Option.some.inj (hP.symm.trans h1)
    subst ey
    have hTe : s.heap.objs.size ≠ e := Nat.ne_of_gt (Heap.lt_size q)
    have lt2 : it < s.heap.objs.size := by obtain ⟨o2, g3, _⟩ := q2; exact Heap.lt_size g3
    obtain ⟨I2, hn⟩ := I.pair (g := g) (tk := tk + 1) (ch := [e, it]) (x := .int i) (y := x) (fun b o hb r => (sb.2 b (fun z => hb (by simp [z]))).trans (hk b o (fun z => hb (by simp [z])) (fun z => hb (by simp [z])) r)) hf ((sb.2 _ hTe).trans hT) ⟨tk, rfl⟩ ru
    refine ⟨.ref s.heap.objs.size, _, I2, rfl, ⟨_, x, rfl, hn, rfl, fun ys hy => by rw [I.list_inj hy hq]; exact hx⟩, ⟨⟨_, by simpa using he'⟩, hs'.1.at fun o r => (sb.2 it hei.symm).trans r⟩, fun b hb => ?_⟩
    simp only [List.mem_cons, List.not_mem_nil, or_false] at hb
    rcases hb with rfl | rfl
    · rw [upd_ne hTe.symm]; exact (hf _ (by simp)).1
    · rw [upd_ne (Nat.ne_of_lt lt2)]; exact (hf _ (by simp)).1
  done := by
    intro X hP hw hK hc i pins s σ H E I hf st hg
    subst hP hw hK
    obtain ⟨xs, hq, hx⟩ := hg
    obtain ⟨its, rv, p, hz⟩ := I.list hq
    obtain ⟨⟨old, q⟩, q2⟩ := st
    have hl := rv.length
    have hne : a ≠ it := by
      obtain ⟨o1, g1, g2, _⟩ := p.isList
      obtain ⟨o2, g3, g4, _⟩ := q2
      exact cls_apart g1 g2 g3 g4 (by decide)
    have hi : its.toArray.size = i := by simp; omega
    subst hi
    refine wpAny_pyNext_enum_endD (Draws.list (A := X.A.in1) (I.ok.hd hc) it a hne its.toArray) q ⟨q2, p.isList⟩ fun h' eb => ⟨rfl, I.turnedAll (t' := s.toks) (ch := [it]) (fun b o hb r => eb b o (fun z => hb (by simp [z])) r) fun b hb => hf b (by simp at hb; simp [hb])⟩
  self := fun _ _ _ _ _ st h => by
    obtain ⟨⟨old, q⟩, _⟩ := st
    exact wpAny_pyIter_enum q h
noncomputable def Itz (K : PySem.W.Frag) (a b : Addr) : It :=
  ⟨fun i H => ∃ xs ys x y, SqL K H a xs ∧ SqL K H b ys ∧ xs[i]? = some x ∧ ys[i]? = some y, fun i H v H' => ∃ p x y, v = .ref p ∧ H p = none ∧ H' = upd H p (.tup [x, y]) ∧ (∀ xs, SqL K H a xs → xs[i]? = some x) ∧ ∀ ys, SqL K H b ys → ys[i]? = some y, fun i H => ∃ xs ys, SqL K H a xs ∧ SqL K H b ys ∧ (xs.length ≤ i ∨ ys.length ≤ i)⟩
theorem turn_zip {P : Program} {w : World} {K : PySem.W.Frag} {elts : List Expr} {k : Nat} {pos : Pos} (a b z TI TO i1 i2 : Addr) (D : ZipApart z TI TO i1 i2 a b) :
    Turn P w K (.Tuple elts k pos) (Itz K a b) [z, TI, TO, i1, i2] z (fun i h => IsZip h z TI TO .none ∧ IsPair h TI (.ref i1) (.ref i2) ∧ (∃ u v, IsPair h TO u v) ∧ h.IsListIter i1 a i ∧ h.IsListIter i2 b i) where
  mem := by simp
  obj := fun i h st c hb => by
    obtain ⟨q1, q2, ⟨u, v, q3⟩, ⟨o4, q4, _, d4⟩, ⟨o5, q5, _, d5⟩⟩ := st
    simp only [List.mem_cons, List.not_mem_nil, or_false] at hb
    rcases hb with rfl | rfl | rfl | rfl | rfl
    · exact ⟨_, q1, fun v z => by cases z⟩
    · exact ⟨_, q2, fun v z => by cases z⟩
    · exact ⟨_, q3, fun v z => by cases z⟩
    · exact ⟨o4, q4, fun v z => by rw [d4] at z; cases z⟩
    · exact ⟨o5, q5, fun v z => by rw [d5] at z; cases z⟩
  keep := fun i h h' st kk => by
    obtain ⟨q1, q2, ⟨u, v, q3⟩, ⟨o4, q4, r4⟩, ⟨o5, q5, r5⟩⟩ := st
    exact ⟨kk z (by simp) _ q1, kk TI (by simp) _ q2, ⟨u, v, kk TO (by simp) _ q3⟩, ⟨o4, kk i1 (by simp) _ q4, r4⟩, ⟨o5, kk i2 (by simp) _ q5, r5⟩⟩
  item := by
    intro X hP hw hK hc i pins s σ H E I hf st hg
    subst hP hw hK
    obtain ⟨xs, ys, x, y, hqx, hqy, hx, hy⟩ := hg
    obtain ⟨its, rv, p, hz⟩ := I.list hqx
    obtain ⟨jts, rw', p', hz'⟩ := I.list hqy
    obtain ⟨u, hu, ru⟩ := rv.get hx
    obtain ⟨v, hv, rv'⟩ := rw'.get hy
    obtain ⟨q1, q2, ⟨u3, v3, q3⟩, q4, q5⟩ := st
    have l1 := Heap.lt_size q1
    have l2 := Heap.lt_size q2
    have l3 := Heap.lt_size q3
    have l4 : i1 < s.heap.objs.size := by obtain ⟨o, g, _⟩ := q4; exact Heap.lt_size g
    have l5 : i2 < s.heap.objs.size := by obtain ⟨o, g, _⟩ := q5; exact Heap.lt_size g
    refine wpAny_pyNext_zip_item D q1 q2 q3 q4 q5 p.isList p'.isList (x := u) (y := v) (by simpa using hu) (by simpa using hv) fun h' a1 a2 a3 a4 a5 a6 a7 => ⟨_, rfl, wpAny_letOwnedTupleGo_zip a1 fun g hz2 sb => ?_⟩
    obtain ⟨I2, hn⟩ := I.pair (g := g) (tk := s.toks) (ch := [z, TO, i1, i2]) (x := x) (y := y) (fun c o hb r => (sb.2 c (fun e => hb (by simp [e]))).trans (a7 c o (fun e => hb (by simp [e])) (fun e => hb (by simp [e])) (fun e => hb (by simp [e])) (fun e => hb (by simp [e])) r)) (fun c hb => hf c (by simp at hb; rcases hb with e | e | e | e <;> simp [e])) ((sb.2 _ (Nat.ne_of_gt l1)).trans a5) ru rv'
    refine ⟨.ref s.heap.objs.size, _, I2, rfl, ⟨_, x, y, rfl, hn, rfl, fun zs h => by rw [I.list_inj h hqx]; exact hx, fun zs h => by rw [I.list_inj h hqy]; exact hy⟩, ⟨hz2, ?_, ⟨_, _, (sb.2 _ D.TOz).trans a2⟩, a3.at fun o r => (sb.2 i1 D.i1z).trans r, a4.at fun o r => (sb.2 i2 D.i2z).trans r⟩, fun c hb => ?_⟩
    · exact (sb.2 _ D.TIz).trans (a7 TI _ D.TIz D.TITO D.TIi1 D.TIi2 q2)
    · have hc0 := (hf c hb).1
      simp only [List.mem_cons, List.not_mem_nil, or_false] at hb
      have : c < s.heap.objs.size := by rcases hb with rfl | rfl | rfl | rfl | rfl <;> assumption
      rw [upd_ne (Nat.ne_of_lt this)]; exact hc0
  done := by
    intro X hP hw hK hc i pins s σ H E I hf st hg
    subst hP hw hK
    obtain ⟨xs, ys, hqx, hqy, hx⟩ := hg
    obtain ⟨its, rv, p, hz⟩ := I.list hqx
    obtain ⟨jts, rw', p', hz'⟩ := I.list hqy
    have m1 := rv.length
    have m2 := rw'.length
    obtain ⟨q1, q2, ⟨u3, v3, q3⟩, q4, q5⟩ := st
    refine wpAny_pyNext_zip_end (I.ok.hd hc) D q1 q2 q3 q4 q5 p.isList p'.isList ?_ fun h' kk => ⟨rfl, I.turnedAll (t' := s.toks) (ch := [z, TO, i1, i2]) (fun c o hb r => kk c o (fun e => hb (by simp [e])) (fun e => hb (by simp [e])) (fun e => hb (by simp [e])) (fun e => hb (by simp [e])) r) (fun c hb => hf c (by simp at hb; rcases hb with e | e | e | e <;> simp [e]))⟩
    rcases hx with h | h
    · exact .inl (by simp; omega)
    · exact .inr (by simp; omega)
  self := fun _ _ _ _ _ st h => wpAny_pyIter_zip st.1 h
section
variable {X : Cx} {a b : Expr} {t : TA} {p pos tpos : Pos} {ts : List Expr} {k : Nat}
noncomputable def iEnumL (K : PySem.W.Frag) (t : TA) : TI := fun σ H R => t σ H fun vs H1 => ∃ a, vs = [.ref a] ∧ (∃ xs, SqL K H1 a xs) ∧ R (IteL K a) H1
noncomputable def iEnumT (K : PySem.W.Frag) (t : TA) : TI := fun σ H R => t σ H fun vs H1 => ∃ a, vs = [.ref a] ∧ (∃ xs, SqT K H1 a xs) ∧ R (IteT K a) H1
noncomputable def iZip (K : PySem.W.Frag) (t : TA) : TI := fun σ H R => t σ H fun vs H1 => ∃ a b, vs = [.ref a, .ref b] ∧ (∃ xs, SqL K H1 a xs) ∧ (∃ ys, SqL K H1 b ys) ∧ R (Itz K a b) H1
theorem qi_enum_L {K : PySem.W.Frag} (hg : Gl X "enumerate") (hm : X.mg "enumerate" = none) (ha : QA X [a] t) (hn : nstar a = true := by rfl) (hK : X.K = K := by rfl) : QI X (.Tuple ts k tpos) (.Call (.Name "enumerate" p) [a] [] pos) (iEnumL K t) := by
  subst hK
  refine ⟨fun pins s σ H R I h => ?_⟩
  refine Call_ (ld_blt I hg hm (by decide +kernel : bootBuiltins "enumerate" = some (.type "enumerate")) (PyProof.Rows.callWith_type1 (thn (ha.out pos pins s σ H _ I h) fun us s1 ⟨vs, H1, I1, r1, q1⟩ => ?_) (star_cons hn) rfl))
  obtain ⟨l, e, ⟨xs, hq⟩, q⟩ := q1
  subst e
  cases r1 with
  | cons r rr =>
    cases rr
    cases r
    obtain ⟨its, rv, pl, hz⟩ := I1.list hq
    refine call_enumerate_list pl.isList fun g h1 h2 h3 h4 => wpAny_pyIter_enum h1 ?_
    have I2 : Inv X pins σ H1 { s1 with heap := g } := I1.kept (t' := s1.toks) h4
    refine ⟨s1.heap.objs.size + 1, [s1.heap.objs.size + 1, s1.heap.objs.size], _, _, H1, rfl, I2, turn_enumL l _ _ (Nat.succ_ne_self _), ⟨⟨_, h1⟩, h2⟩, fun c hc => ?_, q⟩
    have hle : s1.heap.objs.size ≤ c := by
      simp only [List.mem_cons, List.not_mem_nil, or_false] at hc
      rcases hc with rfl | rfl
      · exact Nat.le_succ _
      · exact Nat.le_refl _
    exact I1.fpOk hle (I1.hok.fresh hle)
theorem qi_zip {K : PySem.W.Frag} (hg : Gl X "zip") (hm : X.mg "zip" = none) (ha : QA X [a, b] t) (hn : nstar a = true := by rfl) (hn2 : nstar b = true := by rfl) (hK : X.K = K := by rfl) : QI X (.Tuple ts k tpos) (.Call (.Name "zip" p) [a, b] [] pos) (iZip K t) := by
  subst hK
  refine ⟨fun pins s σ H R I h => ?_⟩
  have e2 : starEach [b] X.env = [(false, eval b X.env)] := star_cons hn2
  refine Call_ (ld_blt I hg hm (by decide +kernel : bootBuiltins "zip" = some (.type "zip")) (PyProof.Rows.callWith_type1 (thn (ha.out pos pins s σ H _ I h) fun us s1 ⟨vs, H1, I1, r1, q1⟩ => ?_) (star_cons hn) (by rw [e2]; rfl)))
  obtain ⟨l, m, e, ⟨xs, hq⟩, ⟨ys, hq'⟩, q⟩ := q1
  subst e
  cases r1 with
  | cons r rr =>
    cases rr with
    | cons r' rr =>
      cases rr
      cases r; cases r'
      obtain ⟨its, rv, pl, hz⟩ := I1.list hq
      obtain ⟨jts, rw', pl', hz'⟩ := I1.list hq'
      have a1 : l < s1.heap.objs.size := by obtain ⟨o, g, _⟩ := pl.isList; exact Heap.lt_size g
      have a2 : m < s1.heap.objs.size := by obtain ⟨o, g, _⟩ := pl'.isList; exact Heap.lt_size g
      refine call_zip_2 pl.isList pl'.isList fun g h1 h2 h3 h4 h5 h6 h7 => wpAny_pyIter_zip h1 ?_
      have I2 : Inv X pins σ H1 { s1 with heap := g } := I1.kept (t' := s1.toks) h7
      refine ⟨_, _, _, _, H1, rfl, I2, turn_zip l m _ _ _ _ _ (zipApart_new a1 a2), ⟨h1, h2, ⟨_, _, h3⟩, h4, h5⟩, fun c hc => ?_, q⟩
      have hle : s1.heap.objs.size ≤ c := by
        simp only [List.mem_cons, List.not_mem_nil, or_false] at hc
        rcases hc with rfl | rfl | rfl | rfl | rfl
        · exact Nat.le_add_right _ _
        · exact Nat.le_add_right _ _
        · exact Nat.le_add_right _ _
        · exact Nat.le_refl _
        · exact Nat.le_add_right _ _
      exact I1.fpOk hle (I1.hok.fresh hle)
end
section
variable {K : PySem.W.Frag} {σ : St} {H : Hp} {Q : VK} {D : Ends} {g : TG} {te : TE} {tb : TS}
theorem in_enumL {t : TA} {R : It → Hp → Prop} (h : t σ H fun vs H1 => ∃ a, vs = [.ref a] ∧ (∃ xs, SqL K H1 a xs) ∧ R (IteL K a) H1) : iEnumL K t σ H R := h
theorem in_enumT {t : TA} {R : It → Hp → Prop} (h : t σ H fun vs H1 => ∃ a, vs = [.ref a] ∧ (∃ xs, SqT K H1 a xs) ∧ R (IteT K a) H1) : iEnumT K t σ H R := h
theorem in_zip {t : TA} {R : It → Hp → Prop} (h : t σ H fun vs H1 => ∃ a b, vs = [.ref a, .ref b] ∧ (∃ xs, SqL K H1 a xs) ∧ (∃ ys, SqL K H1 b ys) ∧ R (Itz K a b) H1) : iZip K t σ H R := h
theorem for_gen {J : It} {n : Nat} (Pv : Nat → St → Hp → Prop) (h0 : Pv 0 σ H) (hgo : ∀ i σ H, i < n → Pv i σ H → J.go i H) (hst : ∀ σ H, Pv n σ H → J.stop n H)
    (hs : ∀ i x σ H H', i < n → Pv i σ H → J.yld i H x H' → g x σ H' fun σ2 H2 => tb { D with nx := Pv (i + 1), ct := Pv (i + 1), bk := D.nx } σ2 H2) (hd : ∀ σ H, Pv n σ H → D.nx σ H) :
    ∃ W : Nat → Nat → St → Hp → Prop, (∃ m, W 0 m σ H) ∧ ∀ i m σ H, W i m σ H →
      (J.stop i H ∧ D.nx σ H) ∨ (J.go i H ∧ ∃ N : St → Hp → Prop, (∀ σ' H', N σ' H' → ∃ m', m' < m ∧ W (i + 1) m' σ' H') ∧ ∀ x H', J.yld i H x H' → g x σ H' fun σ2 H2 => tb { D with nx := N, ct := N, bk := D.nx } σ2 H2) := by
  refine ⟨fun i m σ H => m = n - i ∧ i ≤ n ∧ Pv i σ H, ⟨n, by simp, Nat.zero_le _, h0⟩, ?_⟩
  rintro i m σ H ⟨rfl, hi, p⟩
  by_cases hlt : i < n
  · exact .inr ⟨hgo i σ H hlt p, Pv (i + 1), fun σ' H' p' => ⟨n - (i + 1), by omega, rfl, hlt, p'⟩, fun x H' y => hs i x σ H H' hlt p y⟩
  · have e : i = n := by omega
    subst e
    exact .inl ⟨hst σ H p, hd σ H p⟩
theorem comp_gen {J : It} {n : Nat} {σ0 : St} {R : List V → Hp → Prop} (Pv : Nat → List V → St → Hp → Prop) (hz : n < sizeLine) (hl : ∀ i ys σ H, Pv i ys σ H → ys.length = i) (h0 : Pv 0 [] σ0 H) (hgo : ∀ i ys σ H, i < n → Pv i ys σ H → J.go i H) (hst : ∀ ys σ H, Pv n ys σ H → J.stop n H)
    (hs : ∀ i x ys σ H H', i < n → Pv i ys σ H → J.yld i H x H' → g x σ H' fun σ2 H2 => te σ2 H2 fun y H3 => Nx n i (Pv (i + 1) (ys ++ [y]) σ2 H3)) (hd : ∀ ys σ H, Pv n ys σ H → R ys H) :
    ∃ W : Nat → Nat → List V → St → Hp → Prop, (∃ m, W 0 m [] σ0 H) ∧ ∀ i m xs σc H, W i m xs σc H → xs.length < sizeLine ∧
    ((J.stop i H ∧ R xs H) ∨ (J.go i H ∧ ∀ x H', J.yld i H x H' → g x σc H' fun σ2 H2 => te σ2 H2 fun y H3 => ∃ m', m' < m ∧ W (i + 1) m' (xs ++ [y]) σ2 H3)) := by
  refine ⟨fun i m xs σ H => m = n - i ∧ i ≤ n ∧ Pv i xs σ H, ⟨n, by simp, Nat.zero_le _, h0⟩, ?_⟩
  rintro i m xs σ H ⟨rfl, hi, p⟩
  refine ⟨by rw [hl i xs σ H p]; exact Nat.lt_of_le_of_lt hi hz, ?_⟩
  by_cases hlt : i < n
  · exact .inr ⟨hgo i xs σ H hlt p, fun x H' y => hs i x xs σ H H' hlt p y⟩
  · have e : i = n := by omega
    subst e
    exact .inl ⟨hst xs σ H p, hd xs σ H p⟩
end
end L2

namespace L2
open PySem PySem.Spec PyProof.Rows
section
variable {K : PySem.W.Frag} {σ : St} {H : Hp} {Q : VK} {D : Ends}
theorem in_eqS {x y : Str} (h : Q (.bl (decide (V.str x = V.str y))) H) : rEq (.str x) (.str y) H Q := ⟨rfl, h⟩
theorem in_tru {ta : TE} {R : Bool → Hp → Prop} (h : ta σ H fun x H' => ∃ k, TruV K x H' k ∧ R k H') : tTru K ta σ H R := h
theorem in_chain {r r' : R2} {ta tb tc : TE} (h : ta σ H fun x H1 => tb σ H1 fun y H2 => r x y H2 fun z H3 => ∃ k, z = .bl k ∧ (if k = true then tc σ H3 fun w' H4 => r' y w' H4 Q else Q (.bl false) H3)) : tChain r r' ta tb tc σ H Q := h
theorem in_sl {r : V → Option Int → Option Int → Hp → VK → Prop} {te : TE} {tl th : TO} (h : te σ H fun x H1 => tl σ H1 fun l H2 => th σ H2 fun u H3 => r x l u H3 Q) : tSl r te tl th σ H Q := h
theorem in_part {t : TE} {R : Option Int → Hp → Prop} (h : t σ H fun x H1 => ∃ i, x = .int i ∧ R (some i) H1) : tPart t σ H R := h
theorem in_nopart {R : Option Int → Hp → Prop} (h : R none H) : tNoPart σ H R := h
theorem in_gtup2 {i j : Nat} {p : Addr} {x y : V} {R : St → Hp → Prop} (e : H p = some (.tup [x, y])) (h : R ((σ.set i (some x)).set j (some y)) H) : gTup K 2 (gCons (gName i) (gCons (gName j) gNil)) (.ref p) σ H R :=
  ⟨p, _, rfl, SqT.of e, rfl, _, _, rfl, _, _, rfl, rfl, h⟩
theorem via2 {α : Type} {G : Prop} {S B : α → Hp → Prop} (hA : (∀ a H, S a H → B a H) → G) (hB : ∀ a H, S a H → B a H) : G := hA hB
theorem map_get {α : Type} {f : α → V} {xs : List α} {i : Nat} {x : V} (h : (xs.map f)[i]? = some x) : ∃ z, x = f z ∧ xs[i]? = some z ∧ z ∈ xs ∧ i < xs.length := by
  rw [List.getElem?_map] at h
  cases e : xs[i]? with
  | none => rw [e] at h; cases h
  | some z => rw [e] at h; exact ⟨z, (Option.some.inj h).symm, rfl, List.mem_of_getElem? e, (List.getElem?_eq_some_iff.mp e).1⟩
end
end L2

namespace L2
open PySem PySem.Spec PyProof.Rows
section
variable {X : Cx} {e : Expr} {te : TE} {g : TG} {pos tpos : Pos} {ts : List Expr} {k : Nat}
theorem qs_asgT (he : QE X e te) (hg : QG X (.Tuple ts k tpos) g) (hs : swapsWithSole [.Tuple ts k tpos] e pos.line X.env = pure false := by rfl) (hw : swappedStores [.Tuple ts k tpos] e X.env = pure none := by rfl)
    (h1 : (assignEach [.Tuple ts k tpos] X.env).map (·.2) = [assign (.Tuple ts k tpos) X.env] := by rfl) : QS X (.Assign [.Tuple ts k tpos] e pos) (tAsg te g) := ⟨ps_asg he.out hg.out hs hw h1⟩
end
section
variable {K : PySem.W.Frag} {σ : St} {H : Hp}
theorem in_gtupL2 {i j : Nat} {p : Addr} {x y : V} {R : St → Hp → Prop} (e : H p = some (.lst [x, y])) (h : R ((σ.set i (some x)).set j (some y)) H) : gTupL K 2 (gCons (gName i) (gCons (gName j) gNil)) (.ref p) σ H R :=
  ⟨p, _, rfl, SqL.of e, rfl, _, _, rfl, _, _, rfl, rfl, h⟩
end
theorem ixN_of {n j : Nat} {i : Int} (e : i = j) (h : j < n) : ixN n i = some j := by
  subst e
  unfold ixN
  rw [if_pos (by omega), if_pos (by omega)]
  simp
theorem via3 {α β : Type} {G : Prop} {S B : α → β → Hp → Prop} (hA : (∀ a b H, S a b H → B a b H) → G) (hB : ∀ a b H, S a b H → B a b H) : G := hA hB
theorem in_pow15 {H : Hp} {Q : VK} (h : Q (.int 1000000000000000) H) : rI CPow (fun i j => .int (i ^ j.toNat)) (.int 10) (.int 15) H Q := ⟨10, 15, rfl, rfl, ⟨by decide, by decide, by decide⟩, by
  have e : (10 : Int) ^ (15 : Int).toNat = 1000000000000000 := by decide
  show Q (.int ((10 : Int) ^ (15 : Int).toNat)) H
  rw [e]; exact h⟩
end L2

namespace L2
open PySem PySem.Spec PyProof.Rows
section
variable {X : Cx} {a b e o : Expr} {es : List Expr} {t : TA} {te to tb : TE} {p p2 pos pos2 apos cpos tpos : Pos}
noncomputable def natsV (lo n : Nat) : List V := (List.range n).map fun i => V.int ((lo + i : Nat) : Int)
noncomputable def tLRng1 (t : TA) : TE := fun σ H Q => t σ H fun vs H1 => ∃ j : Nat, vs = [.int j] ∧ j ≤ 1000 ∧ ∀ l, H1 l = none → Q (.ref l) (upd H1 l (.lst (natsV 0 j)))
noncomputable def tLRng2 (t : TA) : TE := fun σ H Q => t σ H fun vs H1 => ∃ i j : Nat, vs = [.int i, .int j] ∧ i ≤ 1000 ∧ j ≤ 1000 ∧ i ≤ j ∧ ∀ l, H1 l = none → Q (.ref l) (upd H1 l (.lst (natsV i (j - i))))
noncomputable def rIsN : R2 := fun x y H Q => y = .non ∧ Q (.bl (decide (x = .non))) H
theorem q_isN : QOp X (compareOp .Is) rIsN := ⟨op_isN⟩
end
section
variable {K : PySem.W.Frag} {σ : St} {H : Hp} {Q : VK}
theorem in_lrng1 {t : TA} (h : t σ H fun vs H1 => ∃ j : Nat, vs = [.int j] ∧ j ≤ 1000 ∧ ∀ l, H1 l = none → Q (.ref l) (upd H1 l (.lst (natsV 0 j)))) : tLRng1 t σ H Q := h
theorem in_lrng2 {t : TA} (h : t σ H fun vs H1 => ∃ i j : Nat, vs = [.int i, .int j] ∧ i ≤ 1000 ∧ j ≤ 1000 ∧ i ≤ j ∧ ∀ l, H1 l = none → Q (.ref l) (upd H1 l (.lst (natsV i (j - i))))) : tLRng2 t σ H Q := h
theorem in_isiIS {i : Int} (h : Q (.bl false) H) : rIsi K [.int i, .ty "str"] H Q := ⟨_, _, _, _, rfl, .int i, rfl, h⟩
theorem in_neB {x y : Bool} (h : Q (.bl (!decide (V.bl x = V.bl y))) H) : rNe (.bl x) (.bl y) H Q := ⟨rfl, h⟩
theorem in_isNo {x : V} (h : Q (.bl (decide (x = .non))) H) : rIsN x .non H Q := ⟨rfl, h⟩
end
end L2

namespace L2
open PySem PySem.Spec PyProof.Rows
noncomputable def Tp2 (H : Hp) (p : Addr) : Prop := ∃ a b : Int, H p = some (.lst [.int a, .int b]) ∧ 0 ≤ a ∧ 0 ≤ b
structure St2 (p : Addr) (H H' : Hp) : Prop where
  keep : ∀ q o, H q = some o → q ≠ p → H' q = some o
  tape : Tp2 H' p
section
variable {H H1 H2 : Hp} {p q l : Addr} {o : HO}
theorem St2.refl (t : Tp2 H p) : St2 p H H := ⟨fun _ _ h _ => h, t⟩
theorem St2.trans (a : St2 p H H1) (b : St2 p H1 H2) : St2 p H H2 := ⟨fun q o h n => b.keep q o (a.keep q o h n) n, b.tape⟩
theorem Tp2.mk {a b : Int} (h : 0 ≤ a) (h2 : 0 ≤ b) : St2 p H (upd H p (.lst [.int a, .int b])) := ⟨fun q o e n => by rw [upd_ne n]; exact e, ⟨a, b, upd_same, h, h2⟩⟩
theorem Tp2.ne (t : Tp2 H p) (h : H q = none) : q ≠ p := by
  obtain ⟨a, b, e, _⟩ := t
  exact fun z => ne_of_none e h z.symm
theorem Tp2.same (t : Tp2 H p) (s : Same H H1) : Tp2 H1 p := by
  obtain ⟨a, b, e, n⟩ := t
  exact ⟨a, b, s _ _ e, n⟩
theorem Tp2.own (t : Tp2 H p) (n : l ≠ p) : Tp2 (upd H l o) p := by
  obtain ⟨a, b, e, q⟩ := t
  exact ⟨a, b, by rw [upd_ne (Ne.symm n)]; exact e, q⟩
theorem St2.new (a : St2 p H H1) (h : H1 q = none) : St2 p H (upd H1 q o) := ⟨fun b u e1 e2 => by rw [upd_ne (ne_of_none (a.keep b u e1 e2) h)]; exact a.keep b u e1 e2, a.tape.own (a.tape.ne h)⟩
theorem St2.free (s : St2 p H H1) (h : H1 q = none) : H q = none := by
  cases e : H q with
  | none => rfl
  | some o =>
    have := s.keep q o e (s.tape.ne h)
    rw [h] at this; cases this
end
noncomputable def spTape2 (K : PySem.W.Frag) : Sp := fun vs H Q _ => ∃ (a : Addr) (ns : List Int) (k : Int), vs = [.ref a, .int k] ∧ SqL K H a (ns.map V.int) ∧ 0 ≤ k ∧ ∀ p H', H p = none → Same H H' → Tp2 H' p → Q (.ref p) H'
noncomputable def spDraw2 : Sp := fun vs H Q _ => ∃ (p : Addr) (m : Int), vs = [.ref p, .int m] ∧ Tp2 H p ∧ 0 < m ∧ m < 2 ^ 64 ∧ ∀ (r : Nat) H', (r : Int) < m → St2 p H H' → Q (.int r) H'
noncomputable def NV (os : List Nat) : List V := os.map fun o : Nat => V.int o
theorem NV_len (os : List Nat) : (NV os).length = os.length := by simp [NV]
theorem NV_int (os : List Nat) : NV os = (os.map fun o : Nat => (o : Int)).map V.int := by rw [NV, List.map_map]; rfl
theorem NV_get {os : List Nat} {i o : Nat} (h : os[i]? = some o) : (NV os)[i]? = some (V.int o) := by rw [NV, List.getElem?_map, h]; rfl
theorem NV_at {os : List Nat} {i o : Nat} {k : Int} (e : k = i) (h : os[i]? = some o) : atI (NV os) k = some (V.int o) := by rw [e]; exact atI_nat (NV_get h)
theorem NV_snoc (os : List Nat) (o : Nat) : NV os ++ [V.int o] = NV (os ++ [o]) := by simp [NV]
section
variable {H H1 : Hp} {ps : List Addr} {nss : List (List Nat)}
end
noncomputable def walk (os : List Nat) : Nat → List Bool → Nat → List Nat × List Bool
  | 0, met, _ => ([], met)
  | f + 1, met, pl => if met.getD pl true = true then ([], met) else (pl :: (walk os f (met.set pl true) (os.getD pl 0)).1, (walk os f (met.set pl true) (os.getD pl 0)).2)
end L2
namespace L2
open PySem PySem.Spec PyProof.Rows
theorem NV_set (os : List Nat) (i o : Nat) : (NV os).set i (V.int o) = NV (os.set i o) := by simp [NV, List.map_set]
theorem NV_app (xs ys : List Nat) : NV xs ++ NV ys = NV (xs ++ ys) := by simp [NV]
end L2

namespace L2
open PySem PySem.Spec PyProof.Rows
noncomputable def tRev2 (K : PySem.W.Frag) (te : TE) : TE := fun σ H Q => te σ H fun x H1 => ∃ a xs, x = .ref a ∧ SqL K H1 a xs ∧ 0 < xs.length ∧ ∀ p, H1 p = none → Q (.ref p) (upd H1 p (.lst xs.dropLast.reverse))
section
variable {X : Cx} {e : Expr} {te : TE} {pos p1 p2 p3 p4 p5 : Pos} {j j' : Nat}
end
theorem in_rev2 {K : PySem.W.Frag} {σ : St} {H : Hp} {Q : VK} {te : TE} (h : te σ H fun x H1 => ∃ a xs, x = .ref a ∧ SqL K H1 a xs ∧ 0 < xs.length ∧ ∀ p, H1 p = none → Q (.ref p) (upd H1 p (.lst xs.dropLast.reverse))) : tRev2 K te σ H Q := h
theorem get_lt {α : Type} {xs : List α} {i : Nat} {x : α} (h : xs[i]? = some x) : i < xs.length := (List.getElem?_eq_some_iff.mp h).1
end L2
namespace L2
open PySem PySem.Spec PyProof.Rows
end L2

namespace L2
open PySem PySem.Spec PyProof.Rows
section
variable {X : Cx} {N tgs frs : List Str} {ix : List Nat} {scope : Scope} {cl : List (Str × Addr)}
theorem compLoop_genF {prog : Program} {w : World} {A : Around} {R : Result → Shared → Prop} {s : Shared} {elt target iter cnd : Expr} {pos : Pos} {it acc : Value} {env : Env} (I : Nat → Shared → Prop)
    (turn : ∀ n s, I n s → wpAny (model prog w) A (pyNext it) (fun r s1 => match r with
      | none => R (.ok .next) s1
      | some v => wpAny (model prog w) A (letOwnedTupleGo target it v) (fun _ s1' => wpAny (model prog w) A (assign target env v) (fun _ s2 => wpAny (model prog w) A (isTrue cnd env (eval cnd env)) (fun b s2' => if b = true then wpAny (model prog w) A (eval elt env) (fun x s3 =>
          wpAny (model prog w) A (call (.builtin "list.append") [acc, x]) (fun _ s4 => ∃ m, m < n ∧ I m s4) (fun _ _ => False) s3)
          (fun _ _ => False) s2' else ∃ m, m < n ∧ I m s2') (fun _ _ => False) s2) (fun _ _ => False) s1') (fun _ _ => False) s1) (fun _ _ => False) s)
    (n : Nat) (h : I n s) :
    codeAny (model prog w) A (.compLoop (.ListComp elt [⟨target, iter, [cnd], 0⟩] scope pos) 0 it acc env) R s := by
  have up : ∀ {α : Type} {t : Sem α} {Q Q' : α → Shared → Prop} {E : Value → Shared → Prop} {s : Shared}, wpAny (model prog w) A t Q (fun _ _ => False) s → (∀ a s, Q a s → Q' a s) → wpAny (model prog w) A t Q' E s := fun h hq => wpAny_mono h hq fun _ _ f => f.elim
  refine codeAny_loop rfl I (fun n s hI => ?_) n h
  show wpAny _ _ ((compTurn (.ListComp elt [⟨target, iter, [cnd], 0⟩] scope pos) 0 it acc env).onRaise (fun x => do noteFrame x env; theTreesLotGoes x)) _ _ s
  refine wpAny_noted ?_
  rw [compTurn_list]
  refine wpAny_bind (wpAny_standAt (wpAny_bind (up (turn n s hI) (fun r s1 h1 => ?_))))
  cases r with
  | none => exact wpAny_pure h1
  | some v =>
    refine wpAny_bind (up h1 fun _ s1' h1' => ?_)
    refine wpAny_bind (up h1' fun _ s2 h2 => ?_)
    simp only [List.forIn_cons, List.forIn_nil, if_true]
    refine wpAny_bind (wpAny_bind (wpAny_bind (up h2 fun b s3 h3 => wpAny_pure (wpAny_pure ?_))))
    cases b with
    | true =>
      rw [if_pos rfl] at h3
      show wpAny _ _ (if true = true then _ else _) _ _ _
      rw [if_pos rfl]
      exact wpAny_bind (wpAny_bind (up h3 (fun x s4 h4 => wpAny_bind (up h4 (fun _ s5 h5 => wpAny_pure (wpAny_pure ⟨rfl, h5⟩))))))
    | false =>
      rw [if_neg (by decide)] at h3
      show wpAny _ _ (if false = true then _ else _) _ _ _
      rw [if_neg (by decide)]
      exact wpAny_pure ⟨rfl, h3⟩

noncomputable def tCompF (wi : TI) (g : TG) (tc : TT) (te : TE) (tgs : List Str) (ix : List Nat) : TE := fun σ H Q => wi σ H fun J H1 =>
  ∃ W : Nat → Nat → List V → St → Hp → Prop, (∃ m, W 0 m [] (stComp tgs ix σ) H1) ∧ ∀ i m xs σc H, W i m xs σc H → xs.length < sizeLine ∧
    ((J.stop i H ∧ ∀ p, H p = none → Q (.ref p) (upd H p (.lst xs))) ∨ (J.go i H ∧ ∀ x H', J.yld i H x H' → g x σc H' fun σ2 H2 => tc σ2 H2 fun b H3 => if b = true then te σ2 H3 fun y H4 => ∃ m', m' < m ∧ W (i + 1) m' (xs ++ [y]) σ2 H4 else ∃ m', m' < m ∧ W (i + 1) m' xs σ2 H3))
theorem pe_compF {elt iter tg cnd : Expr} {pos : Pos} {wi : TI} {g : TG} {te : TE} {tc : TT} (c : CompOk X N tgs frs ix scope cl) (hc : X.calm = true) (hi : PI X tg iter wi)
    (hg : ∀ fp C s H, PG (cxComp X N scope cl fp C s H) tg g) (he : ∀ fp C s H, PE (cxComp X N scope cl fp C s H) elt te)
    (hcd : ∀ fp C s H, PT (cxComp X N scope cl fp C s H) cnd tc)
    (hs : ∀ x, foldedSetIterable iter X.env x = pure x := by intro _; rfl) :
    PE X (.ListComp elt [⟨tg, iter, [cnd], 0⟩] scope pos) (tCompF wi g tc te tgs ix) := by
  intro pins s σ H Q I h
  rw [eval_ListComp]
  refine wpAny_comprehension_free (use := none) rfl hs c.clos c.kind c.names (thn (hi pins s σ H _ I h) fun xv s1 h1 => thn h1 fun itv s2 h2 => ?_)
  obtain ⟨it, fp, tn, J, H2, rfl, I2, T, st2, f2, W, ⟨m0, w0⟩, turn⟩ := h2
  have hfl : ∀ b ∈ fp, b < s2.heap.objs.size := fun b hb => by
    obtain ⟨o, e, _⟩ := T.obj _ _ st2 b hb
    exact Heap.lt_size e
  have hcn : ∀ x a, cl.lookup x = some a → X.env.cells.lookup x = some a := c.cls.get
  refine wpAny_newObj_type (wpAny_newFunctionEnv c.cell (by intro y hy; simp at hy) (fun h1 hns1 hsb1 => ?_) c.kind)
  dsimp only at hns1 hsb1 ⊢
  generalize hH2 : s2.heap.push { cls := .type "list", dict := none, data := .seq ([] : List Value).toArray } = G2 at hns1 hsb1 ⊢
  have hC : G2.objs.size = s2.heap.objs.size + 1 := by rw [← hH2, Heap.size_push]
  generalize hCC : G2.objs.size = C at *
  generalize hDD : s2.heap.objs.size = D at *
  have hDC : D ≠ C := by omega
  have hCle : D ≤ C := by omega
  have old : ∀ b o, s2.heap.get? b = some o → h1.get? b = some o := fun b o e => by
    have lt : b < s2.heap.objs.size := Heap.lt_size e
    exact hsb1.extBut b o (Nat.ne_of_lt (Nat.lt_of_lt_of_le (hDD ▸ lt) hCle)) (Heap.get?_push_of_some _ (hH2 ▸ Heap.get?_push_of_some _ e))
  have hacc : h1.get? D = some (lstObj [] 0) := hsb1.extBut _ _ hDC (Heap.get?_push_of_some _ (hH2 ▸ (hDD ▸ Heap.get?_push_size _ rfl)))
  have cellD : ∀ x a, X.env.cells.lookup x = some a → a < D := fun x a e => by
    obtain ⟨v, q⟩ := I2.cell x a e
    exact hDD ▸ q.lt
  have fpc : ∀ {H' : Hp} {us : List Value} {k : Nat}, (∀ b ∈ fp, H' b = none) → ∀ b ∈ fp, FpOk (cxComp X N scope cl fp C s2 H2) [(D, lstObj us k)] H' b := fun {H' us k} hn b hb => by
    have lb := hfl b hb
    refine ⟨hn b hb, ?_, fun z => ?_, .inl hb, fun x a e z => ?_, fun p hp => ?_⟩
    · exact Nat.ne_of_lt (Nat.lt_of_lt_of_le lb hCle)
    · rcases List.mem_cons.mp (I2.stkSub b z) with e | e
      · exact (f2 b hb).2.1 e
      · exact (f2 b hb).2.2.1 e
    · exact (f2 b hb).2.2.2.2.1 x a (hcn x a e) z
    · have : p = (D, lstObj us k) := by simpa [cxComp] using hp
      rw [this]; exact Nat.ne_of_gt lb
  have D_fs : D ∉ (cxComp X N scope cl fp C s2 H2).fs := fun z => by
    rcases List.mem_cons.mp (I2.stkSub D z) with e | e
    · exact absurd I2.lt (by rw [← e, hDD]; exact Nat.lt_irrefl _)
    · exact I2.nofs (Nat.le_of_eq hDD) e
  have I3 := inv_comp (tk := s2.toks + ([] : List (Str × Value)).length) (pins' := [(D, lstObj [] 0)]) c I2 f2 (fun b hb => hDD ▸ hfl b hb) (hDD ▸ hCle : s2.heap.objs.size ≤ C) hns1 old (fun p hp => by
    have e : p = (D, lstObj [] 0) := by simpa using hp
    subst e
    exact ⟨hacc, Nat.le_of_eq hDD, hDC, fun v z => by cases z⟩)
  have tn3 : tn 0 h1 := T.keep _ _ _ st2 fun b _ o e => old b o e
  have loop : codeAny (model X.prog X.w) X.A (.compLoop (.ListComp elt [⟨tg, iter, [cnd], 0⟩] scope pos) 0 (.ref it) (.ref D) (compEnvC scope cl C X.env))
      (compPost (model X.prog X.w) X.A X.xe none (EP X pins σ Q) (.ref D) C) { s2 with heap := h1, toks := s2.toks + ([] : List (Str × Value)).length } := by
    refine compLoop_genF (fun n s' => ∃ i xs us k σc H', Inv (cxComp X N scope cl fp C s2 H2) [(D, lstObj us k)] σc H' s' ∧ tn i s'.heap ∧ (∀ b ∈ fp, H' b = none) ∧ Vals xs us ∧ W i n xs σc H') ?_ m0
      ⟨0, [], [], 0, _, H2, I3, tn3, fun b hb => (f2 b hb).1, .nil, w0⟩
    rintro n s4 ⟨i, xs, us, k, σ4, H4, I4, tn4, fr4, rv, w4⟩
    obtain ⟨hsz, tt⟩ := turn i n xs σ4 H4 w4
    rcases tt with ⟨stop, fin⟩ | ⟨go, step⟩
    · refine thn (T.done (cxComp X N scope cl fp C s2 H2) rfl rfl rfl hc i _ s4 σ4 H4 _ I4 (fpc fr4) tn4 stop) fun r s5 ⟨hr, I5⟩ => ?_
      subst hr
      obtain ⟨m, ns, _⟩ := I5.loc
      refine ⟨m, ns, fun h' sb => ?_⟩
      have J1 : Inv X pins σ H4 s5 := I2.call' I5.os I5.base I5.hok I5.bare fun b hb => ⟨(f2 b hb).2.2.2.1, (f2 b hb).2.1, (f2 b hb).2.2.2.2.1, (f2 b hb).2.2.2.2.2⟩
      have big : ∀ a, D ≤ a → a ≠ X.env.locals ∧ (a ∈ X.ex ∨ X.s₀.heap.objs.size ≤ a) ∧ (∀ x y, X.env.cells.lookup x = some y → y ≠ a) ∧ ∀ p ∈ X.pn ++ pins, p.1 ≠ a := fun a ha => by
        obtain ⟨q0, q1, q2, q3, q4, q5⟩ := I2.fpOk (b := a) (H' := fun _ => none) (hDD ▸ ha) rfl
        exact ⟨q1, q3, q4, q5⟩
      obtain ⟨b1, b2, b3, b4⟩ := big C hCle
      have J2 : Inv X pins σ H4 { s5 with heap := h' } := J1.turned (t' := s5.toks) (fun b o hb e => sb.extBut b o hb e) I5.free b1 b2 b3 b4
      obtain ⟨p1, p2, p3, p4, p5⟩ := I5.pin (D, lstObj us k) (by simp)
      obtain ⟨d1, d2, d3, d4⟩ := big D (Nat.le_refl _)
      have J3 : Inv X pins σ (upd H4 D (.lst xs)) { s5 with heap := h' } := J2.adopt p2 d1 d2 d3 d4 ⟨Nat.le_of_lt hsz, us, k, rv, sb.extBut _ _ hDC p1⟩
      exact ⟨.ref D, _, J3, rfl, fin D p2⟩
    · refine thn (T.item (cxComp X N scope cl fp C s2 H2) rfl rfl rfl hc i _ s4 σ4 H4 _ I4 (fpc fr4) tn4 go) fun r s5 ⟨u, hr, h5⟩ => ?_
      subst hr
      refine thn h5 fun _ s6 ⟨x, H6, I6, r6, y6, tn6, fr6⟩ => ?_
      have I6' := I6.pinned (fpc fr6) (T.obj _ _ tn6)
      refine thn (hg fp C s2 H2 _ s6 σ4 H6 x u _ I6' r6 (step x H6 y6)) fun _ s7 ⟨σ7, H7, I7, q7⟩ => ?_
      refine thn (hcd fp C s2 H2 _ s7 σ7 H7 _ I7 q7) fun b s7' ⟨H7', I7', q7'⟩ => ?_
      cases b with
      | false =>
        rw [if_neg (by decide)] at q7' ⊢
        obtain ⟨m', hm, w8⟩ := q7'
        have tn8 : tn (i + 1) s7'.heap := T.keep _ _ _ tn6 fun b hb o e => (I7'.pin (b, o) (List.mem_append_right _ (List.mem_append_right _ (mem_pinsAt hb e)))).1
        have fr8 : ∀ b ∈ fp, H7' b = none := fun b hb => by
          obtain ⟨o, e, d⟩ := T.obj _ _ tn6 b hb
          exact (I7'.pin (b, o) (List.mem_append_right _ (List.mem_append_right _ (mem_pinsAt hb e)))).2.1
        exact ⟨m', hm, i + 1, xs, us, k, σ7, H7', I7'.unpinned, tn8, fr8, rv, w8⟩
      | true =>
        rw [if_pos rfl] at q7' ⊢
        refine thn (he fp C s2 H2 _ s7' σ7 H7' _ I7' q7') fun yv s8 ⟨y, H8, I8, r8, m', hm, w8⟩ => ?_
        obtain ⟨p1, p2, p3, p4, p5⟩ := I8.pin (D, lstObj us k) (by simp [cxComp])
        have hsz' : us.toArray.size ≤ sizeLine := by simp; rw [← rv.length]; exact Nat.le_of_lt hsz
        refine wpAny_list_append_plain (hsz := hsz') ⟨k, p1⟩ fun h' pl sb => ?_
        have tn8 : tn (i + 1) s8.heap := T.keep _ _ _ tn6 fun b hb o e => (I8.pin (b, o) (List.mem_append_right _ (List.mem_append_right _ (mem_pinsAt hb e)))).1
        have fr8 : ∀ b ∈ fp, H8 b = none := fun b hb => by
          obtain ⟨o, e, d⟩ := T.obj _ _ tn6 b hb
          exact (I8.pin (b, o) (List.mem_append_right _ (List.mem_append_right _ (mem_pinsAt hb e)))).2.1
        have I9 : Inv (cxComp X N scope cl fp C s2 H2) [] σ7 H8 s8 := I8.pins_of fun p hp => nomatch hp
        have I10 : Inv (cxComp X N scope cl fp C s2 H2) [] σ7 H8 { s8 with heap := h' } := I9.turned (t' := s8.toks) (it := D) (fun b o hb e => sb.extBut b o hb e) p2 p3 (.inr (Nat.le_of_eq hDD))
          (fun x a e => Nat.ne_of_lt (cellD x a (hcn x a e))) (fun p hp => by simp [cxComp] at hp)
        obtain ⟨k', pl⟩ := pl
        have eu : us.toArray.push yv = (us ++ [yv]).toArray := by simp
        rw [eu] at pl
        have I11 : Inv (cxComp X N scope cl fp C s2 H2) [(D, lstObj (us ++ [yv]) k')] σ7 H8 { s8 with heap := h' } := I10.pins_of fun p hp => by
          have e : p = (D, lstObj (us ++ [yv]) k') := by simpa using hp
          subst e
          exact ⟨pl, p2, p3, p4, fun v z => by cases z⟩
        exact ⟨m', hm, i + 1, xs ++ [y], us ++ [yv], k', σ7, H8, I11, T.keep _ _ _ tn8 fun b hb o e => sb.extBut b o (Nat.ne_of_lt (hfl b hb)) e, fr8, rv.append (.cons r8 .nil), w8⟩
  exact codeAny_compStart_list loop (T.self _ 0 _ _ _ tn3 loop)
theorem qe_compF {elt iter tg cnd : Expr} {pos : Pos} {wi : TI} {g : TG} {te : TE} {tc : TT} (c : CompOk X N tgs frs ix scope cl) (hc : X.calm = true) (hi : QI X tg iter wi)
    (hg : ∀ fp C s H, QG (cxComp X N scope cl fp C s H) tg g) (he : ∀ fp C s H, QE (cxComp X N scope cl fp C s H) elt te) (hcd : ∀ fp C s H, QT (cxComp X N scope cl fp C s H) cnd tc)
    (hs : ∀ x, foldedSetIterable iter X.env x = pure x := by intro _; rfl) :
    QE X (.ListComp elt [⟨tg, iter, [cnd], 0⟩] scope pos) (tCompF wi g tc te tgs ix) := ⟨pe_compF c hc hi.out (fun fp C s H => (hg fp C s H).out) (fun fp C s H => (he fp C s H).out) (fun fp C s H => (hcd fp C s H).out) hs⟩
end
end L2
namespace L2
open PySem PySem.Spec PyProof.Rows
section
variable {X : Cx} {e o b : Expr} {to tb te : TE} {t : TA} {pos apos cpos tpos : Pos}
theorem qe_reverse {K : PySem.W.Frag} (ho : QE X o to) (hbase : attributeBase o ("reverse" : Str) X.env (eval o X.env) = eval o X.env := by rfl) (hline : (apos.endLine == cpos.line) = true := by rfl) (hK : X.K = K := by rfl) :
    QE X (.Call (.Attribute o "reverse" apos) [] [] cpos) (tBM0 K "list" rReverse to) := by subst hK; exact ⟨pe_bm0 PySem.F.plainAttrs_list PySem.F.slot_list_reverse PySem.F.type_list_reverse mt_reverse ho.out hbase hline⟩
end
end L2

namespace L2
open PySem PySem.Spec PyProof.Rows
section
variable {X : Cx} {N tgs frs : List Str} {ix : List Nat} {scope : Scope} {cl : List (Str × Addr)} {xc : Str}
end
end L2

namespace L2
open PySem PySem.Spec PyProof.Rows
section
variable {X : Cx} {e o b : Expr} {to tb te : TE} {pos tpos : Pos}
noncomputable def rGetL (K : PySem.W.Frag) : V → V → Hp → VK → Prop := fun o i H Q => ∃ a xs k v, o = .ref a ∧ i = .int k ∧ SqL K H a xs ∧ 0 ≤ k ∧ xs[k.toNat]? = some v ∧ Q v H
theorem get_list : PGet X (rGetL X.K) := by
  intro pins s σ H o i ov iv Q I ro ri h
  obtain ⟨a, xs, k, v, rfl, rfl, hq, h0, hv, q⟩ := h
  cases ro
  obtain ⟨t, rfl⟩ := ri
  obtain ⟨its, r, pl, hz⟩ := I.list hq
  obtain ⟨w, ew, rw'⟩ := r.get hv
  have hl := get_lt hv
  have hn := line63
  exact wpAny_getItem_list pl.isList h0 (by omega) (by simpa using ew) ⟨v, H, I, rw', q⟩
theorem qs_augSL {K : PySem.W.Frag} (ho : QE X o to) (hi : QE X b tb) (he : QE X e te) (ha : ∀ ov iv new, augStore b ov iv new = (do holding [new, ov, iv] (setItem ov iv new); release [new, ov, iv] []; pure .next) := by intros; rfl) (hK : X.K = K := by rfl) :
    QS X (.AugAssign (.Subscript o b tpos) .Add e pos) (tAugS to tb te (rGetL K) (ipI fun i j => i + j) rSetL) := by subst hK; exact ⟨ps_augS ho.out hi.out get_list he.out ip_add set_list ha⟩
end
section
variable {K : PySem.W.Frag} {σ : St} {H : Hp} {Q : VK} {D : Ends}
theorem in_augS {to ti te : TE} {tget : V → V → Hp → VK → Prop} {tip : TIp} {tset : TSet} (h : to σ H fun o H1 => ti σ H1 fun i H2 => tget o i H2 fun x H3 => te σ H3 fun y H4 => tip x y H4 fun z H5 => tset o i z H5 fun H6 => D.nx σ H6) : tAugS to ti te tget tip tset D σ H := h
theorem in_bm0 {r : V → List V → Hp → VK → Prop} {to : TE} {T : String} (h : to σ H fun x H1 => tyV K T x H1 ∧ r x [] H1 Q) : tBM0 K T r to σ H Q := h
theorem in_compF {wi : TI} {g : TG} {tc : TT} {te : TE} {tgs : List Str} {ix : List Nat} (h : wi σ H fun J H1 =>
  ∃ W : Nat → Nat → List V → St → Hp → Prop, (∃ m, W 0 m [] (stComp tgs ix σ) H1) ∧ ∀ i m xs σc H, W i m xs σc H → xs.length < sizeLine ∧
    ((J.stop i H ∧ ∀ p, H p = none → Q (.ref p) (upd H p (.lst xs))) ∨ (J.go i H ∧ ∀ x H', J.yld i H x H' → g x σc H' fun σ2 H2 => tc σ2 H2 fun b H3 => if b = true then te σ2 H3 fun y H4 => ∃ m', m' < m ∧ W (i + 1) m' (xs ++ [y]) σ2 H4 else ∃ m', m' < m ∧ W (i + 1) m' xs σ2 H3))) : tCompF wi g tc te tgs ix σ H Q := h
theorem compF_lst {g : TG} {tc : TT} {te : TE} {σ0 : St} {R : List V → Hp → Prop} {a : Addr} {vs : List V} (Pv : Nat → List V → St → Hp → Prop) (hz : vs.length < sizeLine) (hl : ∀ i ys σ H, Pv i ys σ H → ys.length ≤ i) (ht : ∀ i ys σ H, Pv i ys σ H → SqL K H a vs) (h0 : Pv 0 [] σ0 H)
    (hs : ∀ i ys σ H x, vs[i]? = some x → Pv i ys σ H → g x σ H fun σ2 H2 => tc σ2 H2 fun b H3 => if b = true then te σ2 H3 fun y H4 => Nx vs.length i (Pv (i + 1) (ys ++ [y]) σ2 H4) else Nx vs.length i (Pv (i + 1) ys σ2 H3)) (hd : ∀ ys σ H, Pv vs.length ys σ H → R ys H) :
    ∃ W : Nat → Nat → List V → St → Hp → Prop, (∃ m, W 0 m [] σ0 H) ∧ ∀ i m xs σc H, W i m xs σc H → xs.length < sizeLine ∧
    (((Itl K a).stop i H ∧ R xs H) ∨ ((Itl K a).go i H ∧ ∀ x H', (Itl K a).yld i H x H' → g x σc H' fun σ2 H2 => tc σ2 H2 fun b H3 => if b = true then te σ2 H3 fun y H4 => ∃ m', m' < m ∧ W (i + 1) m' (xs ++ [y]) σ2 H4 else ∃ m', m' < m ∧ W (i + 1) m' xs σ2 H3)) := by
  refine ⟨fun i m xs σ H => m = vs.length - i ∧ i ≤ vs.length ∧ Pv i xs σ H, ⟨vs.length, by simp, Nat.zero_le _, h0⟩, ?_⟩
  rintro i m xs σ H ⟨rfl, hi, p⟩
  have q := ht i xs σ H p
  refine ⟨Nat.lt_of_le_of_lt (Nat.le_trans (hl i xs σ H p) hi) hz, ?_⟩
  by_cases hlt : i < vs.length
  · refine .inr ⟨⟨vs, vs[i], q, by simp [hlt]⟩, fun x H' y => ?_⟩
    obtain ⟨e, y⟩ := y
    subst e
    exact hs i xs σ _ x (y vs q) p
  · have e : i = vs.length := by omega
    subst e
    exact .inl ⟨⟨vs, q, Nat.le_refl _⟩, hd xs σ H p⟩
end
noncomputable def cnt (os : List Nat) (b : Nat) : List Nat := (List.range b).map fun f => os.count f
theorem cnt_len (os : List Nat) (b : Nat) : (cnt os b).length = b := by simp [cnt]
theorem cnt_get {os : List Nat} {b f : Nat} (h : f < b) : (cnt os b)[f]? = some (os.count f) := by
  unfold cnt
  rw [List.getElem?_map, List.getElem?_range h]; rfl
theorem cnt_snoc {os : List Nat} {b x : Nat} (h : x < b) : (cnt os b).set x (os.count x + 1) = cnt (os ++ [x]) b := by
  apply List.ext_getElem?
  intro i
  rw [List.getElem?_set]
  by_cases hi : i < b
  · rw [cnt_get hi, cnt_get hi, List.count_append, cnt_len]
    by_cases e : x = i
    · subst e; rw [if_pos rfl, if_pos h]; simp
    · rw [if_neg e]
      have : List.count i [x] = 0 := List.count_eq_zero.mpr (by simp; exact fun z => e z.symm)
      rw [this, Nat.add_zero]
  · rw [List.getElem?_eq_none (l := cnt os b) (by rw [cnt_len]; omega), List.getElem?_eq_none (l := cnt (os ++ [x]) b) (by rw [cnt_len]; omega)]
    split
    · split
      · rename_i h1 h2; rw [cnt_len] at h2; omega
      · rfl
    · rfl
theorem cut_takeN (os : List Nat) (w : Nat) (h : w ≤ os.length) : cutV (NV os) none (some (w : Int)) = NV (os.take w) := by
  unfold cutV
  rw [HT.sIx_nat, HT.sIx_none, NV_len, Nat.min_eq_left h, List.drop_zero, Nat.sub_zero]
  unfold NV
  rw [List.map_take]
theorem cut_dropN (os : List Nat) (w : Nat) (h : w ≤ os.length) : cutV (NV os) (some (w : Int)) none = NV (os.drop w) := by
  unfold cutV
  rw [HT.sIx_nat, HT.sIx_none, NV_len, Nat.min_eq_left h, List.take_of_length_le (by rw [List.length_drop, NV_len]; exact Nat.le_refl _)]
  unfold NV
  rw [List.map_drop]
end L2

namespace L2
open PySem PySem.Spec PyProof.Rows
theorem sizeD (m : Nat) : Builtin.Range.rangeSize ((m : Int) - 1) (-1) (-1) = m := by
  unfold Builtin.Range.rangeSize
  rw [if_neg (by decide)]
  split
  · rw [show (-(-1) : Int) = 1 by decide, Int.ediv_one]; omega
  · omega
theorem smallD {m : Nat} (h : m ≤ 1000) : Builtin.Range.small ((m : Int) - 1) (-1) (-1) = true := by
  unfold Builtin.Range.small
  rw [sizeD]
  simp only [Builtin.Range.rangeFitsLong, Bool.and_eq_true, Bool.or_eq_true, decide_eq_true_eq, beq_iff_eq, show ¬ ((-1 : Int) > 0) by decide, if_false]
  refine ⟨?_, ?_⟩ <;> first | omega | (refine ⟨?_, ?_⟩ <;> first | omega | (split <;> omega)) | (split <;> omega) | trace_state
noncomputable def Itd (m : Nat) : It := ⟨fun i _ => i < m, fun i H x H' => H' = H ∧ x = .int ((m - 1 - i : Nat) : Int), fun i _ => m ≤ i⟩
theorem turn_rangeD {P : Program} {w : World} {K : PySem.W.Frag} {tg : Expr} (it : Addr) (m : Nat) : Turn P w K tg (Itd m) [it] it (fun i h => IsRangeIter h it (((m : Int) - 1) + (i : Nat) * (-1)) ((m : Int) - (i : Nat)) (-1)) where
  mem := by simp
  obj := fun i h st b hb => by
    have e : b = it := by simpa using hb
    subst e
    exact ⟨_, st, fun v z => by
      have z' : Data.fields _ = Data.cell v := z
      cases z'⟩
  keep := fun i h h' st k => k it (by simp) _ st
  item := by
    intro X hP hw hK hc i pins s σ H E I hf st hg
    subst hP hw hK
    obtain ⟨f0, f1, f2, f3, f4, f5⟩ := hf it (by simp)
    have hi : i < m := hg
    have W := Walks.range (prog := X.prog) (w := X.w) (I.ok.hd hc) it ((m : Int) - 1) (-1) m
    refine W.item i s _ _ hg st fun v h' tk hv st' kk => ?_
    obtain ⟨t, rfl⟩ := hv
    have I1 : Inv X pins σ H { s with heap := h', toks := tk } := I.turned (fun b o hb e => kk b o (by simpa using hb) e) f0 f1 f3 f4 f5
    refine ⟨_, rfl, go_of (s := { s with heap := h', toks := tk }) (n := "range_iterator") st' rfl rfl (by decide) ⟨.int ((m - 1 - i : Nat) : Int), H, I1, ⟨t, ?_⟩, ⟨rfl, rfl⟩, st', fun b hb => (hf b hb).1⟩⟩
    congr 1
    omega
  done := by
    intro X hP hw hK hc i pins s σ H E I hf st hg
    subst hP hw hK
    obtain ⟨f0, f1, f2, f3, f4, f5⟩ := hf it (by simp)
    exact wpAny_pyNext_range_end (I.ok.hd hc) st (by have : m ≤ i := hg; omega) fun h' eb => ⟨rfl, I.turned (t' := s.toks) (fun b o hb e => eb b o hb e) f0 f1 f3 f4 f5⟩
  self := fun _ _ _ _ _ st h => wpAny_pyIter_rangeiter st h
section
variable {X : Cx} {tg a b c : Expr} {t : TA} {p pos : Pos}
noncomputable def iRngD (t : TA) : TI := fun σ H R => t σ H fun vs H1 => ∃ m : Nat, vs = [.int ((m : Int) - 1), .int (-1), .int (-1)] ∧ m ≤ 1000 ∧ R (Itd m) H1
theorem qi_rangeD (hg : Gl X "range") (hm : X.mg "range" = none) (ha : QA X [a, b, c] t) (hn : nstar a = true := by rfl) (hn2 : nstar b = true := by rfl) (hn3 : nstar c = true := by rfl) : QI X tg (.Call (.Name "range" p) [a, b, c] [] pos) (iRngD t) := by
  refine ⟨fun pins s σ H R I h => ?_⟩
  have e3 : starEach [c] X.env = [(false, eval c X.env)] := star_cons hn3
  have e2 : starEach [b, c] X.env = [(false, eval b X.env), (false, eval c X.env)] := by rw [star_cons hn2, e3]
  refine Call_ (ld_blt I hg hm boot_range (PyProof.Rows.callWith_type1 (thn (ha.out pos pins s σ H _ I h) fun us s1 ⟨vs, H1, I1, r1, q1⟩ => ?_) (star_cons hn) (by rw [e2]; rfl)))
  obtain ⟨m, e, hm1, q⟩ := q1
  subst e
  cases r1 with
  | cons r rr =>
    cases rr with
    | cons r' rr =>
      cases rr with
      | cons r'' rr =>
        cases rr
        obtain ⟨t1, rfl⟩ := r
        obtain ⟨t2, rfl⟩ := r'
        obtain ⟨t3, rfl⟩ := r''
        refine call_range_3 (by decide) ?_ (.inl (PyProof.noPylong_of_log2 (by decide +kernel)))
        refine wpAny_pyIter_range (IsRange.new ..) (smallD hm1) ?_
        have I2 : Inv X pins σ H1 { s1 with heap := s1.heap.push { cls := .type "range", data := .fields #[.int ((m : Int) - 1) t1, .int (-1) t2, .int (-1) t3] }, toks := s1.toks } := I1.kept fun b o e => Heap.get?_push_of_some _ e
        refine ⟨_, [(s1.heap.push { cls := .type "range", data := .fields #[.int ((m : Int) - 1) t1, .int (-1) t2, .int (-1) t3] }).objs.size], _, _, H1, rfl, I2.kept (t' := s1.toks) fun b o e => Heap.get?_push_of_some _ e, turn_rangeD _ m, ?_, fun b hb => ?_, q⟩
        · show IsRangeIter _ _ (((m : Int) - 1) + ((0 : Nat) : Int) * (-1)) ((m : Int) - ((0 : Nat) : Int)) (-1)
          have g1 : ((m : Int) - 1) + ((0 : Nat) : Int) * (-1) = (m : Int) - 1 := by simp
          have g2 : (m : Int) - ((0 : Nat) : Int) = Builtin.Range.rangeSize ((m : Int) - 1) (-1) (-1) := by rw [sizeD]; simp
          rw [g1, g2]
          exact Heap.get?_push_size _ rfl
        · have e : b = (s1.heap.push { cls := .type "range", data := .fields #[.int ((m : Int) - 1) t1, .int (-1) t2, .int (-1) t3] }).objs.size := by simpa using hb
          subst e
          exact I2.fpOk (Nat.le_refl _) (I2.hok.fresh (Nat.le_refl _))
end
theorem in_rngD {σ : St} {H : Hp} {t : TA} {R : It → Hp → Prop} (h : t σ H fun vs H1 => ∃ m : Nat, vs = [.int ((m : Int) - 1), .int (-1), .int (-1)] ∧ m ≤ 1000 ∧ R (Itd m) H1) : iRngD t σ H R := h
end L2

namespace L2
open PySem PySem.Spec PyProof.Rows
section
variable {prog : Program} {w : World} {A : Around} {E : Value → Shared → Prop} {s : Shared}
end
noncomputable def ItzT (K : PySem.W.Frag) (a b : Addr) : It :=
  ⟨fun i H => ∃ xs ys x y, SqT K H a xs ∧ SqT K H b ys ∧ xs[i]? = some x ∧ ys[i]? = some y, fun i H v H' => ∃ p x y, v = .ref p ∧ H p = none ∧ H' = upd H p (.tup [x, y]) ∧ (∀ xs, SqT K H a xs → xs[i]? = some x) ∧ ∀ ys, SqT K H b ys → ys[i]? = some y, fun i H => ∃ xs, SqT K H a xs ∧ xs.length ≤ i⟩
section
variable {X : Cx} {a b : Expr} {t : TA} {p pos tpos : Pos} {ts : List Expr} {k : Nat}
noncomputable def iZipT (K : PySem.W.Frag) (t : TA) : TI := fun σ H R => t σ H fun vs H1 => ∃ a b, vs = [.ref a, .ref b] ∧ (∃ xs, SqT K H1 a xs) ∧ (∃ ys, SqT K H1 b ys) ∧ R (ItzT K a b) H1
end
theorem in_zipT {K : PySem.W.Frag} {σ : St} {H : Hp} {t : TA} {R : It → Hp → Prop} (h : t σ H fun vs H1 => ∃ a b, vs = [.ref a, .ref b] ∧ (∃ xs, SqT K H1 a xs) ∧ (∃ ys, SqT K H1 b ys) ∧ R (ItzT K a b) H1) : iZipT K t σ H R := h
end L2

namespace L2
open PySem PySem.Spec PyProof.Rows
section
variable {X : Cx} {N tgs frs : List Str} {ix : List Nat} {scope : Scope} {cl : List (Str × Addr)}
end
section
variable {X : Cx} {N tgs frs : List Str} {ix : List Nat} {scope : Scope} {cl : List (Str × Addr)} {xc : Str}
end
section
variable {X : Cx} {e o : Expr} {to te : TE} {t : TA} {pos apos cpos : Pos}
end
section
variable {K : PySem.W.Frag} {σ : St} {H : Hp} {Q : VK} {g : TG} {tc : TT} {te : TE}
end
section
variable {X : Cx}
end
noncomputable def lessN (os : List Nat) (f : Nat) : Nat := os.countP fun x => decide (x < f)
noncomputable def begs (cs : List Nat) : List Nat := (List.range cs.length).map fun f => (cs.take f).sum
theorem lessN_succ (os : List Nat) (f : Nat) : lessN os (f + 1) = lessN os f + os.count f := by
  unfold lessN
  induction os with
  | nil => rfl
  | cons x xs ih =>
    rw [List.countP_cons, List.countP_cons, List.count_cons, ih]
    by_cases h : x < f
    · have h1 : x ≠ f := by omega
      have h2 : x < f + 1 := by omega
      simp [h, h1, h2]; omega
    · by_cases h1 : x = f
      · subst h1; simp; omega
      · have h2 : ¬ x < f + 1 := by omega
        simp [h, h1, h2]
theorem lessN_mono {os : List Nat} {f g : Nat} (h : f ≤ g) : lessN os f ≤ lessN os g := by
  induction g with
  | zero => have : f = 0 := by omega
            subst this; exact Nat.le_refl _
  | succ g ih =>
    by_cases e : f = g + 1
    · subst e; exact Nat.le_refl _
    · have := ih (by omega)
      rw [lessN_succ]; omega
theorem lessN_le (os : List Nat) (f : Nat) : lessN os f ≤ os.length := List.countP_le_length
theorem cnt_take_sum (os : List Nat) (b f : Nat) (h : f ≤ b) : ((cnt os b).take f).sum = lessN os f := by
  induction f with
  | zero => simp [lessN]
  | succ f ih =>
    rw [List.take_add_one, cnt_get (by omega), List.sum_append, ih (by omega), lessN_succ]
    simp
theorem begs_len (cs : List Nat) : (begs cs).length = cs.length := by simp [begs]
theorem begs_get {cs : List Nat} {f : Nat} (h : f < cs.length) : (begs cs)[f]? = some (cs.take f).sum := by
  unfold begs
  rw [List.getElem?_map, List.getElem?_range h]; rfl
theorem begs_take {cs : List Nat} {f : Nat} (h : f < cs.length) : (begs cs).take (f + 1) = (begs cs).take f ++ [(cs.take f).sum] := by
  rw [List.take_add_one, begs_get h]; rfl
end L2

namespace HT
open PySem PyProof.Rows
section
open PySem.SeqAt
open PySem.AutoSeq1 (wpAny_loadPart')
open PySem.MeetsSeq PySem.MeetsSeq2 PySem.MeetsSeq3

end

section
variable {prog : Program} {w : World} {A : Around} {E : Value → Shared → Prop} {s : Shared}

end
end HT
namespace L2
open PySem PySem.Spec PyProof.Rows
section
variable {X : Cx} {e e2 o : Expr} {to te : TE} {t : TA} {pos apos cpos : Pos}
end
theorem all_of {P : PyData → Bool} {PA : List PyData → Bool} (h0 : PA [] = true) (h1 : ∀ x xs, PA (x :: xs) = (P x && PA xs)) : ∀ {ds : List PyData}, (∀ d ∈ ds, P d = true) → PA ds = true
  | [], _ => h0
  | d :: ds, h => by rw [h1, h d (List.mem_cons_self ..), all_of h0 h1 fun x hx => h x (List.mem_cons_of_mem _ hx)]; rfl
theorem depthAll_le {n : Nat} : ∀ {ds : List PyData}, (∀ d ∈ ds, d.depth ≤ n) → PyData.depthAll ds ≤ n
  | [], _ => Nat.zero_le _
  | d :: ds, h => by
    show max d.depth (PyData.depthAll ds) ≤ n
    have h1 := h d (List.mem_cons_self ..)
    have h2 := depthAll_le (ds := ds) fun x hx => h x (List.mem_cons_of_mem _ hx)
    omega
theorem hasDictAll_no : ∀ {ds : List PyData}, (∀ d ∈ ds, d.hasDict = false) → PyData.hasDictAll ds = false
  | [], _ => rfl
  | d :: ds, h => by
    show (d.hasDict || PyData.hasDictAll ds) = false
    rw [h d (List.mem_cons_self ..), hasDictAll_no fun x hx => h x (List.mem_cons_of_mem _ hx)]; rfl
section
variable {X : Cx} {pins : List (Addr × Obj)} {σ : St} {H : Hp} {s : Shared}
theorem readsAll_of {R : V → PyData → Prop} {h : Heap} (hR : ∀ x v d, R x d → RelV x v → ∃ as, Reads h v d as) : ∀ {xs : List V} {its : List Value} {ds : List PyData}, Vals xs its → xs.length = ds.length → (∀ (i : Nat) u e, xs[i]? = some u → ds[i]? = some e → R u e) → ∃ as, ReadsAll h its ds as
  | _, _, [], .nil, _, _ => ⟨[], .nil⟩
  | _, _, d :: ds, .cons r rr, hl, hi => by
    obtain ⟨as, h1⟩ := hR _ _ d (hi 0 _ d rfl rfl) r
    obtain ⟨bs, h2⟩ := readsAll_of hR rr (by simpa using hl) fun i u e e1 e2 => hi (i + 1) u e e1 e2
    exact ⟨as ++ bs, .cons h1 h2⟩
  | _, _, _ :: _, .nil, hl, _ => by simp at hl
  | _, _, [], .cons _ _, hl, _ => by simp at hl
end
section
variable {K : PySem.W.Frag} {σ : St} {H : Hp} {Q : VK}
end
end L2

namespace L2
open PySem PySem.Spec PyProof.Rows
noncomputable def castL (a : List Nat) : List Int := a.map fun x : Nat => (x : Int)
noncomputable def lxt (a b : List Nat) : Bool := HT.lexLt (castL a) (castL b)
end L2

namespace L2
open PySem PySem.Spec PyProof.Rows
section
variable {X : Cx} {o a b e : Expr} {to ta tb te : TE} {pos p2 tpos : Pos}
noncomputable def gSlA (to ta tb : TE) : TG := fun v σ H R => to σ H fun x H1 => ta σ H1 fun y H2 => tb σ H2 fun z H3 => ∃ (l c : Addr) (xs ys : List V) (i j : Int), x = .ref l ∧ v = .ref c ∧ y = .int i ∧ z = .int j ∧ H3 l = some (.lst xs) ∧ H3 c = some (.lst ys) ∧ l ≠ c ∧ 0 ≤ i ∧ i ≤ j ∧ j ≤ xs.length ∧ xs.length + ys.length ≤ sizeLine ∧ R σ (upd H3 l (.lst (xs.take i.toNat ++ ys ++ xs.drop j.toNat)))
end
section
variable {K : PySem.W.Frag} {σ : St} {H : Hp} {Q : VK} {D : Ends}
theorem in_gslA {to ta tb : TE} {v : V} {R : St → Hp → Prop} (h : to σ H fun x H1 => ta σ H1 fun y H2 => tb σ H2 fun z H3 => ∃ (l c : Addr) (xs ys : List V) (i j : Int), x = .ref l ∧ v = .ref c ∧ y = .int i ∧ z = .int j ∧ H3 l = some (.lst xs) ∧ H3 c = some (.lst ys) ∧ l ≠ c ∧ 0 ≤ i ∧ i ≤ j ∧ j ≤ xs.length ∧ xs.length + ys.length ≤ sizeLine ∧ R σ (upd H3 l (.lst (xs.take i.toNat ++ ys ++ xs.drop j.toNat)))) : gSlA to ta tb v σ H R := h
theorem in_cont (h : D.ct σ H) : tCont D σ H := h
end
noncomputable abbrev Str3 := Nat × Nat × Nat
end L2

namespace L2
open PySem PySem.Spec PyProof.Rows
noncomputable def Sc (v : V) : Prop := v = .non ∨ (∃ b, v = .bl b) ∨ (∃ i, v = .int i) ∨ ∃ x, v = .str x
noncomputable def Th (H : Hp) (v : V) : Prop := Sc v ∨ ∃ t xs, v = .ref t ∧ H t = some (.tup xs) ∧ 0 < xs.length ∧ xs.length ≤ 2 ∧ ∀ x ∈ xs, Sc x
noncomputable def ThE (H : Hp) (x y : V) : Prop := (Sc x ∧ y = x) ∨ ∃ t u xs, x = .ref t ∧ y = .ref u ∧ H t = some (.tup xs) ∧ H u = some (.tup xs) ∧ 0 < xs.length ∧ xs.length ≤ 2 ∧ ∀ z ∈ xs, Sc z
section
variable {X : Cx} {e e2 o : Expr} {to te : TE} {t : TA} {pos apos cpos : Pos}
inductive TyC (H : Hp) : V → Value → Prop where
  | non : TyC H .non (.type "NoneType")
  | bl (b : Bool) : TyC H (.bl b) (.type "bool")
  | int (i : Int) : TyC H (.int i) (.type "int")
  | str (x : Str) : TyC H (.str x) (.type "str")
  | lst {a : Addr} {xs : List V} (e : H a = some (.lst xs)) : TyC H (.ref a) (.type "list")
  | tup {a : Addr} {xs : List V} (e : H a = some (.tup xs)) : TyC H (.ref a) (.type "tuple")
noncomputable def rIsiC (K : PySem.W.Frag) : RC := fun xs H Q => ∃ x t tp b, xs = [x, .ref tp] ∧ H tp = some (.tup [.ty "list", .ty "tuple"]) ∧ TyC H x t ∧ PySem.W.kitAny K t [.type "list", .type "tuple"] = some b ∧ Q (.bl b) H
theorem qc_isiC {K : PySem.W.Frag} (hK : X.K = K := by rfl) : QC X (.builtin "isinstance") (rIsiC K) := by
  subst hK
  refine ⟨fun pins s σ H xs us Q I r h => ?_⟩
  obtain ⟨x, t, tp, b, rfl, htp, ty, e, q⟩ := h
  cases r with
  | cons rx rr =>
    cases rr with
    | cons ry rr =>
      cases rr
      cases ry
      obtain ⟨_, its, rv, ⟨⟨c, dd, dt, sl⟩, g1, g2, n, g3⟩⟩ := (show ObjOk X.prog X.w H s.heap tp (.tup [.ty "list", .ty "tuple"]) from I.hok tp _ htp)
      have g2' : c = .type "tuple" := g2
      have g3' : dt = .seq its.toArray n := g3
      subst g2' g3'
      have ei : its = [.type "list", .type "tuple"] := by
        cases rv with
        | cons r1 rr =>
          cases rr with
          | cons r2 rr =>
            cases rr
            cases r1; cases r2; rfl
      subst ei
      have fin : ∀ tk, EP X pins σ Q (.bool b) { s with toks := tk } := fun tk => ⟨.bl b, H, I.tok _, rfl, q⟩
      cases ty with
      | non => cases (show _ = Value.none from rx); exact PySem.W.kia_tup PySem.W.kitx_none I.kIn True.intro g1 e (fun z => nomatch z) fin
      | bl i => cases (show _ = Value.bool i from rx); exact PySem.W.kia_tup PySem.W.kitx_bool I.kIn True.intro g1 e (fun z => nomatch z) fin
      | int i => obtain ⟨tt, rfl⟩ := rx; exact PySem.W.kia_tup PySem.W.kitx_int I.kIn True.intro g1 e (fun z => nomatch z) fin
      | str i => obtain ⟨tt, rfl⟩ := rx; exact PySem.W.kia_tup PySem.W.kitx_str I.kIn True.intro g1 e (fun z => nomatch z) fin
      | @lst a xs ea =>
        cases rx
        obtain ⟨_, _, n', _, h1⟩ := (show ObjOk X.prog X.w H s.heap a (.lst xs) from I.hok a _ ea)
        exact PySem.W.kia_tup PySem.W.kitx_list I.kIn ⟨_, h1, rfl⟩ g1 e (fun z => nomatch z) fin
      | @tup a xs ea =>
        cases rx
        obtain ⟨_, _, _, ⟨o', h1, h2, _⟩⟩ := (show ObjOk X.prog X.w H s.heap a (.tup xs) from I.hok a _ ea)
        exact PySem.W.kia_tup PySem.W.kitx_tuple I.kIn ⟨_, h1, h2⟩ g1 e (fun z => nomatch z) fin
theorem list_extend_tup (l : Addr) (items : Array Value) (n : Nat) (b : Addr) (items2 : Array Value) (n2 : Nat) (dd2 : Option Addr) (sl2 : Array (Option Value)) (hlong : ¬ (!items.isEmpty && Builtin.List.listTooLong (items.size + items2.size)) = true) (hz : items.size ≤ sizeLine) (hz2 : items.size + items2.size ≤ sizeLine + 1) :
    Meets (Builtin.«list.extend» ⟨[.ref l, .ref b], []⟩)
      (fun _ R s => s.heap.get? l = some { cls := .type "list", data := .seq items n } ∧ s.heap.get? b = some { cls := .type "tuple", dict := dd2, data := .seq items2 n2, slots := sl2 } ∧
        R (.ok (.ret .none)) { s with heap := s.heap.update l (Obj.mapSeq fun x => x ++ items2) }) :=
  .of_wp fun prog w A R s h => by
    obtain ⟨hp, g, d, tk, os⟩ := s; obtain ⟨hl, hb, h⟩ := h
    have f2 := AutoSeq1.sub_tuple_tuple
    wp_walk using PySem.AutoSeq1.wpAny_loadPart' hl, PySem.AutoSeq1.wpAny_loadPart' hb
    have e9 : (Obj.mapSeq (fun x => x ++ items2) { cls := Value.type "list", data := Data.seq items n }).data.pastItsLine = none := by
      unfold Obj.mapSeq Data.pastItsLine
      simp
      omega
    rw [e9]
    exact wpAny_pure (wpAny_pure ⟨_, rfl, h⟩)
noncomputable def rExtendT : V → List V → Hp → VK → Prop := fun x vs H Q => ∃ l b xs zs, x = .ref l ∧ vs = [.ref b] ∧ H l = some (.lst xs) ∧ H b = some (.tup zs) ∧ xs.length + zs.length ≤ sizeLine ∧ Q .non (upd H l (.lst (xs ++ zs)))
theorem mt_extendT : MtM X "list.extend" rExtendT := by
  intro pins s σ H x vs v us Q I rx rv h
  obtain ⟨l, b, xs, zs, rfl, rfl, hH, hB, hz, q⟩ := h
  cases rx
  obtain ⟨u, rfl, ru⟩ := rv.one
  cases ru
  obtain ⟨z, its, n, r, hl, e⟩ := I.lstM hH
  obtain ⟨its2, r2, ⟨⟨c2, d2, t2, l2⟩, o4, o5, n2, o6⟩, hz2⟩ := I.tuple (SqT.of hB)
  have hl2 := r2.length
  have o5' : c2 = .type "tuple" := o5
  have o6' : t2 = .seq its2.toArray n2 := o6
  subst o5' o6'
  have hsz : its.toArray.size + its2.toArray.size ≤ sizeLine := by rw [List.size_toArray, List.size_toArray]; omega
  have hlong : ¬ (!its.toArray.isEmpty && Builtin.List.listTooLong (its.toArray.size + its2.toArray.size)) = true := by
    rw [notLongL hsz, Bool.and_false]
    exact Bool.false_ne_true
  refine call_meets F.slot_list_extend ⟨_, e, rfl⟩ F.entry_list_extend (F.args_list_extend_2 _ _)
    (list_extend_tup l its.toArray n b its2.toArray n2 d2 l2 hlong (by rw [List.size_toArray]; omega) (by omega)) ⟨e, o4, ?_⟩
  refine ⟨.non, _, I.lset (its' := its ++ its2) hH e (by simp) (r.append r2) ?_, rfl, q⟩
  rw [List.length_append]
  omega
theorem qe_extendT {K : PySem.W.Frag} (ho : QE X o to) (ha : QA X [e] t) (hbase : attributeBase o ("extend" : Str) X.env (eval o X.env) = eval o X.env := by rfl) (hline : (apos.endLine == cpos.line) = true := by rfl) (hn : nstar e = true := by rfl) (hK : X.K = K := by rfl) :
    QE X (.Call (.Attribute o "extend" apos) [e] [] cpos) (tBM K "list" rExtendT to t) := by subst hK; exact ⟨pe_bmN PySem.F.plainAttrs_list PySem.F.slot_list_extend PySem.F.type_list_extend mt_extendT ho.out ha.out hbase hline hn⟩
end
section
variable {K : PySem.W.Frag} {σ : St} {H : Hp} {Q : VK}
theorem in_isiC0 {x : V} {tp : Addr} (e : H tp = some (.tup [.ty "list", .ty "tuple"])) (hx : Sc x) (h : Q (.bl false) H) : rIsiC K [x, .ref tp] H Q := by
  rcases hx with rfl | ⟨b, rfl⟩ | ⟨i, rfl⟩ | ⟨s, rfl⟩
  · exact ⟨_, _, tp, _, rfl, e, .non, rfl, h⟩
  · exact ⟨_, _, tp, _, rfl, e, .bl b, rfl, h⟩
  · exact ⟨_, _, tp, _, rfl, e, .int i, rfl, h⟩
  · exact ⟨_, _, tp, _, rfl, e, .str s, rfl, h⟩
theorem in_isiCT {p tp : Addr} {xs : List V} (s : H p = some (.tup xs)) (e : H tp = some (.tup [.ty "list", .ty "tuple"])) (h : Q (.bl true) H) : rIsiC K [.ref p, .ref tp] H Q := ⟨_, _, tp, _, rfl, e, .tup s, rfl, h⟩
theorem in_isi0L {x : V} (hx : Sc x) (h : Q (.bl false) H) : rIsi K [x, .ty "list"] H Q := by
  rcases hx with rfl | ⟨b, rfl⟩ | ⟨i, rfl⟩ | ⟨s, rfl⟩
  · exact ⟨_, _, _, _, rfl, .non, rfl, h⟩
  · exact ⟨_, _, _, _, rfl, .bl b, rfl, h⟩
  · exact ⟨_, _, _, _, rfl, .int i, rfl, h⟩
  · exact ⟨_, _, _, _, rfl, .str s, rfl, h⟩
theorem in_isi0T {x : V} (hx : Sc x) (h : Q (.bl false) H) : rIsi K [x, .ty "tuple"] H Q := by
  rcases hx with rfl | ⟨b, rfl⟩ | ⟨i, rfl⟩ | ⟨s, rfl⟩
  · exact ⟨_, _, _, _, rfl, .non, rfl, h⟩
  · exact ⟨_, _, _, _, rfl, .bl b, rfl, h⟩
  · exact ⟨_, _, _, _, rfl, .int i, rfl, h⟩
  · exact ⟨_, _, _, _, rfl, .str s, rfl, h⟩
theorem in_isiBB {b : Bool} (h : Q (.bl true) H) : rIsi K [.bl b, .ty "bool"] H Q := ⟨_, _, _, _, rfl, .bl b, rfl, h⟩
theorem in_isiSB {x : Str} (h : Q (.bl false) H) : rIsi K [.str x, .ty "bool"] H Q := ⟨_, _, _, _, rfl, .str x, rfl, h⟩
theorem in_isiSS {x : Str} (h : Q (.bl true) H) : rIsi K [.str x, .ty "str"] H Q := ⟨_, _, _, _, rfl, .str x, rfl, h⟩
theorem in_eqB {x y : Bool} (h : Q (.bl (decide (V.bl x = V.bl y))) H) : rEq (.bl x) (.bl y) H Q := ⟨rfl, h⟩
theorem in_extendT {l c : Addr} {xs ys : List V} (h1 : H l = some (.lst xs)) (h2 : H c = some (.tup ys)) (hz : xs.length + ys.length ≤ sizeLine) (h : Q .non (upd H l (.lst (xs ++ ys)))) : rExtendT (.ref l) [.ref c] H Q := ⟨l, c, xs, ys, rfl, rfl, h1, h2, hz, h⟩
end
end L2

namespace L2
open PySem PySem.Spec PyProof.Rows
noncomputable def It2 (n : Nat) : It := ⟨fun i _ => i < (n + 1) / 2, fun i H x H' => H' = H ∧ x = .int ((2 * i : Nat) : Int), fun i _ => (n + 1) / 2 ≤ i⟩
section
variable {X : Cx} {tg a b c : Expr} {t : TA} {p pos : Pos}
noncomputable def iRngS (t : TA) : TI := fun σ H R => t σ H fun vs H1 => ∃ n : Nat, vs = [.int 0, .int (n : Nat), .int 2] ∧ n ≤ 1000 ∧ R (It2 n) H1
end
theorem in_rngS {σ : St} {H : Hp} {t : TA} {R : It → Hp → Prop} (h : t σ H fun vs H1 => ∃ n : Nat, vs = [.int 0, .int (n : Nat), .int 2] ∧ n ≤ 1000 ∧ R (It2 n) H1) : iRngS t σ H R := h
section
variable {X : Cx} {e o b : Expr} {to tb te : TE} {pos tpos : Pos}
end
end L2
namespace HT
open PySem PyProof.Rows L2
section
variable {prog : Program} {w : World} {A : Around} {E : Value → Shared → Prop} {s : Shared}
end
end HT
namespace L2
open PySem PySem.Spec PyProof.Rows
section
variable {X : Cx} {tg a b : Expr} {t : TA} {p pos : Pos}
noncomputable def rSlTA : V → Option Int → Option Int → Hp → VK → Prop := fun x lo hi H Q => ∃ a xs, x = .ref a ∧ H a = some (.tup xs) ∧ ∀ p H', Same H H' → H' p = some (.tup (cutV xs lo hi)) → Q (.ref p) H'
end
section
variable {K : PySem.W.Frag} {σ : St} {H : Hp} {Q : VK}
theorem in_rng2 {t : TA} {R : It → Hp → Prop} (h : t σ H fun vs H1 => ∃ i j : Int, vs = [.int i, .int j] ∧ (-(2 ^ 62) ≤ i ∧ i < 2 ^ 62 ∧ -(2 ^ 62) ≤ j ∧ j < 2 ^ 62) ∧ R (Itr i (j - i).toNat) H1) : iRng2 t σ H R := h
end
end L2

namespace L2
open PySem PySem.Spec PyProof.Rows
noncomputable def brk (rss : List (List Nat)) (k : Nat) : Bool := lxt (rss.getD k []) (rss.getD (k - 1) [])
end L2

namespace L2
open PySem PySem.Spec PyProof.Rows PySem.W
noncomputable def Sat (N : Nat) (lt : Nat → Nat → Bool) {α : Type} : KasT α → (α → Prop) → Prop
  | .ret a, R => R a
  | .ask i j k, R => i < N ∧ j < N ∧ Sat N lt (k (lt i j)) R
theorem Sat.mono {N : Nat} {lt : Nat → Nat → Bool} {α : Type} {R R' : α → Prop} (hR : ∀ a, R a → R' a) : ∀ (t : KasT α), Sat N lt t R → Sat N lt t R'
  | .ret _, h => hR _ h
  | .ask i j k, h => ⟨h.1, h.2.1, Sat.mono hR (k (lt i j)) h.2.2⟩
theorem Sat.bind {N : Nat} {lt : Nat → Nat → Bool} {α β : Type} {R : α → Prop} {R' : β → Prop} {f : α → KasT β} (hf : ∀ a, R a → Sat N lt (f a) R') : ∀ (t : KasT α), Sat N lt t R → Sat N lt (t.bind f) R'
  | .ret a, h => hf a h
  | .ask i j k, h => ⟨h.1, h.2.1, Sat.bind hf (k (lt i j)) h.2.2⟩
structure Lt (lt : Nat → Nat → Bool) : Prop where
  asym : ∀ i j, lt i j = true → lt j i = false
  tr : ∀ i j k, lt i j = false → lt j k = false → lt i k = false
noncomputable def Ah (lt : Nat → Nat → Bool) (i j : Nat) : Prop := lt j i = false ∧ (lt i j = false → i < j)
theorem Ah.of_lt {lt : Nat → Nat → Bool} (H : Lt lt) {i j : Nat} (h : lt i j = true) : Ah lt i j := ⟨H.asym i j h, fun h' => by rw [h] at h'; cases h'⟩
theorem Ah.trans {lt : Nat → Nat → Bool} (H : Lt lt) {i j k : Nat} (a : Ah lt i j) (b : Ah lt j k) : Ah lt i k := by
  refine ⟨H.tr k j i b.1 a.1, fun h => ?_⟩
  have h1 : lt i j = false := H.tr i k j h b.1
  have h2 : lt j k = false := H.tr j i k a.1 h
  exact Nat.lt_trans (a.2 h1) (b.2 h2)
theorem lt_true {lt : Nat → Nat → Bool} (H : Lt lt) {i j k : Nat} (h : lt i j = true) (h' : lt k j = false) : lt i k = true := by
  cases e : lt i k with
  | true => rfl
  | false => rw [H.tr i k j e h'] at h; cases h
theorem lt_true' {lt : Nat → Nat → Bool} (H : Lt lt) {i j k : Nat} (h : lt i j = true) (h' : lt i k = false) : lt k j = true := by
  cases e : lt k j with
  | true => rfl
  | false => rw [H.tr i k j h' e] at h; cases h

section
variable {N : Nat} {lt : Nat → Nat → Bool}
structure Pm (N : Nat) (p : Array Nat) : Prop where
  sz : p.size = N
  bd : ∀ i, i < N → p.getD i 0 < N
  inj : ∀ i j, i < N → j < N → p.getD i 0 = p.getD j 0 → i = j
theorem pm_of {p : Array Nat} (h : p.Perm (List.toArray (List.range N))) : Pm N p := by
  have hp : p.toList.Perm (List.range N) := by simpa using Array.perm_iff_toList_perm.mp h
  have hs : p.size = N := by rw [← Array.length_toList, hp.length_eq, List.length_range]
  have hn : p.toList.Nodup := hp.nodup_iff.mpr List.nodup_range
  refine ⟨hs, fun i hi => ?_, fun i j hi hj e => ?_⟩
  · have hi' : i < p.size := by omega
    have : p[i] ∈ p.toList := Array.mem_toList_iff.mpr (Array.getElem_mem hi')
    have h2 := hp.mem_iff.mp this
    rw [show p.getD i 0 = p[i] by simp [Array.getD, hi']]
    exact List.mem_range.mp h2
  · have hi' : i < p.size := by omega
    have hj' : j < p.size := by omega
    rw [show p.getD i 0 = p[i] by simp [Array.getD, hi'], show p.getD j 0 = p[j] by simp [Array.getD, hj']] at e
    have e' : p.toList[i]'(by simpa using hi') = p.toList[j]'(by simpa using hj') := by simpa using e
    have hq := List.pairwise_iff_getElem.mp hn
    rcases Nat.lt_trichotomy i j with x | x | x
    · exact absurd e' (hq i j _ _ x)
    · exact x
    · exact absurd e'.symm (hq j i _ _ x)
theorem getD_rev {p : Array Nat} {i j : Nat} (hj : j ≤ p.size) (k : Nat) : (kas_rev p i j).getD k 0 = if i ≤ k ∧ k < j then p.getD (i + j - 1 - k) 0 else p.getD k 0 := by
  have h := getElem?_mirror_all (i := i) hj k
  rw [Array.getD_eq_getD_getElem?, Array.getD_eq_getD_getElem?, Array.getD_eq_getD_getElem?]
  show ((mirror p i j ((j - i) / 2))[k]?).getD 0 = _
  rw [h]
  split <;> rfl
theorem getD_bub {p : Array Nat} {k l : Nat} (hk : k < p.size) (hl : l ≤ k) (i : Nat) : (bubble p k (k - l)).getD i 0 = if i = l then p.getD k 0 else if l < i ∧ i ≤ k then p.getD (i - 1) 0 else p.getD i 0 := by
  have h := getElem?_bubble hk (k - l) (by omega) i
  have e : k - (k - l) = l := by omega
  rw [e] at h
  simp only [Array.getD_eq_getD_getElem?]
  rw [h]
  repeat' split
  all_goals rfl
theorem rev_perm {p : Array Nat} (i j : Nat) (h : p.Perm (List.toArray (List.range N))) : (kas_rev p i j).Perm (List.toArray (List.range N)) := (mirror_perm _ _ _ _).trans h
theorem bub_perm {p : Array Nat} (i j : Nat) (h : p.Perm (List.toArray (List.range N))) : (bubble p i j).Perm (List.toArray (List.range N)) := (bubble_perm _ _ _).trans h
noncomputable def Tl (N : Nat) (p : Array Nat) (m : Nat) : Prop := ∀ i, m ≤ i → i < N → p.getD i 0 = i
theorem Pm.lo {p : Array Nat} (P : Pm N p) {m i : Nat} (T : Tl N p m) (hi : i < m) (hm : m ≤ N) : p.getD i 0 < m := by
  rcases Nat.lt_or_ge (p.getD i 0) m with h | h
  · exact h
  · have h2 := T _ h (P.bd i (by omega))
    have := P.inj _ _ (P.bd i (by omega)) (by omega) h2
    omega
noncomputable def Up (lt : Nat → Nat → Bool) (p : Array Nat) (m : Nat) : Prop := ∀ i, 0 < i → i < m → Ah lt (p.getD (i - 1) 0) (p.getD i 0)
theorem Up.all (H : Lt lt) {p : Array Nat} {m : Nat} (U : Up lt p m) : ∀ d i, i + d + 1 < m → Ah lt (p.getD i 0) (p.getD (i + d + 1) 0)
  | 0, i, h => U (i + 1) (by omega) h
  | d + 1, i, h => (Up.all H U d i (by omega)).trans H (U (i + d + 1 + 1) (by omega) h)
theorem Up.at (H : Lt lt) {p : Array Nat} {m i j : Nat} (U : Up lt p m) (h : i < j) (hj : j < m) : Ah lt (p.getD i 0) (p.getD j 0) := by
  have := U.all H (j - i - 1) i (by omega)
  rw [show i + (j - i - 1) + 1 = j by omega] at this
  exact this

theorem sat_asc {p : Array Nat} (hb : ∀ i, i < N → p.getD i 0 < N) : ∀ (f n : Nat), 1 ≤ n → n + f ≤ N →
    Sat N lt (kas_asc p f n) (fun m => n ≤ m ∧ m ≤ n + f ∧ (∀ i, n ≤ i → i < m → lt (p.getD i 0) (p.getD (i - 1) 0) = false) ∧ (m < n + f → lt (p.getD m 0) (p.getD (m - 1) 0) = true))
  | 0, n, _, _ => ⟨Nat.le_refl _, Nat.le_refl _, fun i a b => by omega, fun h => by omega⟩
  | f + 1, n, h1, hN => by
    refine ⟨hb _ (by omega), hb _ (by omega), ?_⟩
    cases e : lt (p.getD n 0) (p.getD (n - 1) 0) with
    | true =>
      simp only [if_true]
      exact ⟨Nat.le_refl _, by omega, fun i a b => by omega, fun _ => e⟩
    | false =>
      simp only [Bool.false_eq_true, if_false]
      refine Sat.mono (fun m hm => ?_) _ (sat_asc hb f (n + 1) (by omega) (by omega))
      obtain ⟨a, b, c, d⟩ := hm
      refine ⟨by omega, by omega, fun i hi him => ?_, fun h => d (by omega)⟩
      rcases Nat.eq_or_lt_of_le hi with rfl | h
      · exact e
      · exact c i h him

structure Dn (N : Nat) (lt : Nat → Nat → Bool) (p : Array Nat) (n q : Nat) : Prop where
  perm : p.Perm (List.toArray (List.range N))
  tl : Tl N p n
  fall : ∀ i, 0 < i → i + (q + 1) < n → Ah lt (p.getD i 0) (p.getD (i - 1) 0)
  like : ∀ i, n ≤ i + q → i < n → Ah lt (p.getD (i - 1) 0) (p.getD i 0) ∧ lt (p.getD (i - 1) 0) (p.getD i 0) = false
  join : ∀ i, 0 < i → i + (q + 1) = n → lt (p.getD i 0) (p.getD (i - 1) 0) = true
  len : q + 1 ≤ n
  top : n ≤ N
theorem Dn.alike (H : Lt lt) {p : Array Nat} {n q : Nat} (D : Dn N lt p n q) : ∀ d i j, i + d = j → n ≤ i + q + 1 → j < n → lt (p.getD i 0) (p.getD j 0) = false ∧ lt (p.getD j 0) (p.getD i 0) = false
  | 0, i, j, e, h1, h2 => by
    have : i = j := by omega
    subst this
    cases e : lt (p.getD i 0) (p.getD i 0) with
    | false => exact ⟨rfl, rfl⟩
    | true => have := H.asym _ _ e; rw [e] at this; cases this
  | d + 1, i, j, e, h1, h2 => by
    obtain ⟨a, b⟩ := Dn.alike H D d i (j - 1) (by omega) h1 (by omega)
    obtain ⟨⟨c, _⟩, c'⟩ := D.like j (by omega) h2
    exact ⟨H.tr _ _ _ a c', H.tr _ _ _ c b⟩
theorem Dn.turn (H : Lt lt) {p : Array Nat} {n q : Nat} (D : Dn N lt p n q) : Tl N (kas_rev p (n - (q + 1)) n) n ∧ (∀ i, 0 < i → i < n → Ah lt ((kas_rev p (n - (q + 1)) n).getD i 0) ((kas_rev p (n - (q + 1)) n).getD (i - 1) 0)) ∧
    (∀ x, lt x (p.getD (n - 1) 0) = true → lt x ((kas_rev p (n - (q + 1)) n).getD (n - 1) 0) = true) := by
  have P := pm_of D.perm
  have hn : n ≤ p.size := by rw [P.sz]; exact D.top
  have hl := D.len
  refine ⟨fun i h1 h2 => ?_, fun i h1 h2 => ?_, fun x hx => ?_⟩
  · rw [getD_rev hn, if_neg (by omega)]; exact D.tl i h1 h2
  · rw [getD_rev hn, getD_rev hn]
    by_cases c1 : n - (q + 1) ≤ i
    · rw [if_pos ⟨c1, h2⟩]
      by_cases c2 : n - (q + 1) ≤ i - 1
      · rw [if_pos ⟨c2, by omega⟩]
        have := (D.like (n - (q + 1) + n - 1 - (i - 1)) (by omega) (by omega)).1
        rw [show n - (q + 1) + n - 1 - (i - 1) - 1 = n - (q + 1) + n - 1 - i by omega] at this
        exact this
      · rw [if_neg (by omega)]
        have ei : i = n - (q + 1) := by omega
        rw [show n - (q + 1) + n - 1 - i = n - 1 by omega]
        have j := D.join i h1 (by omega)
        have k := (D.alike H (n - 1 - i) i (n - 1) (by omega) (by omega) (by omega)).1
        exact Ah.of_lt H (lt_true' H j k)
    · rw [if_neg (by omega), if_neg (by omega)]
      exact D.fall i h1 (by omega)
  · rw [getD_rev hn, if_pos (by omega), show n - (q + 1) + n - 1 - (n - 1) = n - (q + 1) by omega]
    have k := (D.alike H (n - 1 - (n - (q + 1))) (n - (q + 1)) (n - 1) (by omega) (by omega) (by omega)).1
    exact lt_true H hx k

theorem sat_desc (H : Lt lt) : ∀ (f : Nat) (p : Array Nat) (n q : Nat), Dn N lt p n q → n + f ≤ N →
    Sat N lt (kas_desc f p n q) (fun r => Dn N lt r.1 r.2.1 r.2.2)
  | 0, p, n, q, D, _ => D
  | f + 1, p, n, q, D, hN => by
    have P := pm_of D.perm
    have hl := D.len
    have hn : n ≤ p.size := by rw [P.sz]; exact D.top
    refine ⟨P.bd _ (by omega), P.bd _ (by omega), ?_⟩
    cases e : lt (p.getD n 0) (p.getD (n - 1) 0) with
    | true =>
      simp only [if_true]
      have step : ∀ p' : Array Nat, p'.Perm (List.toArray (List.range N)) → Tl N p' n → (∀ i, 0 < i → i < n → Ah lt (p'.getD i 0) (p'.getD (i - 1) 0)) → lt (p'.getD n 0) (p'.getD (n - 1) 0) = true → Dn N lt p' (n + 1) 0 :=
        fun p' a b c d => ⟨a, fun i h1 h2 => b i (by omega) h2, fun i h1 h2 => c i h1 (by omega), fun i h1 h2 => by omega,
          fun i h1 h2 => by have : i = n := by omega
                            subst this; exact d, by omega, by omega⟩
      by_cases hq : q > 0
      · rw [if_pos hq]
        obtain ⟨t1, t2, t3⟩ := D.turn H
        refine sat_desc H f _ (n + 1) 0 (step _ (rev_perm _ _ D.perm) t1 t2 ?_) (by omega)
        refine t3 _ ?_
        rw [getD_rev hn, if_neg (by omega)]
        exact e
      · rw [if_neg hq]
        have hq0 : q = 0 := by omega
        subst hq0
        refine sat_desc H f _ (n + 1) 0 (step _ D.perm D.tl (fun i h1 h2 => ?_) e) (by omega)
        rcases Nat.lt_or_ge (i + 1) n with h | h
        · exact D.fall i h1 h
        · exact Ah.of_lt H (D.join i h1 (by omega))
    | false =>
      simp only [Bool.false_eq_true, if_false]
      refine ⟨P.bd _ (by omega), P.bd _ (by omega), ?_⟩
      cases e2 : lt (p.getD (n - 1) 0) (p.getD n 0) with
      | true =>
        simp only [if_true]
        exact D
      | false =>
        simp only [Bool.false_eq_true, if_false]
        refine sat_desc H f p (n + 1) (q + 1) ⟨D.perm, fun i h1 h2 => D.tl i (by omega) h2, fun i h1 h2 => D.fall i h1 (by omega), fun i h1 h2 => ?_, fun i h1 h2 => D.join i h1 (by omega), by omega, by omega⟩ (by omega)
        rcases Nat.lt_or_ge i n with h | h
        · exact D.like i (by omega) h
        · have : i = n := by omega
          subst this
          refine ⟨⟨e, fun _ => ?_⟩, e2⟩
          rw [D.tl i (Nat.le_refl _) (by omega)]
          exact P.lo D.tl (by omega) D.top

structure Rn (N : Nat) (lt : Nat → Nat → Bool) (p : Array Nat) (m : Nat) : Prop where
  perm : p.Perm (List.toArray (List.range N))
  tl : Tl N p m
  up : Up lt p m
  top : m ≤ N
theorem Rn.longer (H : Lt lt) {p : Array Nat} {n m : Nat} (R : Rn N lt p n) (h1 : 1 ≤ n) (h : n ≤ m) (hm : m ≤ N) (ha : ∀ i, n ≤ i → i < m → lt (p.getD i 0) (p.getD (i - 1) 0) = false) : Rn N lt p m := by
  have P := pm_of R.perm
  refine ⟨R.perm, fun i a b => R.tl i (by omega) b, fun i a b => ?_, hm⟩
  rcases Nat.lt_or_ge i n with c | c
  · exact R.up i a c
  · refine ⟨ha i c b, fun _ => ?_⟩
    rw [R.tl i c (by omega)]
    exact P.lo (fun j x y => R.tl j (by omega) y) (by omega) (by omega)
theorem rn_of_fall (H : Lt lt) {p : Array Nat} {n : Nat} (hp : p.Perm (List.toArray (List.range N))) (T : Tl N p n) (hn : n ≤ N) (F : ∀ i, 0 < i → i < n → Ah lt (p.getD i 0) (p.getD (i - 1) 0)) : Rn N lt (kas_rev p 0 n) n := by
  have P := pm_of hp
  have hs : n ≤ p.size := by rw [P.sz]; exact hn
  refine ⟨rev_perm _ _ hp, fun i a b => ?_, fun i a b => ?_, hn⟩
  · rw [getD_rev hs, if_neg (by omega)]; exact T i a b
  · rw [getD_rev hs, getD_rev hs, if_pos (by omega), if_pos (by omega)]
    have := F (0 + n - 1 - (i - 1)) (by omega) (by omega)
    rw [show 0 + n - 1 - (i - 1) - 1 = 0 + n - 1 - i by omega] at this
    exact this
theorem sat_tail3 (H : Lt lt) {p : Array Nat} {n : Nat} (h1 : 1 ≤ n) (hp : p.Perm (List.toArray (List.range N))) (T : Tl N p n) (hn : n ≤ N) (F : ∀ i, 0 < i → i < n → Ah lt (p.getD i 0) (p.getD (i - 1) 0)) :
    Sat N lt (kas_tail3 n N p) (fun r => 1 ≤ r.1 ∧ Rn N lt r.2 r.1) := by
  have R := rn_of_fall H hp T hn F
  refine Sat.bind (fun m hm => ?_) _ (sat_asc (pm_of R.perm).bd (N - n) n h1 (by omega))
  exact ⟨by show 1 ≤ m; omega, R.longer H h1 hm.1 (by omega) hm.2.2.1⟩
theorem sat_descPart (H : Lt lt) {p : Array Nat} {n : Nat} (D : Dn N lt p (n + 1) 0) : Sat N lt (kas_descPart n N p) (fun r => 1 ≤ r.1 ∧ Rn N lt r.2 r.1) := by
  have := D.top
  refine Sat.bind (fun r D' => ?_) _ (sat_desc H (N - (n + 1)) p (n + 1) 0 D (by omega))
  have hl := D'.len
  by_cases hq : r.2.2 > 0
  · rw [if_pos hq]
    obtain ⟨t1, t2, _⟩ := D'.turn H
    exact sat_tail3 H (by omega) (rev_perm _ _ D'.perm) t1 D'.top t2
  · rw [if_neg hq]
    refine sat_tail3 H (by omega) D'.perm D'.tl D'.top fun i h1 h2 => ?_
    rcases Nat.lt_or_ge (i + (r.2.2 + 1)) r.2.1 with h | h
    · exact D'.fall i h1 h
    · exact Ah.of_lt H (D'.join i h1 (by omega))
theorem range_getD (i : Nat) (h : i < N) : (List.toArray (List.range N)).getD i 0 = i := by
  simp [Array.getD, h]
theorem sat_count (H : Lt lt) (h1 : 1 ≤ N) : Sat N lt (kas_count N (List.toArray (List.range N))) (fun r => 1 ≤ r.1 ∧ Rn N lt r.2 r.1) := by
  have hp : (List.toArray (List.range N)).Perm (List.toArray (List.range N)) := Array.Perm.refl _
  have P := pm_of hp
  have R1 : Rn N lt (List.toArray (List.range N)) 1 := ⟨hp, fun i a b => range_getD i b, fun i a b => by omega, h1⟩
  refine Sat.bind (fun n hn => ?_) _ (sat_asc P.bd (N - 1) 1 (Nat.le_refl _) (by omega))
  obtain ⟨a, b, c, d⟩ := hn
  have R := R1.longer H (Nat.le_refl _) a (by omega) c
  by_cases e : n = N
  · rw [if_pos (by simp [e])]; exact ⟨a, R⟩
  · rw [if_neg (by simp [e])]
    have dd := d (by omega)
    rw [range_getD _ (by omega), range_getD _ (by omega)] at dd
    by_cases h : n > 1
    · rw [if_pos h]
      refine ⟨P.bd _ (by omega), P.bd _ (by omega), ?_⟩
      rw [range_getD _ (by omega), range_getD _ (by omega)]
      cases e2 : lt 0 (n - 1) with
      | true =>
        simp only [if_true]
        exact ⟨a, R⟩
      | false =>
        simp only [Bool.false_eq_true, if_false]
        have hs : n ≤ (List.toArray (List.range N)).size := by simp; omega
        have le : ∀ i j, i < j → j < n → lt j i = false := fun i j x y => by
          have := (R.up.at H x y).1
          rwa [range_getD _ (by omega), range_getD _ (by omega)] at this
        have ge : ∀ i j, i < j → j < n → lt i j = false := fun i j x y => by
          have p1 : lt i 0 = false := by
            rcases Nat.eq_zero_or_pos i with rfl | q
            · cases e5 : lt 0 0 with
              | false => rfl
              | true => have := H.asym _ _ e5; rw [e5] at this; cases this
            · exact le 0 i q (by omega)
          have p2 : lt (n - 1) j = false := by
            rcases Nat.lt_or_ge j (n - 1) with q | q
            · exact le j (n - 1) q (by omega)
            · have : j = n - 1 := by omega
              subst this
              cases e5 : lt (n - 1) (n - 1) with
              | false => rfl
              | true => have := H.asym _ _ e5; rw [e5] at this; cases this
          exact H.tr _ _ _ p1 (H.tr _ _ _ e2 p2)
        have g : ∀ i, i < N → (kas_rev (List.toArray (List.range N)) 0 n).getD i 0 = if i < n then n - 1 - i else i := fun i hi => by
          rw [getD_rev hs]
          by_cases q : i < n
          · rw [if_pos (by omega), if_pos q, range_getD _ (by omega)]; omega
          · rw [if_neg (by omega), if_neg q, range_getD _ hi]
        refine sat_descPart H ⟨rev_perm _ _ hp, fun i x y => ?_, fun i x y => ?_, fun i x y => by omega, fun i x y => ?_, by omega, by omega⟩
        · rw [g i y, if_neg (by omega)]
        · rw [g i (by omega), g (i - 1) (by omega), if_pos (by omega), if_pos (by omega)]
          exact ⟨le _ _ (by omega) (by omega), fun _ => by omega⟩
        · have ei : i = n := by omega
          subst ei
          rw [g i (by omega), g (i - 1) (by omega), if_neg (by omega), if_pos (by omega), show i - 1 - (i - 1) = 0 by omega]
          exact lt_true H dd e2
    · rw [if_neg h]
      have : n = 1 := by omega
      subst this
      refine sat_descPart H ⟨hp, fun i x y => range_getD i y, fun i x y => by omega, fun i x y => by omega, fun i x y => ?_, by omega, by omega⟩
      have : i = 1 := by omega
      subst this
      rw [range_getD _ (by omega), range_getD _ (by omega)]
      exact dd

theorem Rn.put (H : Lt lt) {p : Array Nat} {k m : Nat} (R : Rn N lt p k) (hk : k < N) (hm : m ≤ k) (a : ∀ i, i < m → lt k (p.getD i 0) = false) (b : ∀ i, m ≤ i → i < k → lt k (p.getD i 0) = true) : Rn N lt (bubble p k (k - m)) (k + 1) := by
  have P := pm_of R.perm
  have hs : k < p.size := by rw [P.sz]; exact hk
  have ek : p.getD k 0 = k := R.tl k (Nat.le_refl _) hk
  refine ⟨bub_perm _ _ R.perm, fun i x y => ?_, fun i x y => ?_, hk⟩
  · rw [getD_bub hs hm, if_neg (by omega), if_neg (by omega)]; exact R.tl i (by omega) y
  · rw [getD_bub hs hm, getD_bub hs hm, ek]
    rcases Nat.lt_or_ge i m with c | c
    · rw [if_neg (by omega), if_neg (by omega), if_neg (by omega), if_neg (by omega)]
      exact R.up i x (by omega)
    · by_cases c1 : i = m
      · rw [if_neg (by omega), if_neg (by omega), if_pos c1]
        exact ⟨a _ (by omega), fun _ => P.lo R.tl (by omega) (by omega)⟩
      · by_cases c2 : i = m + 1
        · rw [if_pos (by omega), if_neg (by omega), if_pos (by omega)]
          exact Ah.of_lt H (b _ (by omega) (by omega))
        · rw [if_neg (by omega), if_pos (by omega), if_neg (by omega), if_pos (by omega)]
          exact R.up (i - 1) (by omega) (by omega)
end
end L2

namespace L2
open PySem PySem.Spec PyProof.Rows PySem.W
noncomputable abbrev SM := StateT SortSt Sem
structure Orc where
  prog : Program
  w : World
  A : Around
  E : Value → Shared → Prop
  κ : SortKind
  it : Array Keyed
  N : Nat
  lt : Nat → Nat → Bool
  I : Shared → Prop
  hc : ∀ i j s, i < N → j < N → I s → kas_cmp prog w A κ it i j (fun b s' => b = lt i j ∧ I s') s
structure Ab where
  p : Array Nat
  pd : Array (Nat × Nat × Nat)
  mg : Nat
noncomputable def Ab.st (O : Orc) (b : Ab) : SortSt := SortSt.mk' O.κ (b.p.map (kas_item O.it)) b.pd b.mg none
noncomputable def W (O : Orc) {α : Type} (m : SM α) (Q : α → Ab → Prop) (b : Ab) : Prop :=
  ∀ s, O.I s → kasC (model O.prog O.w) O.A O.E m (fun a st s' => O.I s' ∧ ∃ b' : Ab, st = b'.st O ∧ Q a b') (b.st O) s
section
variable {O : Orc} {α β : Type} {b : Ab}
theorem W.pure {a : α} {Q : α → Ab → Prop} (h : Q a b) : W O (Pure.pure a) Q b := fun s hs => kasC_pure ⟨hs, b, rfl, h⟩
theorem W.bind {m : SM α} {f : α → SM β} {Q : β → Ab → Prop} (h : W O m (fun a b' => W O (f a) Q b') b) : W O (m >>= f) Q b := fun s hs =>
  kasC_bind (wpAny_mono (h s hs) (fun r s' ⟨i, b', e, q⟩ => by rw [e]; exact q s' i) fun _ _ z => z)
theorem W.mono {m : SM α} {Q Q' : α → Ab → Prop} (h : W O m Q b) (k : ∀ a b', Q a b' → Q' a b') : W O m Q' b := fun s hs =>
  wpAny_mono (h s hs) (fun r s' ⟨i, b', e, q⟩ => ⟨i, b', e, k _ _ q⟩) fun _ _ z => z
theorem W.ite {c : Prop} [Decidable c] {m m' : SM α} {Q : α → Ab → Prop} (h : c → W O m Q b) (h' : ¬ c → W O m' Q b) : W O (if c then m else m') Q b := by
  by_cases q : c
  · rw [if_pos q]; exact h q
  · rw [if_neg q]; exact h' q
theorem W.get {Q : SortSt → Ab → Prop} (h : Q (b.st O) b) : W O (MonadState.get : SM SortSt) Q b := fun s hs => kasC_get ⟨hs, b, rfl, h⟩
theorem W.modify {f : SortSt → SortSt} {Q : PUnit → Ab → Prop} (b' : Ab) (e : f (b.st O) = b'.st O) (h : Q ⟨⟩ b') : W O (_root_.modify f : SM PUnit) Q b := fun s hs => kasC_modify ⟨hs, b', e, h⟩
theorem W.rule {r : String} {Q : Unit → Ab → Prop} (h : Q () b) : W O (liftM (PySem.rule r) : SM Unit) Q b := fun s hs => kasC_lift (wpAny_rule ⟨hs, b, rfl, h⟩)
theorem W.lt {i j : Nat} {Q : Option Bool → Ab → Prop} (hi : i < O.N) (hj : j < O.N) (h : Q (some (O.lt i j)) b) : W O (lt' (kas_item O.it i) (kas_item O.it j)) Q b := fun s hs => by
  rw [lt'_eq]
  refine kasC_bind (kasC_get ?_)
  refine kasC_bind (kasC_lift (wpAny_attempt (wpAny_mono (O.hc i j s hi hj hs) (fun c s' hc => ?_) fun _ _ hF => hF.elim)))
  obtain ⟨rfl, hs'⟩ := hc
  exact kasC_pure ⟨hs', b, rfl, h⟩
theorem map_at {xs : Array Nat} {k : Nat} (h : k < xs.size) (f : Nat → Keyed) : (xs.map f)[k]? = some (f (xs.getD k 0)) := by
  have e : xs.getD k 0 = xs[k] := by simp [Array.getD, h]
  rw [e]; simp [h]
theorem W.elem {xs : Array Nat} {k : Nat} {Q : Keyed → Ab → Prop} (hk : k < xs.size) (h : Q (kas_item O.it (xs.getD k 0)) b) : W O (elem' (xs.map (kas_item O.it)) k) Q b := by
  rw [elem'_eq, map_at hk]; exact W.pure h
theorem W.ltAt {i j : Nat} {Q : Option Bool → Ab → Prop} (hi : i < b.p.size) (hj : j < b.p.size) (hN : ∀ k, k < b.p.size → b.p.getD k 0 < O.N) (h : Q (some (O.lt (b.p.getD i 0) (b.p.getD j 0))) b) : W O (ltAt' i j) Q b := by
  rw [ltAt'_eq]
  refine W.bind (W.get ?_)
  exact W.bind (W.elem hi (W.bind (W.elem hj (W.lt (hN i hi) (hN j hj) h))))
theorem W.forIn {γ : Type} {l : List Nat} {c : γ} {f : Nat → γ → SM (ForInStep γ)} {D : γ → Ab → Prop} (J : Nat → γ → Ab → Prop) (h0 : J l.length c b)
    (hs : ∀ x k c b, J (k + 1) c b → W O (f x c) (fun r b' => match r with | .done c' => D c' b' | .yield c' => J k c' b') b) (hd : ∀ c b, J 0 c b → D c b) : W O (ForIn.forIn l c f) D b := by
  induction l generalizing c b with
  | nil => exact fun s hi => kasC_nil ⟨hi, b, rfl, hd c b h0⟩
  | cons x l ih =>
    intro s hi
    refine kasC_cons (wpAny_mono (hs x l.length c b h0 s hi) (fun r s' ⟨i, b', e, q⟩ => ?_) fun _ _ z => z)
    obtain ⟨r, st⟩ := r
    have e : st = b'.st O := e
    subst e
    cases r with
    | done c' => exact ⟨i, b', rfl, q⟩
    | yield c' => exact ih q s' i
theorem W.range {γ : Type} {x y : Nat} {c : γ} {f : Nat → γ → SM (ForInStep γ)} {D : γ → Ab → Prop} (J : Nat → γ → Ab → Prop) (h0 : J (y - x) c b)
    (hs : ∀ x k c b, J (k + 1) c b → W O (f x c) (fun r b' => match r with | .done c' => D c' b' | .yield c' => J k c' b') b) (hd : ∀ c b, J 0 c b → D c b) : W O (ForIn.forIn [x:y] c f) D b := fun s hi =>
  kasC_range (W.forIn (l := List.range' x (y - x)) J (by rw [List.length_range']; exact h0) hs hd s hi)
end
noncomputable def gal : Bool → Keyed → Array Keyed → Nat → Nat → Nat → SM (Option Nat) := sortPriv% PySem.Builtin.gallop
noncomputable def byd (lf : Bool) (ky : Keyed) (ar : Array Keyed) (bs i : Nat) : SM (Option Bool) := do
  let z ← elem' ar (bs + i)
  if lf then lt' z ky else return (← lt' ky z).map (!·)
theorem gal_eq (lf : Bool) (ky : Keyed) (ar : Array Keyed) (bs m hn : Nat) : gal lf ky ar bs m hn = (do
  let mut lo1 := 0
  let mut of1 := 1
  let mut a1 := 0
  let mut b1 := 0
  let some rt ← byd lf ky ar bs hn | return none
  if rt then
    let mx := m - hn
    for _ in [0:m] do
      if of1 ≥ mx then break
      let some mo ← byd lf ky ar bs (hn + of1) | return none
      if !mo then break
      lo1 := of1
      of1 := 2 * of1 + 1
    a1 := hn + lo1 + 1
    b1 := hn + min of1 mx
  else
    let mx := hn + 1
    for _ in [0:m] do
      if of1 ≥ mx then break
      let some fd ← byd lf ky ar bs (hn - of1) | return none
      if fd then break
      lo1 := of1
      of1 := 2 * of1 + 1
    a1 := hn + 1 - min of1 mx
    b1 := hn - lo1
  for _ in [0:m] do
    if a1 ≥ b1 then break
    let md := a1 + (b1 - a1) / 2
    let some mo ← byd lf ky ar bs md | return none
    if mo then a1 := md + 1 else b1 := md
  return some b1) := rfl
section
variable {O : Orc} {b : Ab}
noncomputable def bey (O : Orc) (lf : Bool) (k : Nat) (xs : Array Nat) (bs i : Nat) : Bool := if lf then O.lt (xs.getD (bs + i) 0) k else !(O.lt k (xs.getD (bs + i) 0))
theorem W.byd {lf : Bool} {k : Nat} {xs : Array Nat} {bs i : Nat} {Q : Option Bool → Ab → Prop} (hk : k < O.N) (hx : ∀ j, j < xs.size → xs.getD j 0 < O.N) (hi : bs + i < xs.size) (h : Q (some (bey O lf k xs bs i)) b) :
    W O (byd lf (kas_item O.it k) (xs.map (kas_item O.it)) bs i) Q b := by
  unfold L2.byd
  refine W.bind (W.elem hi ?_)
  unfold bey at h
  cases lf with
  | true =>
    rw [if_pos rfl] at h ⊢
    exact W.lt (hx _ hi) hk h
  | false =>
    rw [if_neg Bool.false_ne_true] at h ⊢
    exact W.bind (W.lt hk (hx _ hi) (W.pure h))
theorem W.gal {lf : Bool} {k : Nat} {xs : Array Nat} {bs m hn K : Nat} {Q : Option Nat → Ab → Prop} (hk : k < O.N) (hx : ∀ j, j < xs.size → xs.getD j 0 < O.N) (hm : bs + m ≤ xs.size) (hh : hn < m) (hK : K ≤ m)
    (h1 : ∀ i, i < K → bey O lf k xs bs i = true) (h2 : ∀ i, K ≤ i → i < m → bey O lf k xs bs i = false) (h : Q (some K) b) : W O (gal lf (kas_item O.it k) (xs.map (kas_item O.it)) bs m hn) Q b := by
  have yes : ∀ {i}, bey O lf k xs bs i = true → i < m → i < K := fun {i} e hi => by
    rcases Nat.lt_or_ge i K with z | z
    · exact z
    · rw [h2 i z hi] at e; cases e
  have no : ∀ {i}, bey O lf k xs bs i = false → K ≤ i := fun {i} e => by
    rcases Nat.lt_or_ge i K with z | z
    · rw [h1 i z] at e; cases e
    · exact z
  rw [gal_eq]
  refine W.bind (W.byd hk hx (by omega) ?_)
  dsimp only
  cases e0 : bey O lf k xs bs hn with
  | true =>
    simp only [if_true]
    have h0 := yes e0 hh
    refine W.bind (W.range (D := fun c b' => b' = b ∧ c.1 = none ∧ hn + c.2.1 < K ∧ K ≤ hn + min c.2.2 (m - hn)) (fun j c b' => b' = b ∧ c.1 = none ∧ hn + c.2.1 < K ∧ m + 1 ≤ c.2.2 + j) ⟨rfl, rfl, h0, by simp; omega⟩ ?_ ?_ |>.mono fun c b' hc => ?_)
    · rintro x j ⟨c1, c2, c3⟩ b' ⟨eb, e1, e2, e3⟩
      subst b'
      dsimp only at e1 e2 e3 ⊢
      subst e1
      by_cases hge : c3 ≥ m - hn
      · rw [if_pos hge]
        exact W.pure ⟨rfl, rfl, e2, by show K ≤ hn + min c3 (m - hn); omega⟩
      · rw [if_neg hge]
        refine W.bind (W.byd hk hx (by omega) ?_)
        cases e : bey O lf k xs bs (hn + c3) with
        | true =>
          simp only [Bool.not_true, Bool.false_eq_true, if_false]
          have := yes e (by omega)
          exact W.pure ⟨rfl, rfl, this, by show m + 1 ≤ 2 * c3 + 1 + j; omega⟩
        | false =>
          simp only [Bool.not_false, if_true]
          have := no e
          exact W.pure ⟨rfl, rfl, e2, by show K ≤ hn + min c3 (m - hn); omega⟩
    · rintro ⟨c1, c2, c3⟩ b' ⟨eb, e1, e2, e3⟩
      subst b'
      exact ⟨rfl, e1, e2, by show K ≤ hn + min c3 (m - hn); dsimp only at e3; omega⟩
    · obtain ⟨c1, c2, c3⟩ := c
      obtain ⟨eb, e1, e2, e3⟩ := hc
      subst b'
      dsimp only at e1 e2 e3 ⊢
      subst e1
      dsimp only
      refine W.bind (W.range (D := fun c b' => b' = b ∧ c.1 = none ∧ c.2.2 = K) (fun j c b' => b' = b ∧ c.1 = none ∧ c.2.1 ≤ K ∧ K ≤ c.2.2 ∧ c.2.2 ≤ m ∧ c.2.2 - c.2.1 ≤ j) ⟨rfl, rfl, by show hn + c2 + 1 ≤ K; omega, by show K ≤ hn + min c3 (m - hn); exact e3, by show hn + min c3 (m - hn) ≤ m; omega, by show hn + min c3 (m - hn) - (hn + c2 + 1) ≤ m - 0; omega⟩ ?_ ?_ |>.mono fun c b' hc => ?_)
      · rintro x j ⟨c1, c2, c3⟩ b' ⟨eb, e1, e2, e3, e4, e5⟩
        subst b'
        dsimp only at e1 e2 e3 e4 e5 ⊢
        subst e1
        by_cases hge : c2 ≥ c3
        · rw [if_pos hge]
          exact W.pure ⟨rfl, rfl, by show c3 = K; omega⟩
        · rw [if_neg hge]
          refine W.bind (W.byd hk hx (by omega) ?_)
          cases e : bey O lf k xs bs (c2 + (c3 - c2) / 2) with
          | true =>
            simp only [if_true]
            have := yes e (by omega)
            exact W.pure ⟨rfl, rfl, by show c2 + (c3 - c2) / 2 + 1 ≤ K; omega, e3, e4, by show c3 - (c2 + (c3 - c2) / 2 + 1) ≤ j; omega⟩
          | false =>
            simp only [Bool.false_eq_true, if_false]
            have := no e
            exact W.pure ⟨rfl, rfl, e2, this, by show c2 + (c3 - c2) / 2 ≤ m; omega, by show c2 + (c3 - c2) / 2 - c2 ≤ j; omega⟩
      · rintro ⟨c1, c2, c3⟩ b' ⟨eb, e1, e2, e3, e4, e5⟩
        subst b'
        exact ⟨rfl, e1, by show c3 = K; dsimp only at e2 e3 e5; omega⟩
      · obtain ⟨c1, c2, c3⟩ := c
        obtain ⟨eb, e1, e2⟩ := hc
        subst b'
        dsimp only at e1 e2 ⊢
        subst e1 e2
        exact W.pure h
  | false =>
    simp only [Bool.false_eq_true, if_false]
    have h0 := no e0
    refine W.bind (W.range (D := fun c b' => b' = b ∧ c.1 = none ∧ K + c.2.1 ≤ hn ∧ hn + 1 - min c.2.2 (hn + 1) ≤ K) (fun j c b' => b' = b ∧ c.1 = none ∧ K + c.2.1 ≤ hn ∧ m + 1 ≤ c.2.2 + j) ⟨rfl, rfl, h0, by simp; omega⟩ ?_ ?_ |>.mono fun c b' hc => ?_)
    · rintro x j ⟨c1, c2, c3⟩ b' ⟨eb, e1, e2, e3⟩
      subst b'
      dsimp only at e1 e2 e3 ⊢
      subst e1
      by_cases hge : c3 ≥ hn + 1
      · rw [if_pos hge]
        exact W.pure ⟨rfl, rfl, e2, by show hn + 1 - min c3 (hn + 1) ≤ K; omega⟩
      · rw [if_neg hge]
        refine W.bind (W.byd hk hx (by omega) ?_)
        cases e : bey O lf k xs bs (hn - c3) with
        | true =>
          simp only [if_true]
          have := yes e (by omega)
          exact W.pure ⟨rfl, rfl, e2, by show hn + 1 - min c3 (hn + 1) ≤ K; omega⟩
        | false =>
          simp only [Bool.false_eq_true, if_false]
          have := no e
          exact W.pure ⟨rfl, rfl, by show K + c3 ≤ hn; omega, by show m + 1 ≤ 2 * c3 + 1 + j; omega⟩
    · rintro ⟨c1, c2, c3⟩ b' ⟨eb, e1, e2, e3⟩
      subst b'
      exact ⟨rfl, e1, e2, by show hn + 1 - min c3 (hn + 1) ≤ K; dsimp only at e3; omega⟩
    · obtain ⟨c1, c2, c3⟩ := c
      obtain ⟨eb, e1, e2, e3⟩ := hc
      subst b'
      dsimp only at e1 e2 e3 ⊢
      subst e1
      dsimp only
      refine W.bind (W.range (D := fun c b' => b' = b ∧ c.1 = none ∧ c.2.2 = K) (fun j c b' => b' = b ∧ c.1 = none ∧ c.2.1 ≤ K ∧ K ≤ c.2.2 ∧ c.2.2 ≤ m ∧ c.2.2 - c.2.1 ≤ j) ⟨rfl, rfl, by show hn + 1 - min c3 (hn + 1) ≤ K; exact e3, by show K ≤ hn - c2; omega, by show hn - c2 ≤ m; omega, by show hn - c2 - (hn + 1 - min c3 (hn + 1)) ≤ m - 0; omega⟩ ?_ ?_ |>.mono fun c b' hc => ?_)
      · rintro x j ⟨c1, c2, c3⟩ b' ⟨eb, e1, e2, e3, e4, e5⟩
        subst b'
        dsimp only at e1 e2 e3 e4 e5 ⊢
        subst e1
        by_cases hge : c2 ≥ c3
        · rw [if_pos hge]
          exact W.pure ⟨rfl, rfl, by show c3 = K; omega⟩
        · rw [if_neg hge]
          refine W.bind (W.byd hk hx (by omega) ?_)
          cases e : bey O lf k xs bs (c2 + (c3 - c2) / 2) with
          | true =>
            simp only [if_true]
            have := yes e (by omega)
            exact W.pure ⟨rfl, rfl, by show c2 + (c3 - c2) / 2 + 1 ≤ K; omega, e3, e4, by show c3 - (c2 + (c3 - c2) / 2 + 1) ≤ j; omega⟩
          | false =>
            simp only [Bool.false_eq_true, if_false]
            have := no e
            exact W.pure ⟨rfl, rfl, e2, this, by show c2 + (c3 - c2) / 2 ≤ m; omega, by show c2 + (c3 - c2) / 2 - c2 ≤ j; omega⟩
      · rintro ⟨c1, c2, c3⟩ b' ⟨eb, e1, e2, e3, e4, e5⟩
        subst b'
        exact ⟨rfl, e1, by show c3 = K; dsimp only at e2 e3 e5; omega⟩
      · obtain ⟨c1, c2, c3⟩ := c
        obtain ⟨eb, e1, e2⟩ := hc
        subst b'
        dsimp only at e1 e2 ⊢
        subst e1 e2
        exact W.pure h
end
end L2

namespace L2
open PySem PySem.Spec PyProof.Rows PySem.W
noncomputable def setMG : Nat → SM Unit := sortPriv% PySem.Builtin.setMinGallop
noncomputable def mLo : Array Keyed → Array Keyed → SM (Array Keyed) := sortPriv% PySem.Builtin.mergeLo
theorem setMG_eq (g : Nat) : setMG g = _root_.modify fun st => SortSt.mk' (kindOf st) (arrOf st) (pendingOf st) g (failedOf st) := rfl
theorem mLo_eq (a b : Array Keyed) : mLo a b = (do
  rule "list.sort.merge-lo"
  let tt := a.size + b.size
  let dn (o : Array Keyed) (i j : Nat) := o ++ a.extract i a.size ++ b.extract j b.size
  let la (o : Array Keyed) (i j : Nat) := o ++ b.extract j b.size ++ a.extract i a.size
  let mut o : Array Keyed := #[← elem' b 0]
  let mut i := 0
  let mut j := 1
  if j == b.size then return dn o i j
  if i + 1 == a.size then return la o i j
  let mut mg := gallopOf (← get)
  for _ in [0:tt] do
    let mut ca := 0
    let mut cb := 0
    for _ in [0:tt] do
      let some bw ← lt' (← elem' b j) (← elem' a i) | return dn o i j
      if bw then
        o := o.push (← elem' b j); j := j + 1; cb := cb + 1; ca := 0
        if j == b.size then return dn o i j
        if cb ≥ mg then break
      else
        o := o.push (← elem' a i); i := i + 1; ca := ca + 1; cb := 0
        if i + 1 == a.size then return la o i j
        if ca ≥ mg then break
    rule "list.sort.gallop"
    mg := mg + 1
    for _ in [0:tt] do
      if mg > 1 then mg := mg - 1
      setMG mg
      let some k ← gal false (← elem' b j) a i (a.size - i) 0 | return dn o i j
      ca := k
      if k > 0 then
        o := o ++ a.extract i (i + k); i := i + k
        if i + 1 == a.size then return la o i j
        if i == a.size then return dn o i j
      o := o.push (← elem' b j); j := j + 1
      if j == b.size then return dn o i j
      let some k ← gal true (← elem' a i) b j (b.size - j) 0 | return dn o i j
      cb := k
      if k > 0 then
        o := o ++ b.extract j (j + k); j := j + k
        if j == b.size then return dn o i j
      o := o.push (← elem' a i); i := i + 1
      if i + 1 == a.size then return la o i j
      if ca < 7 && cb < 7 then break
    mg := mg + 1
    setMG mg
  unsupported "internal:list.sort.merge-bound") := rfl
section
variable {O : Orc} {b : Ab}
theorem W.setMG {g : Nat} {Q : Unit → Ab → Prop} (h : Q () { b with mg := g }) : W O (setMG g) Q b := by
  rw [setMG_eq]; exact W.modify { b with mg := g } rfl h
structure Two (O : Orc) (xs ys : Array Nat) : Prop where
  H : Lt O.lt
  nx : ∀ i, i < xs.size → xs.getD i 0 < O.N
  ny : ∀ i, i < ys.size → ys.getD i 0 < O.N
  sx : xs.toList.Pairwise (Ah O.lt)
  sy : ys.toList.Pairwise (Ah O.lt)
  xy : ∀ x ∈ xs.toList, ∀ y ∈ ys.toList, x < y
  x1 : 0 < xs.size
  y1 : 0 < ys.size
noncomputable def Made (O : Orc) (xs ys : Array Nat) (rs : Array Nat) : Prop := rs.toList.Perm (xs.toList ++ ys.toList) ∧ rs.toList.Pairwise (Ah O.lt)
structure Lw (O : Orc) (xs ys os : Array Nat) (i j : Nat) : Prop where
  pm : (os.toList ++ (xs.toList.drop i ++ ys.toList.drop j)).Perm (xs.toList ++ ys.toList)
  sa : (os.toList ++ xs.toList.drop i).Pairwise (Ah O.lt)
  sb : (os.toList ++ ys.toList.drop j).Pairwise (Ah O.lt)
  ti : i ≤ xs.size
  tj : j ≤ ys.size
theorem drop_at {xs : Array Nat} {i : Nat} (h : i < xs.size) : xs.toList.drop i = xs.getD i 0 :: xs.toList.drop (i + 1) := by
  have h' : i < xs.toList.length := by simpa using h
  rw [List.drop_eq_getElem_cons h']
  congr 1
  simp [Array.getD, h]
variable {xs ys os : Array Nat} {i j k : Nat}
theorem mem_at {i : Nat} (h : i < xs.size) : xs.getD i 0 ∈ xs.toList := by
  have : xs.getD i 0 = xs[i] := by simp [Array.getD, h]
  rw [this]; simp
theorem Two.ah (T : Two O xs ys) {x y : Nat} (hx : x ∈ xs.toList) (hy : y ∈ ys.toList) (h : O.lt y x = false) : Ah O.lt x y := ⟨h, fun _ => T.xy x hx y hy⟩
theorem ext_all (xs : Array Nat) (i : Nat) : (xs.extract i xs.size).toList = xs.toList.drop i := by
  rw [Array.toList_extract, List.extract_eq_drop_take]
  exact List.take_of_length_le (by simp)
theorem Lw.done (L : Lw O xs ys os i j) (h : j = ys.size) : Made O xs ys (os ++ xs.extract i xs.size ++ ys.extract j ys.size) := by
  subst h
  have e : (os ++ xs.extract i xs.size ++ ys.extract ys.size ys.size).toList = os.toList ++ xs.toList.drop i := by rw [Array.toList_append, Array.toList_append, ext_all, ext_all]; simp
  have pm := L.pm
  have e2 : ys.toList.drop ys.size = [] := by simp
  rw [e2, List.append_nil] at pm
  exact ⟨by rw [e]; exact pm, by rw [e]; exact L.sa⟩
theorem Lw.done2 (L : Lw O xs ys os i j) (h : i = xs.size) : Made O xs ys (os ++ xs.extract i xs.size ++ ys.extract j ys.size) := by
  subst h
  have e : (os ++ xs.extract xs.size xs.size ++ ys.extract j ys.size).toList = os.toList ++ ys.toList.drop j := by rw [Array.toList_append, Array.toList_append, ext_all, ext_all]; simp
  have pm := L.pm
  have e2 : xs.toList.drop xs.size = [] := by simp
  rw [e2, List.nil_append] at pm
  exact ⟨by rw [e]; exact pm, by rw [e]; exact L.sb⟩
theorem Lw.last (T : Two O xs ys) (L : Lw O xs ys os i j) (h : i + 1 = xs.size) (hl : ∀ y ∈ ys.toList, O.lt y (xs.getD (xs.size - 1) 0) = true) : Made O xs ys (os ++ ys.extract j ys.size ++ xs.extract i xs.size) := by
  have e : (os ++ ys.extract j ys.size ++ xs.extract i xs.size).toList = os.toList ++ ys.toList.drop j ++ xs.toList.drop i := by rw [Array.toList_append, Array.toList_append, ext_all, ext_all]
  refine ⟨?_, ?_⟩
  · rw [e, List.append_assoc]
    exact ((List.Perm.refl _).append List.perm_append_comm).trans L.pm
  · rw [e]
    have hd : xs.toList.drop i = [xs.getD (xs.size - 1) 0] := by
      rw [drop_at (by omega)]
      have : xs.toList.drop (i + 1) = [] := by rw [h]; simp
      rw [this, show xs.size - 1 = i by omega]
    refine List.pairwise_append.mpr ⟨L.sb, (List.pairwise_append.mp L.sa).2.1, fun a ha c hc => ?_⟩
    rcases List.mem_append.mp ha with ha | ha
    · exact (List.pairwise_append.mp L.sa).2.2 a ha c hc
    · rw [hd] at hc
      rw [List.mem_singleton.mp hc]
      exact Ah.of_lt T.H (hl a (List.mem_of_mem_drop ha))
theorem Lw.stepB (T : Two O xs ys) (L : Lw O xs ys os i j) (hi : i < xs.size) (hj : j < ys.size) (h : O.lt (ys.getD j 0) (xs.getD i 0) = true) : Lw O xs ys (os.push (ys.getD j 0)) i (j + 1) := by
  have e : (os.push (ys.getD j 0)).toList = os.toList ++ [ys.getD j 0] := by simp
  have hy := drop_at hj
  have pm := L.pm; have sa := L.sa; have sb := L.sb
  rw [hy] at pm sb
  refine ⟨?_, ?_, ?_, L.ti, by omega⟩
  · rw [e, List.append_assoc]
    refine List.Perm.trans (List.Perm.append_left _ ?_) pm
    exact (List.perm_middle (a := ys.getD j 0) (l₁ := xs.toList.drop i)).symm
  · rw [e, List.append_assoc]
    obtain ⟨s1, s2, s3⟩ := List.pairwise_append.mp sa
    obtain ⟨t1, t2, t3⟩ := List.pairwise_append.mp sb
    refine List.pairwise_append.mpr ⟨s1, List.pairwise_cons.mpr ⟨fun c hc => ?_, s2⟩, fun a ha c hc => ?_⟩
    · rw [drop_at hi] at hc s2
      rcases List.mem_cons.mp hc with rfl | hc
      · exact Ah.of_lt T.H h
      · exact (Ah.of_lt T.H h).trans T.H ((List.pairwise_cons.mp s2).1 c hc)
    · rcases List.mem_cons.mp hc with rfl | hc
      · exact t3 a ha _ (List.mem_cons_self ..)
      · exact s3 a ha c hc
  · rw [e, List.append_assoc]; exact sb
theorem Lw.stepA (T : Two O xs ys) (L : Lw O xs ys os i j) (hi : i < xs.size) (hj : j < ys.size) (h : O.lt (ys.getD j 0) (xs.getD i 0) = false) : Lw O xs ys (os.push (xs.getD i 0)) (i + 1) j := by
  have e : (os.push (xs.getD i 0)).toList = os.toList ++ [xs.getD i 0] := by simp
  have hx := drop_at hi
  have pm := L.pm; have sa := L.sa; have sb := L.sb
  rw [hx] at pm sa
  refine ⟨?_, ?_, ?_, by omega, L.tj⟩
  · rw [e, List.append_assoc]; exact pm
  · rw [e, List.append_assoc]; exact sa
  · rw [e, List.append_assoc]
    obtain ⟨s1, s2, s3⟩ := List.pairwise_append.mp sa
    obtain ⟨t1, t2, t3⟩ := List.pairwise_append.mp sb
    have h0 : Ah O.lt (xs.getD i 0) (ys.getD j 0) := T.ah (mem_at hi) (mem_at hj) h
    refine List.pairwise_append.mpr ⟨s1, List.pairwise_cons.mpr ⟨fun c hc => ?_, t2⟩, fun a ha c hc => ?_⟩
    · rw [drop_at hj] at hc t2
      rcases List.mem_cons.mp hc with rfl | hc
      · exact h0
      · exact h0.trans T.H ((List.pairwise_cons.mp t2).1 c hc)
    · rcases List.mem_cons.mp hc with rfl | hc
      · exact s3 a ha _ (List.mem_cons_self ..)
      · exact t3 a ha c hc
theorem push_ext {os xs : Array Nat} {i k : Nat} (h : i + k < xs.size) : (os ++ xs.extract i (i + k)).push (xs.getD (i + k) 0) = os ++ xs.extract i (i + (k + 1)) := by
  apply Array.toList_inj.mp
  have e : xs.getD (i + k) 0 = xs[i + k] := by simp [Array.getD, h]
  rw [e]
  simp only [Array.toList_push, Array.toList_append, Array.toList_extract, List.append_assoc]
  congr 1
  have hl : k < (xs.toList.drop i).length := by simp; omega
  rw [List.extract_eq_drop_take, List.extract_eq_drop_take, show i + k - i = k by omega, show i + (k + 1) - i = k + 1 by omega, List.take_succ_eq_append_getElem hl]
  simp
theorem Lw.manyA (T : Two O xs ys) (hj : j < ys.size) : ∀ k, Lw O xs ys os i j → i + k ≤ xs.size → (∀ d, d < k → O.lt (ys.getD j 0) (xs.getD (i + d) 0) = false) → Lw O xs ys (os ++ xs.extract i (i + k)) (i + k) j
  | 0, L, _, _ => by
    have e : os ++ xs.extract i (i + 0) = os := by apply Array.toList_inj.mp; simp
    rw [e]; exact L
  | k + 1, L, hk, h => by
    have L' := Lw.manyA T hj k L (by omega) fun d hd => h d (by omega)
    have := L'.stepA T (by omega) hj (h k (by omega))
    rw [push_ext (by omega)] at this
    exact this
theorem Lw.manyB (T : Two O xs ys) (hi : i < xs.size) : ∀ k, Lw O xs ys os i j → j + k ≤ ys.size → (∀ d, d < k → O.lt (ys.getD (j + d) 0) (xs.getD i 0) = true) → Lw O xs ys (os ++ ys.extract j (j + k)) i (j + k)
  | 0, L, _, _ => by
    have e : os ++ ys.extract j (j + 0) = os := by apply Array.toList_inj.mp; simp
    rw [e]; exact L
  | k + 1, L, hk, h => by
    have L' := Lw.manyB T hi k L (by omega) fun d hd => h d (by omega)
    have := L'.stepB T hi (by omega) (h k (by omega))
    rw [push_ext (by omega)] at this
    exact this
theorem pre_ex {P : Nat → Bool} : ∀ (m : Nat), (∀ i j, i ≤ j → j < m → P j = true → P i = true) → ∃ K, K ≤ m ∧ (∀ i, i < K → P i = true) ∧ ∀ i, K ≤ i → i < m → P i = false
  | 0, _ => ⟨0, Nat.le_refl _, fun i h => absurd h (Nat.not_lt_zero _), fun i _ h => absurd h (Nat.not_lt_zero _)⟩
  | m + 1, h => by
    obtain ⟨K, a, c, d⟩ := pre_ex m fun i j h1 h2 h3 => h i j h1 (by omega) h3
    cases e : P m with
    | true => exact ⟨m + 1, Nat.le_refl _, fun i hi => h i m (by omega) (by omega) e, fun i h1 h2 => by omega⟩
    | false =>
      refine ⟨K, by omega, c, fun i h1 h2 => ?_⟩
      rcases Nat.lt_or_ge i m with z | z
      · exact d i h1 z
      · have : i = m := by omega
        subst this; exact e
theorem pw_at {xs : Array Nat} (h : xs.toList.Pairwise (Ah O.lt)) {i j : Nat} (hij : i < j) (hj : j < xs.size) : Ah O.lt (xs.getD i 0) (xs.getD j 0) := by
  have := List.pairwise_iff_getElem.mp h i j (by simp; omega) (by simpa using hj) hij
  have e1 : xs.getD i 0 = xs[i] := by simp [Array.getD, show i < xs.size by omega]
  have e2 : xs.getD j 0 = xs[j] := by simp [Array.getD, hj]
  rw [e1, e2]; simpa using this
theorem Two.monoA (T : Two O xs ys) {y c d : Nat} (h1 : c ≤ d) (h2 : i + d < xs.size) (h3 : bey O false y xs i d = true) : bey O false y xs i c = true := by
  simp only [bey, Bool.false_eq_true, if_false, Bool.not_eq_true'] at h3 ⊢
  rcases Nat.eq_or_lt_of_le h1 with rfl | h1
  · exact h3
  · exact T.H.tr _ _ _ h3 (pw_at T.sx (show i + c < i + d by omega) h2).1
theorem Two.monoB (T : Two O xs ys) {x c d : Nat} (h1 : c ≤ d) (h2 : j + d < ys.size) (h3 : bey O true x ys j d = true) : bey O true x ys j c = true := by
  simp only [bey, if_true] at h3 ⊢
  rcases Nat.eq_or_lt_of_le h1 with rfl | h1
  · exact h3
  · exact lt_true' T.H h3 (pw_at T.sy (show j + c < j + d by omega) h2).1
theorem W.mLo {Q : Array Keyed → Ab → Prop} (T : Two O xs ys) (h0 : O.lt (ys.getD 0 0) (xs.getD 0 0) = true) (hl : ∀ y ∈ ys.toList, O.lt y (xs.getD (xs.size - 1) 0) = true)
    (h : ∀ rs mg, Made O xs ys rs → Q (rs.map (kas_item O.it)) { b with mg := mg }) : W O (mLo (xs.map (kas_item O.it)) (ys.map (kas_item O.it))) Q b := by
  have x1 := T.x1
  have y1 := T.y1
  have L0 : Lw O xs ys #[] 0 0 := ⟨by simp, by simpa using T.sx, by simpa using T.sy, Nat.zero_le _, Nat.zero_le _⟩
  have L1 := L0.stepB T x1 y1 h0
  have mpush : ∀ (os : Array Nat) (x : Nat), (os.map (kas_item O.it)).push (kas_item O.it x) = (os.push x).map (kas_item O.it) := fun os x => by rw [Array.map_push]
  have mapp : ∀ (os zs : Array Nat), os.map (kas_item O.it) ++ zs.map (kas_item O.it) = (os ++ zs).map (kas_item O.it) := fun os zs => by rw [Array.map_append]
  have mext : ∀ (zs : Array Nat) (i j : Nat), (zs.map (kas_item O.it)).extract i j = (zs.extract i j).map (kas_item O.it) := fun zs i j => by rw [Array.map_extract]
  rw [mLo_eq]
  refine W.bind (W.rule ?_)
  refine W.bind (W.elem y1 ?_)
  simp only [Array.size_map, mext, mapp]
  have e1 : #[kas_item O.it (ys.getD 0 0)] = ((#[] : Array Nat).push (ys.getD 0 0)).map (kas_item O.it) := by simp
  rw [e1]
  by_cases c1 : (1 == ys.size) = true
  · rw [if_pos c1]
    simp only [mapp]
    exact W.pure (h _ b.mg (L1.done (by simpa using c1)))
  rw [if_neg c1]
  by_cases c2 : (0 + 1 == xs.size) = true
  · rw [if_pos c2]
    simp only [mapp]
    exact W.pure (h _ b.mg (L1.last T (by simpa using c2) hl))
  rw [if_neg c2]
  refine W.bind (W.get ?_)
  have ex : ∀ {P : Nat → Bool} (m : Nat), (∀ i j, i ≤ j → j < m → P j = true → P i = true) → ∃ K, K ≤ m ∧ (∀ i, i < K → P i = true) ∧ ∀ i, K ≤ i → i < m → P i = false := fun m h => pre_ex m h
  have KA : ∀ i j, i < xs.size → j < ys.size → ∃ K, K ≤ xs.size - i ∧ (∀ d, d < K → bey O false (ys.getD j 0) xs i d = true) ∧ ∀ d, K ≤ d → d < xs.size - i → bey O false (ys.getD j 0) xs i d = false := fun i j hi hj => ex _ fun c d h1 h2 h3 => T.monoA h1 (by omega) h3
  have KB : ∀ i j, i < xs.size → j < ys.size → ∃ K, K ≤ ys.size - j ∧ (∀ d, d < K → bey O true (xs.getD i 0) ys j d = true) ∧ ∀ d, K ≤ d → d < ys.size - j → bey O true (xs.getD i 0) ys j d = false := fun i j hi hj => ex _ fun c d h1 h2 h3 => T.monoB h1 (by omega) h3
  have c1 : 1 < ys.size := by have : ¬ 1 = ys.size := by simpa using c1
                              omega
  have c2 : 1 < xs.size := by have : ¬ 1 = xs.size := by simpa using c2
                              omega
  refine W.bind (W.range (D := fun c b1 => b1.p = b.p ∧ b1.pd = b.pd ∧ ∃ rs : Array Nat, c.1 = some (rs.map (kas_item O.it)) ∧ Made O xs ys rs) (fun k c b1 => b1.p = b.p ∧ b1.pd = b.pd ∧ c.1 = none ∧ ∃ os : Array Nat, c.2.1 = os.map (kas_item O.it) ∧ Lw O xs ys os c.2.2.1 c.2.2.2.1 ∧ c.2.2.1 + 1 < xs.size ∧ c.2.2.2.1 < ys.size ∧ xs.size + ys.size + 1 ≤ c.2.2.1 + c.2.2.2.1 + k) ⟨rfl, rfl, rfl, _, rfl, L1, c2, c1, by show xs.size + ys.size + 1 ≤ 0 + 1 + (xs.size + ys.size - 0); omega⟩ ?_ ?_ |>.mono fun c b1 hc => ?_)
  rotate_left
  · rintro ⟨r, o, i, j, g⟩ b1 ⟨f1, f2, _, os, _, L, hi, hj, hk⟩
    dsimp only at hi hj hk
    exact absurd hk (by omega)
  · obtain ⟨r, o, i, j, g⟩ := c
    obtain ⟨f1, f2, rs, e, hm⟩ := hc
    dsimp only at e ⊢
    subst e
    have := h rs b1.mg hm
    obtain ⟨p1, d1, m1⟩ := b1
    have f1 : p1 = b.p := f1
    have f2 : d1 = b.pd := f2
    subst f1 f2
    exact W.pure this
  rintro x k ⟨r, o, i0, j0, g0⟩ b1 ⟨f1, f2, e, os0, eo, L, hi0, hj0, hk⟩
  dsimp only at e eo hi0 hj0 hk L ⊢
  subst e eo
  refine W.bind (W.range (D := fun c b1 => b1.p = b.p ∧ b1.pd = b.pd ∧ ((∃ rs : Array Nat, c.1 = some (rs.map (kas_item O.it)) ∧ Made O xs ys rs) ∨ (c.1 = none ∧ ∃ os : Array Nat, c.2.1 = os.map (kas_item O.it) ∧ Lw O xs ys os c.2.2.1 c.2.2.2.1 ∧ c.2.2.1 + 1 < xs.size ∧ c.2.2.2.1 < ys.size ∧ i0 + j0 + 1 ≤ c.2.2.1 + c.2.2.2.1))) (fun k c b1 => b1.p = b.p ∧ b1.pd = b.pd ∧ c.1 = none ∧ ∃ os : Array Nat, c.2.1 = os.map (kas_item O.it) ∧ Lw O xs ys os c.2.2.1 c.2.2.2.1 ∧ c.2.2.1 + 1 < xs.size ∧ c.2.2.2.1 < ys.size ∧ i0 + j0 + (xs.size + ys.size) ≤ c.2.2.1 + c.2.2.2.1 + k ∧ i0 + j0 ≤ c.2.2.1 + c.2.2.2.1) ⟨f1, f2, rfl, _, rfl, L, hi0, hj0, by show i0 + j0 + (xs.size + ys.size) ≤ i0 + j0 + (xs.size + ys.size - 0) ∧ i0 + j0 ≤ i0 + j0; omega⟩ ?_ ?_ |>.mono fun c b1 hc => ?_)
  · rintro x k ⟨r, o, i, j, ca, cb⟩ b1 ⟨f1, f2, e, os, eo, L, hi, hj, hk1, hk2⟩
    dsimp only at e eo hi hj hk1 hk2 L ⊢
    subst e eo
    refine W.bind (W.elem hj (W.bind (W.elem (by omega) (W.bind (W.lt (T.ny _ hj) (T.nx _ (by omega)) ?_)))))
    cases e : O.lt (ys.getD j 0) (xs.getD i 0) with
    | true =>
      have L' := L.stepB T (by omega) hj e
      simp only [if_true]
      refine W.bind (W.elem hj ?_)
      simp only [mpush, mapp]
      by_cases q : (j + 1 == ys.size) = true
      · rw [if_pos q]
        exact W.pure ⟨f1, f2, .inl ⟨_, rfl, L'.done (by simpa using q)⟩⟩
      · rw [if_neg q]
        have q' : ¬ j + 1 = ys.size := by simpa using q
        refine W.ite (fun _ => ?_) (fun _ => ?_)
        · exact W.pure ⟨f1, f2, .inr ⟨rfl, _, rfl, L', hi, by show j + 1 < ys.size; omega, by show i0 + j0 + 1 ≤ i + (j + 1); omega⟩⟩
        · exact W.pure ⟨f1, f2, rfl, _, rfl, L', hi, by show j + 1 < ys.size; omega, by show i0 + j0 + (xs.size + ys.size) ≤ i + (j + 1) + k ∧ i0 + j0 ≤ i + (j + 1); omega⟩
    | false =>
      have L' := L.stepA T (by omega) hj e
      simp only [Bool.false_eq_true, if_false]
      refine W.bind (W.elem (by omega) ?_)
      simp only [mpush, mapp]
      by_cases q : (i + 1 + 1 == xs.size) = true
      · rw [if_pos q]
        exact W.pure ⟨f1, f2, .inl ⟨_, rfl, L'.last T (by simpa using q) hl⟩⟩
      · rw [if_neg q]
        have q' : ¬ i + 1 + 1 = xs.size := by simpa using q
        refine W.ite (fun _ => ?_) (fun _ => ?_)
        · exact W.pure ⟨f1, f2, .inr ⟨rfl, _, rfl, L', by show i + 1 + 1 < xs.size; omega, hj, by show i0 + j0 + 1 ≤ i + 1 + j; omega⟩⟩
        · exact W.pure ⟨f1, f2, rfl, _, rfl, L', by show i + 1 + 1 < xs.size; omega, hj, by show i0 + j0 + (xs.size + ys.size) ≤ i + 1 + j + k ∧ i0 + j0 ≤ i + 1 + j; omega⟩
  · rintro ⟨r, o, i, j, ca, cb⟩ b1 ⟨f1, f2, _, os, _, L, hi, hj, hk1, hk2⟩
    dsimp only at hi hj hk1 hk2
    exact absurd hk1 (by omega)
  obtain ⟨r, o, i1, j1, ca, cb⟩ := c
  obtain ⟨f1, f2, hc⟩ := hc
  dsimp only at hc ⊢
  rcases hc with ⟨rs, e, hm⟩ | ⟨e, os1, eo, L, hi1, hj1, hk1⟩
  · subst e
    exact W.pure ⟨f1, f2, rs, rfl, hm⟩
  subst e eo
  dsimp only
  refine W.bind (W.rule ?_)
  refine W.bind (W.range (D := fun c b1 => b1.p = b.p ∧ b1.pd = b.pd ∧ ((∃ rs : Array Nat, c.1 = some (rs.map (kas_item O.it)) ∧ Made O xs ys rs) ∨ (c.1 = none ∧ ∃ os : Array Nat, c.2.1 = os.map (kas_item O.it) ∧ Lw O xs ys os c.2.2.1 c.2.2.2.1 ∧ c.2.2.1 + 1 < xs.size ∧ c.2.2.2.1 < ys.size ∧ i1 + j1 ≤ c.2.2.1 + c.2.2.2.1))) (fun k c b1 => b1.p = b.p ∧ b1.pd = b.pd ∧ c.1 = none ∧ ∃ os : Array Nat, c.2.1 = os.map (kas_item O.it) ∧ Lw O xs ys os c.2.2.1 c.2.2.2.1 ∧ c.2.2.1 + 1 < xs.size ∧ c.2.2.2.1 < ys.size ∧ i1 + j1 + (xs.size + ys.size) ≤ c.2.2.1 + c.2.2.2.1 + k ∧ i1 + j1 ≤ c.2.2.1 + c.2.2.2.1) ⟨f1, f2, rfl, _, rfl, L, hi1, hj1, by show i1 + j1 + (xs.size + ys.size) ≤ i1 + j1 + (xs.size + ys.size - 0) ∧ i1 + j1 ≤ i1 + j1; omega⟩ ?_ ?_ |>.mono fun c b1 hc => ?_)
  · rintro x k ⟨r, o, i, j, g, ca, cb⟩ b1 ⟨f1, f2, e, os, eo, L, hi, hj, hk1, hk2⟩
    dsimp only at e eo hi hj hk1 hk2 L ⊢
    subst e eo
    obtain ⟨K, hK, hK1, hK2⟩ := KA i j (by omega) hj
    have LK := L.manyA T hj K (by omega) fun d hd => by have := hK1 d hd; simpa [bey] using this
    by_cases hg : g > 1
    · rw [if_pos hg]
      refine W.bind (W.setMG ?_)
      refine W.bind (W.elem hj (W.bind (W.gal (K := K) (T.ny _ hj) T.nx (by omega) (by omega) hK hK1 hK2 ?_)))
      dsimp only
      by_cases z : K > 0
      · rw [if_pos z]
        simp only [mapp]
        by_cases q : (i + K + 1 == xs.size) = true
        · rw [if_pos q]
          exact W.pure ⟨f1, f2, .inl ⟨_, rfl, LK.last T (by simpa using q) hl⟩⟩
        rw [if_neg q]
        have q' : ¬ i + K + 1 = xs.size := by simpa using q
        by_cases q1 : (i + K == xs.size) = true
        · rw [if_pos q1]
          exact W.pure ⟨f1, f2, .inl ⟨_, rfl, LK.done2 (by simpa using q1)⟩⟩
        rw [if_neg q1]
        have q1' : ¬ i + K = xs.size := by simpa using q1
        have L2 := LK.stepB T (by omega) hj (by have := hK2 K (Nat.le_refl _) (by omega); simpa [bey] using this)
        refine W.bind (W.elem hj ?_)
        simp only [mpush, mapp]
        by_cases q2 : (j + 1 == ys.size) = true
        · rw [if_pos q2]
          exact W.pure ⟨f1, f2, .inl ⟨_, rfl, L2.done (by simpa using q2)⟩⟩
        rw [if_neg q2]
        have q2' : ¬ j + 1 = ys.size := by simpa using q2
        obtain ⟨K', hK', hB1, hB2⟩ := KB (i + K) (j + 1) (by omega) (by omega)
        have LB := L2.manyB T (by omega) K' (by omega) fun d hd => by have := hB1 d hd; simpa [bey] using this
        refine W.bind (W.elem (by omega) (W.bind (W.gal (K := K') (T.nx _ (by omega)) T.ny (by omega) (by omega) hK' hB1 hB2 ?_)))
        dsimp only
        by_cases z' : K' > 0
        · rw [if_pos z']
          by_cases q4 : (j + 1 + K' == ys.size) = true
          · rw [if_pos q4]
            exact W.pure ⟨f1, f2, .inl ⟨_, rfl, LB.done (by simpa using q4)⟩⟩
          rw [if_neg q4]
          have q4' : ¬ j + 1 + K' = ys.size := by simpa using q4
          have L3 := LB.stepA T (by omega) (by omega) (by have := hB2 K' (Nat.le_refl _) (by omega); simpa [bey] using this)
          refine W.bind (W.elem (by omega) ?_)
          simp only [mpush, mapp]
          by_cases q3 : (i + K + 1 + 1 == xs.size) = true
          · rw [if_pos q3]
            exact W.pure ⟨f1, f2, .inl ⟨_, rfl, L3.last T (by simpa using q3) hl⟩⟩
          · rw [if_neg q3]
            have q3' : ¬ i + K + 1 + 1 = xs.size := by simpa using q3
            refine W.ite (fun _ => ?_) (fun _ => ?_)
            · exact W.pure ⟨f1, f2, .inr ⟨rfl, _, rfl, L3, by show i + K + 1 + 1 < xs.size; omega, by show j + 1 + K' < ys.size; omega, by show i1 + j1 ≤ i + K + 1 + (j + 1 + K'); omega⟩⟩
            · exact W.pure ⟨f1, f2, rfl, _, rfl, L3, by show i + K + 1 + 1 < xs.size; omega, by show j + 1 + K' < ys.size; omega, by show i1 + j1 + (xs.size + ys.size) ≤ i + K + 1 + (j + 1 + K') + k ∧ i1 + j1 ≤ i + K + 1 + (j + 1 + K'); omega⟩
        · rw [if_neg z']
          have ek : K' = 0 := by omega
          have L3 := L2.stepA T (by omega) (by omega) (by have := hB2 0 (by omega) (by omega); simpa [bey] using this)
          refine W.bind (W.elem (by omega) ?_)
          simp only [mpush, mapp]
          by_cases q3 : (i + K + 1 + 1 == xs.size) = true
          · rw [if_pos q3]
            exact W.pure ⟨f1, f2, .inl ⟨_, rfl, L3.last T (by simpa using q3) hl⟩⟩
          · rw [if_neg q3]
            have q3' : ¬ i + K + 1 + 1 = xs.size := by simpa using q3
            refine W.ite (fun _ => ?_) (fun _ => ?_)
            · exact W.pure ⟨f1, f2, .inr ⟨rfl, _, rfl, L3, by show i + K + 1 + 1 < xs.size; omega, by show j + 1 < ys.size; omega, by show i1 + j1 ≤ i + K + 1 + (j + 1); omega⟩⟩
            · exact W.pure ⟨f1, f2, rfl, _, rfl, L3, by show i + K + 1 + 1 < xs.size; omega, by show j + 1 < ys.size; omega, by show i1 + j1 + (xs.size + ys.size) ≤ i + K + 1 + (j + 1) + k ∧ i1 + j1 ≤ i + K + 1 + (j + 1); omega⟩
      · rw [if_neg z]
        have ek : K = 0 := by omega
        have L2 := L.stepB T (by omega) hj (by have := hK2 0 (by omega) (by omega); simpa [bey] using this)
        refine W.bind (W.elem hj ?_)
        simp only [mpush, mapp]
        by_cases q2 : (j + 1 == ys.size) = true
        · rw [if_pos q2]
          exact W.pure ⟨f1, f2, .inl ⟨_, rfl, L2.done (by simpa using q2)⟩⟩
        rw [if_neg q2]
        have q2' : ¬ j + 1 = ys.size := by simpa using q2
        obtain ⟨K', hK', hB1, hB2⟩ := KB (i) (j + 1) (by omega) (by omega)
        have LB := L2.manyB T (by omega) K' (by omega) fun d hd => by have := hB1 d hd; simpa [bey] using this
        refine W.bind (W.elem (by omega) (W.bind (W.gal (K := K') (T.nx _ (by omega)) T.ny (by omega) (by omega) hK' hB1 hB2 ?_)))
        dsimp only
        by_cases z' : K' > 0
        · rw [if_pos z']
          by_cases q4 : (j + 1 + K' == ys.size) = true
          · rw [if_pos q4]
            exact W.pure ⟨f1, f2, .inl ⟨_, rfl, LB.done (by simpa using q4)⟩⟩
          rw [if_neg q4]
          have q4' : ¬ j + 1 + K' = ys.size := by simpa using q4
          have L3 := LB.stepA T (by omega) (by omega) (by have := hB2 K' (Nat.le_refl _) (by omega); simpa [bey] using this)
          refine W.bind (W.elem (by omega) ?_)
          simp only [mpush, mapp]
          by_cases q3 : (i + 1 + 1 == xs.size) = true
          · rw [if_pos q3]
            exact W.pure ⟨f1, f2, .inl ⟨_, rfl, L3.last T (by simpa using q3) hl⟩⟩
          · rw [if_neg q3]
            have q3' : ¬ i + 1 + 1 = xs.size := by simpa using q3
            refine W.ite (fun _ => ?_) (fun _ => ?_)
            · exact W.pure ⟨f1, f2, .inr ⟨rfl, _, rfl, L3, by show i + 1 + 1 < xs.size; omega, by show j + 1 + K' < ys.size; omega, by show i1 + j1 ≤ i + 1 + (j + 1 + K'); omega⟩⟩
            · exact W.pure ⟨f1, f2, rfl, _, rfl, L3, by show i + 1 + 1 < xs.size; omega, by show j + 1 + K' < ys.size; omega, by show i1 + j1 + (xs.size + ys.size) ≤ i + 1 + (j + 1 + K') + k ∧ i1 + j1 ≤ i + 1 + (j + 1 + K'); omega⟩
        · rw [if_neg z']
          have ek : K' = 0 := by omega
          have L3 := L2.stepA T (by omega) (by omega) (by have := hB2 0 (by omega) (by omega); simpa [bey] using this)
          refine W.bind (W.elem (by omega) ?_)
          simp only [mpush, mapp]
          by_cases q3 : (i + 1 + 1 == xs.size) = true
          · rw [if_pos q3]
            exact W.pure ⟨f1, f2, .inl ⟨_, rfl, L3.last T (by simpa using q3) hl⟩⟩
          · rw [if_neg q3]
            have q3' : ¬ i + 1 + 1 = xs.size := by simpa using q3
            refine W.ite (fun _ => ?_) (fun _ => ?_)
            · exact W.pure ⟨f1, f2, .inr ⟨rfl, _, rfl, L3, by show i + 1 + 1 < xs.size; omega, by show j + 1 < ys.size; omega, by show i1 + j1 ≤ i + 1 + (j + 1); omega⟩⟩
            · exact W.pure ⟨f1, f2, rfl, _, rfl, L3, by show i + 1 + 1 < xs.size; omega, by show j + 1 < ys.size; omega, by show i1 + j1 + (xs.size + ys.size) ≤ i + 1 + (j + 1) + k ∧ i1 + j1 ≤ i + 1 + (j + 1); omega⟩
    · rw [if_neg hg]
      refine W.bind (W.setMG ?_)
      refine W.bind (W.elem hj (W.bind (W.gal (K := K) (T.ny _ hj) T.nx (by omega) (by omega) hK hK1 hK2 ?_)))
      dsimp only
      by_cases z : K > 0
      · rw [if_pos z]
        simp only [mapp]
        by_cases q : (i + K + 1 == xs.size) = true
        · rw [if_pos q]
          exact W.pure ⟨f1, f2, .inl ⟨_, rfl, LK.last T (by simpa using q) hl⟩⟩
        rw [if_neg q]
        have q' : ¬ i + K + 1 = xs.size := by simpa using q
        by_cases q1 : (i + K == xs.size) = true
        · rw [if_pos q1]
          exact W.pure ⟨f1, f2, .inl ⟨_, rfl, LK.done2 (by simpa using q1)⟩⟩
        rw [if_neg q1]
        have q1' : ¬ i + K = xs.size := by simpa using q1
        have L2 := LK.stepB T (by omega) hj (by have := hK2 K (Nat.le_refl _) (by omega); simpa [bey] using this)
        refine W.bind (W.elem hj ?_)
        simp only [mpush, mapp]
        by_cases q2 : (j + 1 == ys.size) = true
        · rw [if_pos q2]
          exact W.pure ⟨f1, f2, .inl ⟨_, rfl, L2.done (by simpa using q2)⟩⟩
        rw [if_neg q2]
        have q2' : ¬ j + 1 = ys.size := by simpa using q2
        obtain ⟨K', hK', hB1, hB2⟩ := KB (i + K) (j + 1) (by omega) (by omega)
        have LB := L2.manyB T (by omega) K' (by omega) fun d hd => by have := hB1 d hd; simpa [bey] using this
        refine W.bind (W.elem (by omega) (W.bind (W.gal (K := K') (T.nx _ (by omega)) T.ny (by omega) (by omega) hK' hB1 hB2 ?_)))
        dsimp only
        by_cases z' : K' > 0
        · rw [if_pos z']
          by_cases q4 : (j + 1 + K' == ys.size) = true
          · rw [if_pos q4]
            exact W.pure ⟨f1, f2, .inl ⟨_, rfl, LB.done (by simpa using q4)⟩⟩
          rw [if_neg q4]
          have q4' : ¬ j + 1 + K' = ys.size := by simpa using q4
          have L3 := LB.stepA T (by omega) (by omega) (by have := hB2 K' (Nat.le_refl _) (by omega); simpa [bey] using this)
          refine W.bind (W.elem (by omega) ?_)
          simp only [mpush, mapp]
          by_cases q3 : (i + K + 1 + 1 == xs.size) = true
          · rw [if_pos q3]
            exact W.pure ⟨f1, f2, .inl ⟨_, rfl, L3.last T (by simpa using q3) hl⟩⟩
          · rw [if_neg q3]
            have q3' : ¬ i + K + 1 + 1 = xs.size := by simpa using q3
            refine W.ite (fun _ => ?_) (fun _ => ?_)
            · exact W.pure ⟨f1, f2, .inr ⟨rfl, _, rfl, L3, by show i + K + 1 + 1 < xs.size; omega, by show j + 1 + K' < ys.size; omega, by show i1 + j1 ≤ i + K + 1 + (j + 1 + K'); omega⟩⟩
            · exact W.pure ⟨f1, f2, rfl, _, rfl, L3, by show i + K + 1 + 1 < xs.size; omega, by show j + 1 + K' < ys.size; omega, by show i1 + j1 + (xs.size + ys.size) ≤ i + K + 1 + (j + 1 + K') + k ∧ i1 + j1 ≤ i + K + 1 + (j + 1 + K'); omega⟩
        · rw [if_neg z']
          have ek : K' = 0 := by omega
          have L3 := L2.stepA T (by omega) (by omega) (by have := hB2 0 (by omega) (by omega); simpa [bey] using this)
          refine W.bind (W.elem (by omega) ?_)
          simp only [mpush, mapp]
          by_cases q3 : (i + K + 1 + 1 == xs.size) = true
          · rw [if_pos q3]
            exact W.pure ⟨f1, f2, .inl ⟨_, rfl, L3.last T (by simpa using q3) hl⟩⟩
          · rw [if_neg q3]
            have q3' : ¬ i + K + 1 + 1 = xs.size := by simpa using q3
            refine W.ite (fun _ => ?_) (fun _ => ?_)
            · exact W.pure ⟨f1, f2, .inr ⟨rfl, _, rfl, L3, by show i + K + 1 + 1 < xs.size; omega, by show j + 1 < ys.size; omega, by show i1 + j1 ≤ i + K + 1 + (j + 1); omega⟩⟩
            · exact W.pure ⟨f1, f2, rfl, _, rfl, L3, by show i + K + 1 + 1 < xs.size; omega, by show j + 1 < ys.size; omega, by show i1 + j1 + (xs.size + ys.size) ≤ i + K + 1 + (j + 1) + k ∧ i1 + j1 ≤ i + K + 1 + (j + 1); omega⟩
      · rw [if_neg z]
        have ek : K = 0 := by omega
        have L2 := L.stepB T (by omega) hj (by have := hK2 0 (by omega) (by omega); simpa [bey] using this)
        refine W.bind (W.elem hj ?_)
        simp only [mpush, mapp]
        by_cases q2 : (j + 1 == ys.size) = true
        · rw [if_pos q2]
          exact W.pure ⟨f1, f2, .inl ⟨_, rfl, L2.done (by simpa using q2)⟩⟩
        rw [if_neg q2]
        have q2' : ¬ j + 1 = ys.size := by simpa using q2
        obtain ⟨K', hK', hB1, hB2⟩ := KB (i) (j + 1) (by omega) (by omega)
        have LB := L2.manyB T (by omega) K' (by omega) fun d hd => by have := hB1 d hd; simpa [bey] using this
        refine W.bind (W.elem (by omega) (W.bind (W.gal (K := K') (T.nx _ (by omega)) T.ny (by omega) (by omega) hK' hB1 hB2 ?_)))
        dsimp only
        by_cases z' : K' > 0
        · rw [if_pos z']
          by_cases q4 : (j + 1 + K' == ys.size) = true
          · rw [if_pos q4]
            exact W.pure ⟨f1, f2, .inl ⟨_, rfl, LB.done (by simpa using q4)⟩⟩
          rw [if_neg q4]
          have q4' : ¬ j + 1 + K' = ys.size := by simpa using q4
          have L3 := LB.stepA T (by omega) (by omega) (by have := hB2 K' (Nat.le_refl _) (by omega); simpa [bey] using this)
          refine W.bind (W.elem (by omega) ?_)
          simp only [mpush, mapp]
          by_cases q3 : (i + 1 + 1 == xs.size) = true
          · rw [if_pos q3]
            exact W.pure ⟨f1, f2, .inl ⟨_, rfl, L3.last T (by simpa using q3) hl⟩⟩
          · rw [if_neg q3]
            have q3' : ¬ i + 1 + 1 = xs.size := by simpa using q3
            refine W.ite (fun _ => ?_) (fun _ => ?_)
            · exact W.pure ⟨f1, f2, .inr ⟨rfl, _, rfl, L3, by show i + 1 + 1 < xs.size; omega, by show j + 1 + K' < ys.size; omega, by show i1 + j1 ≤ i + 1 + (j + 1 + K'); omega⟩⟩
            · exact W.pure ⟨f1, f2, rfl, _, rfl, L3, by show i + 1 + 1 < xs.size; omega, by show j + 1 + K' < ys.size; omega, by show i1 + j1 + (xs.size + ys.size) ≤ i + 1 + (j + 1 + K') + k ∧ i1 + j1 ≤ i + 1 + (j + 1 + K'); omega⟩
        · rw [if_neg z']
          have ek : K' = 0 := by omega
          have L3 := L2.stepA T (by omega) (by omega) (by have := hB2 0 (by omega) (by omega); simpa [bey] using this)
          refine W.bind (W.elem (by omega) ?_)
          simp only [mpush, mapp]
          by_cases q3 : (i + 1 + 1 == xs.size) = true
          · rw [if_pos q3]
            exact W.pure ⟨f1, f2, .inl ⟨_, rfl, L3.last T (by simpa using q3) hl⟩⟩
          · rw [if_neg q3]
            have q3' : ¬ i + 1 + 1 = xs.size := by simpa using q3
            refine W.ite (fun _ => ?_) (fun _ => ?_)
            · exact W.pure ⟨f1, f2, .inr ⟨rfl, _, rfl, L3, by show i + 1 + 1 < xs.size; omega, by show j + 1 < ys.size; omega, by show i1 + j1 ≤ i + 1 + (j + 1); omega⟩⟩
            · exact W.pure ⟨f1, f2, rfl, _, rfl, L3, by show i + 1 + 1 < xs.size; omega, by show j + 1 < ys.size; omega, by show i1 + j1 + (xs.size + ys.size) ≤ i + 1 + (j + 1) + k ∧ i1 + j1 ≤ i + 1 + (j + 1); omega⟩
  · rintro ⟨r, o, i, j, g, ca, cb⟩ b1 ⟨f1, f2, _, os, _, L, hi, hj, hk1, hk2⟩
    dsimp only at hi hj hk1 hk2
    exact absurd hk1 (by omega)
  obtain ⟨r, o, i2, j2, g2, ca, cb⟩ := c
  obtain ⟨f1, f2, hc⟩ := hc
  dsimp only at hc ⊢
  rcases hc with ⟨rs, e, hm⟩ | ⟨e, os2, eo, L, hi2, hj2, hk2⟩
  · subst e
    exact W.pure ⟨f1, f2, rs, rfl, hm⟩
  subst e eo
  dsimp only
  exact W.bind (W.setMG (W.pure ⟨f1, f2, rfl, _, rfl, L, hi2, hj2, by show xs.size + ys.size + 1 ≤ i2 + j2 + k; omega⟩))
end
end L2

namespace L2
open PySem PySem.Spec PyProof.Rows PySem.W
noncomputable def mHi : Array Keyed → Array Keyed → SM (Array Keyed) := sortPriv% PySem.Builtin.mergeHi
theorem mHi_eq (a b : Array Keyed) : mHi a b = (do
  rule "list.sort.merge-hi"
  let tt := a.size + b.size
  let dn (o : Array Keyed) (i j : Nat) := a.extract 0 i ++ b.extract 0 j ++ o.reverse
  let fb (o : Array Keyed) (i j : Nat) := b.extract 0 j ++ a.extract 0 i ++ o.reverse
  let mut i := a.size - 1
  let mut j := b.size
  let mut o : Array Keyed := #[← elem' a i]
  if i == 0 then return dn o i j
  if j == 1 then return fb o i j
  let mut mg := gallopOf (← get)
  for _ in [0:tt] do
    let mut ca := 0
    let mut cb := 0
    for _ in [0:tt] do
      let some aw ← lt' (← elem' b (j - 1)) (← elem' a (i - 1)) | return dn o i j
      if aw then
        i := i - 1; o := o.push (← elem' a i); ca := ca + 1; cb := 0
        if i == 0 then return dn o i j
        if ca ≥ mg then break
      else
        j := j - 1; o := o.push (← elem' b j); cb := cb + 1; ca := 0
        if j == 1 then return fb o i j
        if cb ≥ mg then break
    rule "list.sort.gallop"
    mg := mg + 1
    for _ in [0:tt] do
      if mg > 1 then mg := mg - 1
      setMG mg
      let some q ← gal false (← elem' b (j - 1)) a 0 i (i - 1) | return dn o i j
      let k := i - q
      ca := k
      if k > 0 then
        o := o ++ (a.extract q i).reverse; i := q
        if i == 0 then return dn o i j
      j := j - 1; o := o.push (← elem' b j)
      if j == 1 then return fb o i j
      let some q ← gal true (← elem' a (i - 1)) b 0 j (j - 1) | return dn o i j
      let k := j - q
      cb := k
      if k > 0 then
        o := o ++ (b.extract q j).reverse; j := q
        if j == 1 then return fb o i j
        if j == 0 then return dn o i j
      i := i - 1; o := o.push (← elem' a i)
      if i == 0 then return dn o i j
      if ca < 7 && cb < 7 then break
    mg := mg + 1
    setMG mg
  unsupported "internal:list.sort.merge-bound") := rfl
section
variable {O : Orc} {b : Ab} {xs ys os : Array Nat} {i j k : Nat}
structure Hw (O : Orc) (xs ys os : Array Nat) (i j : Nat) : Prop where
  pm : ((xs.toList.take i ++ ys.toList.take j) ++ os.toList.reverse).Perm (xs.toList ++ ys.toList)
  sa : (xs.toList.take i ++ os.toList.reverse).Pairwise (Ah O.lt)
  sb : (ys.toList.take j ++ os.toList.reverse).Pairwise (Ah O.lt)
  ti : i ≤ xs.size
  tj : j ≤ ys.size
theorem take_at {xs : Array Nat} {i : Nat} (h0 : 0 < i) (h : i ≤ xs.size) : xs.toList.take i = xs.toList.take (i - 1) ++ [xs.getD (i - 1) 0] := by
  obtain ⟨c, rfl⟩ : ∃ c, i = c + 1 := ⟨i - 1, by omega⟩
  have h' : c < xs.toList.length := by simp; omega
  rw [List.take_succ_eq_append_getElem h', Nat.add_sub_cancel]
  congr 2
  simp [Array.getD, show c < xs.size by omega]
theorem ext0 (xs : Array Nat) (i : Nat) : (xs.extract 0 i).toList = xs.toList.take i := by
  rw [Array.toList_extract, List.extract_eq_drop_take]; simp
theorem Hw.done (L : Hw O xs ys os i j) (h : i = 0) : Made O xs ys (xs.extract 0 i ++ ys.extract 0 j ++ os.reverse) := by
  subst h
  have e : (xs.extract 0 0 ++ ys.extract 0 j ++ os.reverse).toList = ys.toList.take j ++ os.toList.reverse := by rw [Array.toList_append, Array.toList_append, ext0, ext0]; simp
  have pm := L.pm
  rw [List.take_zero, List.nil_append] at pm
  exact ⟨by rw [e]; exact pm, by rw [e]; exact L.sb⟩
theorem Hw.done2 (L : Hw O xs ys os i j) (h : j = 0) : Made O xs ys (xs.extract 0 i ++ ys.extract 0 j ++ os.reverse) := by
  subst h
  have e : (xs.extract 0 i ++ ys.extract 0 0 ++ os.reverse).toList = xs.toList.take i ++ os.toList.reverse := by rw [Array.toList_append, Array.toList_append, ext0, ext0]; simp
  have pm := L.pm
  rw [List.take_zero, List.append_nil] at pm
  exact ⟨by rw [e]; exact pm, by rw [e]; exact L.sa⟩
theorem Hw.first (T : Two O xs ys) (L : Hw O xs ys os i j) (h : j = 1) (h0 : O.lt (ys.getD 0 0) (xs.getD 0 0) = true) : Made O xs ys (ys.extract 0 j ++ xs.extract 0 i ++ os.reverse) := by
  subst h
  have e : (ys.extract 0 1 ++ xs.extract 0 i ++ os.reverse).toList = (ys.toList.take 1 ++ xs.toList.take i) ++ os.toList.reverse := by rw [Array.toList_append, Array.toList_append, ext0, ext0]; simp
  have hd : ys.toList.take 1 = [ys.getD 0 0] := by rw [take_at (by omega) L.tj]; simp
  refine ⟨by rw [e]; exact (List.perm_append_comm.append_right _).trans L.pm, ?_⟩
  obtain ⟨s1, s2, s3⟩ := List.pairwise_append.mp L.sa
  obtain ⟨t1, t2, t3⟩ := List.pairwise_append.mp L.sb
  rw [e, hd]
  rw [hd] at t3
  refine List.pairwise_append.mpr ⟨?_, s2, fun a ha c hc => ?_⟩
  · refine List.pairwise_cons.mpr ⟨fun c hc => ?_, s1⟩
    have hc' : c ∈ xs.toList := List.mem_of_mem_take hc
    have hx := T.x1
    have ex : xs.toList = xs.getD 0 0 :: xs.toList.drop 1 := by have := drop_at (xs := xs) (i := 0) hx; simpa using this
    have sx := T.sx
    rw [ex] at hc' sx
    rcases List.mem_cons.mp hc' with rfl | hc'
    · exact Ah.of_lt T.H h0
    · exact (Ah.of_lt T.H h0).trans T.H ((List.pairwise_cons.mp sx).1 c hc')
  · rcases List.mem_append.mp ha with ha | ha
    · exact t3 a ha c hc
    · exact s3 a ha c hc
theorem Hw.stepA (T : Two O xs ys) (L : Hw O xs ys os i j) (hi : 0 < i) (hj : 0 < j) (h : O.lt (ys.getD (j - 1) 0) (xs.getD (i - 1) 0) = true) : Hw O xs ys (os.push (xs.getD (i - 1) 0)) (i - 1) j := by
  have e : (os.push (xs.getD (i - 1) 0)).toList.reverse = xs.getD (i - 1) 0 :: os.toList.reverse := by simp
  have ti := L.ti; have tj := L.tj
  have hx := take_at hi L.ti
  have pm := L.pm; have sa := L.sa; have sb := L.sb
  rw [hx] at pm sa
  have sa' : (xs.toList.take (i - 1) ++ (xs.getD (i - 1) 0 :: os.toList.reverse)).Pairwise (Ah O.lt) := by simpa using sa
  obtain ⟨s1, s2, s3⟩ := List.pairwise_append.mp sa'
  obtain ⟨t1, t2, t3⟩ := List.pairwise_append.mp sb
  refine ⟨?_, by rw [e]; exact sa', ?_, by omega, L.tj⟩
  · rw [e]
    refine List.Perm.trans ?_ pm
    have : ((xs.toList.take (i - 1) ++ [xs.getD (i - 1) 0]) ++ ys.toList.take j ++ os.toList.reverse) = xs.toList.take (i - 1) ++ (xs.getD (i - 1) 0 :: (ys.toList.take j ++ os.toList.reverse)) := by simp
    rw [this]
    have e2 : (xs.toList.take (i - 1) ++ ys.toList.take j) ++ (xs.getD (i - 1) 0 :: os.toList.reverse) = xs.toList.take (i - 1) ++ (ys.toList.take j ++ (xs.getD (i - 1) 0 :: os.toList.reverse)) := by simp
    rw [e2]
    exact List.Perm.append_left _ List.perm_middle
  · rw [e]
    have hy := take_at hj L.tj
    refine List.pairwise_append.mpr ⟨t1, s2, fun a ha c hc => ?_⟩
    rcases List.mem_cons.mp hc with rfl | hc
    · rw [hy] at ha t1
      rcases List.mem_append.mp ha with ha | ha
      · exact ((List.pairwise_append.mp t1).2.2 a ha _ (List.mem_singleton.mpr rfl)).trans T.H (Ah.of_lt T.H h)
      · rw [List.mem_singleton.mp ha]; exact Ah.of_lt T.H h
    · exact t3 a ha c hc
theorem Hw.stepB (T : Two O xs ys) (L : Hw O xs ys os i j) (hi : 0 < i) (hj : 0 < j) (h : O.lt (ys.getD (j - 1) 0) (xs.getD (i - 1) 0) = false) : Hw O xs ys (os.push (ys.getD (j - 1) 0)) i (j - 1) := by
  have e : (os.push (ys.getD (j - 1) 0)).toList.reverse = ys.getD (j - 1) 0 :: os.toList.reverse := by simp
  have ti := L.ti; have tj := L.tj
  have hy := take_at hj L.tj
  have pm := L.pm; have sa := L.sa; have sb := L.sb
  rw [hy] at pm sb
  have sb' : (ys.toList.take (j - 1) ++ (ys.getD (j - 1) 0 :: os.toList.reverse)).Pairwise (Ah O.lt) := by simpa using sb
  obtain ⟨s1, s2, s3⟩ := List.pairwise_append.mp sa
  obtain ⟨t1, t2, t3⟩ := List.pairwise_append.mp sb'
  refine ⟨?_, ?_, by rw [e]; exact sb', L.ti, by omega⟩
  · rw [e]
    have e2 : (xs.toList.take i ++ ys.toList.take (j - 1)) ++ (ys.getD (j - 1) 0 :: os.toList.reverse) = (xs.toList.take i ++ (ys.toList.take (j - 1) ++ [ys.getD (j - 1) 0])) ++ os.toList.reverse := by simp
    rw [e2]; exact pm
  · rw [e]
    have hx := take_at hi L.ti
    have h0 : Ah O.lt (xs.getD (i - 1) 0) (ys.getD (j - 1) 0) := T.ah (mem_at (by omega)) (mem_at (by omega)) h
    refine List.pairwise_append.mpr ⟨s1, t2, fun a ha c hc => ?_⟩
    rcases List.mem_cons.mp hc with rfl | hc
    · rw [hx] at ha s1
      rcases List.mem_append.mp ha with ha | ha
      · exact ((List.pairwise_append.mp s1).2.2 a ha _ (List.mem_singleton.mpr rfl)).trans T.H h0
      · rw [List.mem_singleton.mp ha]; exact h0
    · exact s3 a ha c hc
theorem push_rev {os xs : Array Nat} {K k : Nat} (h : K + k < xs.size) : os.push (xs.getD (K + k) 0) ++ (xs.extract K (K + k)).reverse = os ++ (xs.extract K (K + (k + 1))).reverse := by
  apply Array.toList_inj.mp
  have e : xs.getD (K + k) 0 = xs[K + k] := by simp [Array.getD, h]
  rw [e]
  have hl : k < (xs.toList.drop K).length := by simp; omega
  simp only [Array.toList_push, Array.toList_append, Array.toList_reverse, Array.toList_extract, List.append_assoc]
  rw [List.extract_eq_drop_take, List.extract_eq_drop_take, show K + k - K = k by omega, show K + (k + 1) - K = k + 1 by omega, List.take_succ_eq_append_getElem hl, List.reverse_append]
  simp
theorem Hw.manyA (T : Two O xs ys) (hj : 0 < j) {K : Nat} : ∀ (k : Nat) (os : Array Nat), Hw O xs ys os (K + k) j → (∀ d, K ≤ d → d < K + k → O.lt (ys.getD (j - 1) 0) (xs.getD d 0) = true) → Hw O xs ys (os ++ (xs.extract K (K + k)).reverse) K j
  | 0, os, L, _ => by
    have e : os ++ (xs.extract K (K + 0)).reverse = os := by apply Array.toList_inj.mp; simp
    rw [e]; exact L
  | k + 1, os, L, h => by
    have ti := L.ti
    have L' := L.stepA T (by omega) hj (h _ (by omega) (by omega))
    rw [show K + (k + 1) - 1 = K + k by omega] at L'
    have := Hw.manyA T hj k _ L' fun d h1 h2 => h d h1 (by omega)
    rw [push_rev (by omega)] at this
    exact this
theorem Hw.manyB (T : Two O xs ys) (hi : 0 < i) {K : Nat} : ∀ (k : Nat) (os : Array Nat), Hw O xs ys os i (K + k) → (∀ d, K ≤ d → d < K + k → O.lt (ys.getD d 0) (xs.getD (i - 1) 0) = false) → Hw O xs ys (os ++ (ys.extract K (K + k)).reverse) i K
  | 0, os, L, _ => by
    have e : os ++ (ys.extract K (K + 0)).reverse = os := by apply Array.toList_inj.mp; simp
    rw [e]; exact L
  | k + 1, os, L, h => by
    have tj := L.tj
    have L' := L.stepB T hi (by omega) (h _ (by omega) (by omega))
    rw [show K + (k + 1) - 1 = K + k by omega] at L'
    have := Hw.manyB T hi k _ L' fun d h1 h2 => h d h1 (by omega)
    rw [push_rev (by omega)] at this
    exact this
theorem Hw.manyA' (T : Two O xs ys) (L : Hw O xs ys os i j) (hj : 0 < j) {K : Nat} (hK : K ≤ i) (h : ∀ d, K ≤ d → d < i → O.lt (ys.getD (j - 1) 0) (xs.getD d 0) = true) : Hw O xs ys (os ++ (xs.extract K i).reverse) K j := by
  obtain ⟨k, rfl⟩ : ∃ k, i = K + k := ⟨i - K, by omega⟩
  exact Hw.manyA T hj k os L h
theorem Hw.manyB' (T : Two O xs ys) (L : Hw O xs ys os i j) (hi : 0 < i) {K : Nat} (hK : K ≤ j) (h : ∀ d, K ≤ d → d < j → O.lt (ys.getD d 0) (xs.getD (i - 1) 0) = false) : Hw O xs ys (os ++ (ys.extract K j).reverse) i K := by
  obtain ⟨k, rfl⟩ : ∃ k, j = K + k := ⟨j - K, by omega⟩
  exact Hw.manyB T hi k os L h
theorem W.mHi {Q : Array Keyed → Ab → Prop} (T : Two O xs ys) (h0 : O.lt (ys.getD 0 0) (xs.getD 0 0) = true) (hl : ∀ y ∈ ys.toList, O.lt y (xs.getD (xs.size - 1) 0) = true)
    (h : ∀ rs mg, Made O xs ys rs → Q (rs.map (kas_item O.it)) { b with mg := mg }) : W O (mHi (xs.map (kas_item O.it)) (ys.map (kas_item O.it))) Q b := by
  have x1 := T.x1
  have y1 := T.y1
  have tk : ∀ zs : Array Nat, zs.toList.take zs.size = zs.toList := fun zs => List.take_of_length_le (by simp)
  have L0 : Hw O xs ys #[] xs.size ys.size := ⟨by rw [tk, tk]; simp, by rw [tk]; simpa using T.sx, by rw [tk]; simpa using T.sy, Nat.le_refl _, Nat.le_refl _⟩
  have L1 := L0.stepA T x1 y1 (hl _ (mem_at (by omega)))
  have mpush : ∀ (os : Array Nat) (x : Nat), (os.map (kas_item O.it)).push (kas_item O.it x) = (os.push x).map (kas_item O.it) := fun os x => by rw [Array.map_push]
  have mapp : ∀ (os zs : Array Nat), os.map (kas_item O.it) ++ zs.map (kas_item O.it) = (os ++ zs).map (kas_item O.it) := fun os zs => by rw [Array.map_append]
  have mext : ∀ (zs : Array Nat) (i j : Nat), (zs.map (kas_item O.it)).extract i j = (zs.extract i j).map (kas_item O.it) := fun zs i j => by rw [Array.map_extract]
  have mrev : ∀ (zs : Array Nat), (zs.map (kas_item O.it)).reverse = zs.reverse.map (kas_item O.it) := fun zs => by rw [Array.map_reverse]
  rw [mHi_eq]
  refine W.bind (W.rule ?_)
  simp only [Array.size_map, mext]
  refine W.bind (W.elem (by omega) ?_)
  have e1 : #[kas_item O.it (xs.getD (xs.size - 1) 0)] = ((#[] : Array Nat).push (xs.getD (xs.size - 1) 0)).map (kas_item O.it) := by simp
  rw [e1]
  by_cases c1 : (xs.size - 1 == 0) = true
  · rw [if_pos c1]
    simp only [mapp, mrev]
    exact W.pure (h _ b.mg (L1.done (by simpa using c1)))
  rw [if_neg c1]
  by_cases c2 : (ys.size == 1) = true
  · rw [if_pos c2]
    simp only [mapp, mrev]
    exact W.pure (h _ b.mg (L1.first T (by simpa using c2) h0))
  rw [if_neg c2]
  refine W.bind (W.get ?_)
  have KA : ∀ i j, i ≤ xs.size → ∃ K, K ≤ i ∧ (∀ d, d < K → bey O false (ys.getD j 0) xs 0 d = true) ∧ ∀ d, K ≤ d → d < i → bey O false (ys.getD j 0) xs 0 d = false := fun i j hi => pre_ex _ fun c d h1 h2 h3 => T.monoA h1 (by omega) h3
  have KB : ∀ i j, j ≤ ys.size → ∃ K, K ≤ j ∧ (∀ d, d < K → bey O true (xs.getD i 0) ys 0 d = true) ∧ ∀ d, K ≤ d → d < j → bey O true (xs.getD i 0) ys 0 d = false := fun i j hj => pre_ex _ fun c d h1 h2 h3 => T.monoB h1 (by omega) h3
  have c1 : 1 < xs.size := by have : ¬ xs.size - 1 = 0 := by simpa using c1
                              omega
  have c2 : 1 < ys.size := by have : ¬ ys.size = 1 := by simpa using c2
                              omega
  refine W.bind (W.range (D := fun c b1 => b1.p = b.p ∧ b1.pd = b.pd ∧ ∃ rs : Array Nat, c.1 = some (rs.map (kas_item O.it)) ∧ Made O xs ys rs) (fun k c b1 => b1.p = b.p ∧ b1.pd = b.pd ∧ c.1 = none ∧ ∃ os : Array Nat, c.2.2.2.1 = os.map (kas_item O.it) ∧ Hw O xs ys os c.2.1 c.2.2.1 ∧ 0 < c.2.1 ∧ 1 < c.2.2.1 ∧ c.2.1 + c.2.2.1 + 1 ≤ k) ⟨rfl, rfl, rfl, _, rfl, L1, by show 0 < xs.size - 1; omega, c2, by show xs.size - 1 + ys.size + 1 ≤ xs.size + ys.size - 0; omega⟩ ?_ ?_ |>.mono fun c b1 hc => ?_)
  rotate_left
  · rintro ⟨r, i, j, o, g⟩ b1 ⟨f1, f2, _, os, _, L, hi, hj, hk⟩
    dsimp only at hi hj hk
    exact absurd hk (by omega)
  · obtain ⟨r, i, j, o, g⟩ := c
    obtain ⟨f1, f2, rs, e, hm⟩ := hc
    dsimp only at e ⊢
    subst e
    have := h rs b1.mg hm
    obtain ⟨p1, d1, m1⟩ := b1
    have f1 : p1 = b.p := f1
    have f2 : d1 = b.pd := f2
    subst f1 f2
    exact W.pure this
  rintro x k ⟨r, i0, j0, o, g0⟩ b1 ⟨f1, f2, e, os0, eo, L, hi0, hj0, hk⟩
  dsimp only at e eo hi0 hj0 hk L ⊢
  subst e eo
  have tI := L.ti; have tJ := L.tj
  refine W.bind (W.range (D := fun c b1 => b1.p = b.p ∧ b1.pd = b.pd ∧ ((∃ rs : Array Nat, c.1 = some (rs.map (kas_item O.it)) ∧ Made O xs ys rs) ∨ (c.1 = none ∧ ∃ os : Array Nat, c.2.2.2.1 = os.map (kas_item O.it) ∧ Hw O xs ys os c.2.1 c.2.2.1 ∧ 0 < c.2.1 ∧ 1 < c.2.2.1 ∧ c.2.1 + c.2.2.1 + 1 ≤ i0 + j0))) (fun k c b1 => b1.p = b.p ∧ b1.pd = b.pd ∧ c.1 = none ∧ ∃ os : Array Nat, c.2.2.2.1 = os.map (kas_item O.it) ∧ Hw O xs ys os c.2.1 c.2.2.1 ∧ 0 < c.2.1 ∧ 1 < c.2.2.1 ∧ c.2.1 + c.2.2.1 + (xs.size + ys.size) ≤ i0 + j0 + k ∧ c.2.1 + c.2.2.1 ≤ i0 + j0) ⟨f1, f2, rfl, _, rfl, L, hi0, hj0, by show i0 + j0 + (xs.size + ys.size) ≤ i0 + j0 + (xs.size + ys.size - 0) ∧ i0 + j0 ≤ i0 + j0; omega⟩ ?_ ?_ |>.mono fun c b1 hc => ?_)
  · rintro x k ⟨r, i, j, o, ca, cb⟩ b1 ⟨f1, f2, e, os, eo, L, hi, hj, hk1, hk2⟩
    dsimp only at e eo hi hj hk1 hk2 L ⊢
    subst e eo
    have ti := L.ti; have tj := L.tj
    refine W.bind (W.elem (by omega) (W.bind (W.elem (by omega) (W.bind (W.lt (T.ny _ (by omega)) (T.nx _ (by omega)) ?_)))))
    cases e : O.lt (ys.getD (j - 1) 0) (xs.getD (i - 1) 0) with
    | true =>
      have L' := L.stepA T hi (by omega) e
      simp only [if_true]
      refine W.bind (W.elem (by omega) ?_)
      simp only [mpush, mapp, mrev]
      by_cases q : (i - 1 == 0) = true
      · rw [if_pos q]
        exact W.pure ⟨f1, f2, .inl ⟨_, rfl, L'.done (by simpa using q)⟩⟩
      · rw [if_neg q]
        have q' : ¬ i - 1 = 0 := by simpa using q
        refine W.ite (fun _ => ?_) (fun _ => ?_)
        · exact W.pure ⟨f1, f2, .inr ⟨rfl, _, rfl, L', by show 0 < i - 1; omega, hj, by show i - 1 + j + 1 ≤ i0 + j0; omega⟩⟩
        · exact W.pure ⟨f1, f2, rfl, _, rfl, L', by show 0 < i - 1; omega, hj, by show i - 1 + j + (xs.size + ys.size) ≤ i0 + j0 + k ∧ i - 1 + j ≤ i0 + j0; omega⟩
    | false =>
      have L' := L.stepB T hi (by omega) e
      simp only [Bool.false_eq_true, if_false]
      refine W.bind (W.elem (by omega) ?_)
      simp only [mpush, mapp, mrev]
      by_cases q : (j - 1 == 1) = true
      · rw [if_pos q]
        exact W.pure ⟨f1, f2, .inl ⟨_, rfl, L'.first T (by simpa using q) h0⟩⟩
      · rw [if_neg q]
        have q' : ¬ j - 1 = 1 := by simpa using q
        refine W.ite (fun _ => ?_) (fun _ => ?_)
        · exact W.pure ⟨f1, f2, .inr ⟨rfl, _, rfl, L', hi, by show 1 < j - 1; omega, by show i + (j - 1) + 1 ≤ i0 + j0; omega⟩⟩
        · exact W.pure ⟨f1, f2, rfl, _, rfl, L', hi, by show 1 < j - 1; omega, by show i + (j - 1) + (xs.size + ys.size) ≤ i0 + j0 + k ∧ i + (j - 1) ≤ i0 + j0; omega⟩
  · rintro ⟨r, i, j, o, ca, cb⟩ b1 ⟨f1, f2, _, os, _, L, hi, hj, hk1, hk2⟩
    dsimp only at hi hj hk1 hk2
    exact absurd hk1 (by omega)
  obtain ⟨r, i1, j1, o, ca, cb⟩ := c
  obtain ⟨f1, f2, hc⟩ := hc
  dsimp only at hc ⊢
  rcases hc with ⟨rs, e, hm⟩ | ⟨e, os1, eo, L, hi1, hj1, hk1⟩
  · subst e
    exact W.pure ⟨f1, f2, rs, rfl, hm⟩
  subst e eo
  dsimp only
  refine W.bind (W.rule ?_)
  refine W.bind (W.range (D := fun c b1 => b1.p = b.p ∧ b1.pd = b.pd ∧ ((∃ rs : Array Nat, c.1 = some (rs.map (kas_item O.it)) ∧ Made O xs ys rs) ∨ (c.1 = none ∧ ∃ os : Array Nat, c.2.2.2.1 = os.map (kas_item O.it) ∧ Hw O xs ys os c.2.1 c.2.2.1 ∧ 0 < c.2.1 ∧ 1 < c.2.2.1 ∧ c.2.1 + c.2.2.1 ≤ i1 + j1))) (fun k c b1 => b1.p = b.p ∧ b1.pd = b.pd ∧ c.1 = none ∧ ∃ os : Array Nat, c.2.2.2.1 = os.map (kas_item O.it) ∧ Hw O xs ys os c.2.1 c.2.2.1 ∧ 0 < c.2.1 ∧ 1 < c.2.2.1 ∧ c.2.1 + c.2.2.1 + (xs.size + ys.size) ≤ i1 + j1 + k ∧ c.2.1 + c.2.2.1 ≤ i1 + j1) ⟨f1, f2, rfl, _, rfl, L, hi1, hj1, by show i1 + j1 + (xs.size + ys.size) ≤ i1 + j1 + (xs.size + ys.size - 0) ∧ i1 + j1 ≤ i1 + j1; omega⟩ ?_ ?_ |>.mono fun c b1 hc => ?_)
  · rintro x k ⟨r, i, j, o, g, ca, cb⟩ b1 ⟨f1, f2, e, os, eo, L, hi, hj, hk1, hk2⟩
    dsimp only at e eo hi hj hk1 hk2 L ⊢
    subst e eo
    have ti := L.ti; have tj := L.tj
    obtain ⟨K, hK, hK1, hK2⟩ := KA i (j - 1) ti
    have LK := L.manyA' T (by omega) hK fun d h1 h2 => by have := hK2 d h1 h2; simpa [bey] using this
    by_cases hg : g > 1
    · rw [if_pos hg]
      refine W.bind (W.setMG ?_)
      refine W.bind (W.elem (by omega) (W.bind (W.gal (K := K) (T.ny _ (by omega)) T.nx (by omega) (by omega) hK hK1 hK2 ?_)))
      dsimp only
      by_cases z : i - K > 0
      · rw [if_pos z]
        simp only [mapp, mrev]
        by_cases q : (K == 0) = true
        · rw [if_pos q]
          exact W.pure ⟨f1, f2, .inl ⟨_, rfl, LK.done (by simpa using q)⟩⟩
        rw [if_neg q]
        have q' : ¬ K = 0 := by simpa using q
        have L2 := LK.stepB T (by omega) (by omega) (by have := hK1 (K - 1) (by omega); simpa [bey] using this)
        have ti2 := L2.ti; have tj2 := L2.tj
        refine W.bind (W.elem (by omega) ?_)
        simp only [mpush, mapp, mrev]
        by_cases q2 : (j - 1 == 1) = true
        · rw [if_pos q2]
          exact W.pure ⟨f1, f2, .inl ⟨_, rfl, L2.first T (by simpa using q2) h0⟩⟩
        rw [if_neg q2]
        have q2' : ¬ j - 1 = 1 := by simpa using q2
        obtain ⟨K', hK', hB1, hB2⟩ := KB (K - 1) (j - 1) (by omega)
        have LB := L2.manyB' T (by omega) hK' fun d h1 h2 => by have := hB2 d h1 h2; simpa [bey] using this
        refine W.bind (W.elem (by omega) (W.bind (W.gal (K := K') (T.nx _ (by omega)) T.ny (by omega) (by omega) hK' hB1 hB2 ?_)))
        dsimp only
        by_cases z' : j - 1 - K' > 0
        · rw [if_pos z']
          try simp only [mapp, mrev]
          by_cases q4 : (K' == 1) = true
          · rw [if_pos q4]
            exact W.pure ⟨f1, f2, .inl ⟨_, rfl, LB.first T (by simpa using q4) h0⟩⟩
          rw [if_neg q4]
          have q4' : ¬ K' = 1 := by simpa using q4
          by_cases q5 : (K' == 0) = true
          · rw [if_pos q5]
            exact W.pure ⟨f1, f2, .inl ⟨_, rfl, LB.done2 (by simpa using q5)⟩⟩
          rw [if_neg q5]
          have q5' : ¬ K' = 0 := by simpa using q5
          have L3 := LB.stepA T (by omega) (by omega) (by have := hB1 (K' - 1) (by omega); simpa [bey] using this)
          refine W.bind (W.elem (by omega) ?_)
          simp only [mpush, mapp, mrev]
          by_cases q3 : (K - 1 == 0) = true
          · rw [if_pos q3]
            exact W.pure ⟨f1, f2, .inl ⟨_, rfl, L3.done (by simpa using q3)⟩⟩
          · rw [if_neg q3]
            have q3' : ¬ K - 1 = 0 := by simpa using q3
            refine W.ite (fun _ => ?_) (fun _ => ?_)
            · exact W.pure ⟨f1, f2, .inr ⟨rfl, _, rfl, L3, by show 0 < K - 1; omega, by show 1 < K'; omega, by show K - 1 + (K') ≤ i1 + j1; omega⟩⟩
            · exact W.pure ⟨f1, f2, rfl, _, rfl, L3, by show 0 < K - 1; omega, by show 1 < K'; omega, by show K - 1 + (K') + (xs.size + ys.size) ≤ i1 + j1 + k ∧ K - 1 + (K') ≤ i1 + j1; omega⟩
        · rw [if_neg z']
          have L3 := L2.stepA T (by omega) (by omega) (by have := hB1 (j - 1 - 1) (by omega); simpa [bey] using this)
          refine W.bind (W.elem (by omega) ?_)
          simp only [mpush, mapp, mrev]
          by_cases q3 : (K - 1 == 0) = true
          · rw [if_pos q3]
            exact W.pure ⟨f1, f2, .inl ⟨_, rfl, L3.done (by simpa using q3)⟩⟩
          · rw [if_neg q3]
            have q3' : ¬ K - 1 = 0 := by simpa using q3
            refine W.ite (fun _ => ?_) (fun _ => ?_)
            · exact W.pure ⟨f1, f2, .inr ⟨rfl, _, rfl, L3, by show 0 < K - 1; omega, by show 1 < j - 1; omega, by show K - 1 + (j - 1) ≤ i1 + j1; omega⟩⟩
            · exact W.pure ⟨f1, f2, rfl, _, rfl, L3, by show 0 < K - 1; omega, by show 1 < j - 1; omega, by show K - 1 + (j - 1) + (xs.size + ys.size) ≤ i1 + j1 + k ∧ K - 1 + (j - 1) ≤ i1 + j1; omega⟩
      · rw [if_neg z]
        have L2 := L.stepB T (by omega) (by omega) (by have := hK1 (i - 1) (by omega); simpa [bey] using this)
        have ti2 := L2.ti; have tj2 := L2.tj
        refine W.bind (W.elem (by omega) ?_)
        simp only [mpush, mapp, mrev]
        by_cases q2 : (j - 1 == 1) = true
        · rw [if_pos q2]
          exact W.pure ⟨f1, f2, .inl ⟨_, rfl, L2.first T (by simpa using q2) h0⟩⟩
        rw [if_neg q2]
        have q2' : ¬ j - 1 = 1 := by simpa using q2
        obtain ⟨K', hK', hB1, hB2⟩ := KB (i - 1) (j - 1) (by omega)
        have LB := L2.manyB' T (by omega) hK' fun d h1 h2 => by have := hB2 d h1 h2; simpa [bey] using this
        refine W.bind (W.elem (by omega) (W.bind (W.gal (K := K') (T.nx _ (by omega)) T.ny (by omega) (by omega) hK' hB1 hB2 ?_)))
        dsimp only
        by_cases z' : j - 1 - K' > 0
        · rw [if_pos z']
          try simp only [mapp, mrev]
          by_cases q4 : (K' == 1) = true
          · rw [if_pos q4]
            exact W.pure ⟨f1, f2, .inl ⟨_, rfl, LB.first T (by simpa using q4) h0⟩⟩
          rw [if_neg q4]
          have q4' : ¬ K' = 1 := by simpa using q4
          by_cases q5 : (K' == 0) = true
          · rw [if_pos q5]
            exact W.pure ⟨f1, f2, .inl ⟨_, rfl, LB.done2 (by simpa using q5)⟩⟩
          rw [if_neg q5]
          have q5' : ¬ K' = 0 := by simpa using q5
          have L3 := LB.stepA T (by omega) (by omega) (by have := hB1 (K' - 1) (by omega); simpa [bey] using this)
          refine W.bind (W.elem (by omega) ?_)
          simp only [mpush, mapp, mrev]
          by_cases q3 : (i - 1 == 0) = true
          · rw [if_pos q3]
            exact W.pure ⟨f1, f2, .inl ⟨_, rfl, L3.done (by simpa using q3)⟩⟩
          · rw [if_neg q3]
            have q3' : ¬ i - 1 = 0 := by simpa using q3
            refine W.ite (fun _ => ?_) (fun _ => ?_)
            · exact W.pure ⟨f1, f2, .inr ⟨rfl, _, rfl, L3, by show 0 < i - 1; omega, by show 1 < K'; omega, by show i - 1 + (K') ≤ i1 + j1; omega⟩⟩
            · exact W.pure ⟨f1, f2, rfl, _, rfl, L3, by show 0 < i - 1; omega, by show 1 < K'; omega, by show i - 1 + (K') + (xs.size + ys.size) ≤ i1 + j1 + k ∧ i - 1 + (K') ≤ i1 + j1; omega⟩
        · rw [if_neg z']
          have L3 := L2.stepA T (by omega) (by omega) (by have := hB1 (j - 1 - 1) (by omega); simpa [bey] using this)
          refine W.bind (W.elem (by omega) ?_)
          simp only [mpush, mapp, mrev]
          by_cases q3 : (i - 1 == 0) = true
          · rw [if_pos q3]
            exact W.pure ⟨f1, f2, .inl ⟨_, rfl, L3.done (by simpa using q3)⟩⟩
          · rw [if_neg q3]
            have q3' : ¬ i - 1 = 0 := by simpa using q3
            refine W.ite (fun _ => ?_) (fun _ => ?_)
            · exact W.pure ⟨f1, f2, .inr ⟨rfl, _, rfl, L3, by show 0 < i - 1; omega, by show 1 < j - 1; omega, by show i - 1 + (j - 1) ≤ i1 + j1; omega⟩⟩
            · exact W.pure ⟨f1, f2, rfl, _, rfl, L3, by show 0 < i - 1; omega, by show 1 < j - 1; omega, by show i - 1 + (j - 1) + (xs.size + ys.size) ≤ i1 + j1 + k ∧ i - 1 + (j - 1) ≤ i1 + j1; omega⟩
    · rw [if_neg hg]
      refine W.bind (W.setMG ?_)
      refine W.bind (W.elem (by omega) (W.bind (W.gal (K := K) (T.ny _ (by omega)) T.nx (by omega) (by omega) hK hK1 hK2 ?_)))
      dsimp only
      by_cases z : i - K > 0
      · rw [if_pos z]
        simp only [mapp, mrev]
        by_cases q : (K == 0) = true
        · rw [if_pos q]
          exact W.pure ⟨f1, f2, .inl ⟨_, rfl, LK.done (by simpa using q)⟩⟩
        rw [if_neg q]
        have q' : ¬ K = 0 := by simpa using q
        have L2 := LK.stepB T (by omega) (by omega) (by have := hK1 (K - 1) (by omega); simpa [bey] using this)
        have ti2 := L2.ti; have tj2 := L2.tj
        refine W.bind (W.elem (by omega) ?_)
        simp only [mpush, mapp, mrev]
        by_cases q2 : (j - 1 == 1) = true
        · rw [if_pos q2]
          exact W.pure ⟨f1, f2, .inl ⟨_, rfl, L2.first T (by simpa using q2) h0⟩⟩
        rw [if_neg q2]
        have q2' : ¬ j - 1 = 1 := by simpa using q2
        obtain ⟨K', hK', hB1, hB2⟩ := KB (K - 1) (j - 1) (by omega)
        have LB := L2.manyB' T (by omega) hK' fun d h1 h2 => by have := hB2 d h1 h2; simpa [bey] using this
        refine W.bind (W.elem (by omega) (W.bind (W.gal (K := K') (T.nx _ (by omega)) T.ny (by omega) (by omega) hK' hB1 hB2 ?_)))
        dsimp only
        by_cases z' : j - 1 - K' > 0
        · rw [if_pos z']
          try simp only [mapp, mrev]
          by_cases q4 : (K' == 1) = true
          · rw [if_pos q4]
            exact W.pure ⟨f1, f2, .inl ⟨_, rfl, LB.first T (by simpa using q4) h0⟩⟩
          rw [if_neg q4]
          have q4' : ¬ K' = 1 := by simpa using q4
          by_cases q5 : (K' == 0) = true
          · rw [if_pos q5]
            exact W.pure ⟨f1, f2, .inl ⟨_, rfl, LB.done2 (by simpa using q5)⟩⟩
          rw [if_neg q5]
          have q5' : ¬ K' = 0 := by simpa using q5
          have L3 := LB.stepA T (by omega) (by omega) (by have := hB1 (K' - 1) (by omega); simpa [bey] using this)
          refine W.bind (W.elem (by omega) ?_)
          simp only [mpush, mapp, mrev]
          by_cases q3 : (K - 1 == 0) = true
          · rw [if_pos q3]
            exact W.pure ⟨f1, f2, .inl ⟨_, rfl, L3.done (by simpa using q3)⟩⟩
          · rw [if_neg q3]
            have q3' : ¬ K - 1 = 0 := by simpa using q3
            refine W.ite (fun _ => ?_) (fun _ => ?_)
            · exact W.pure ⟨f1, f2, .inr ⟨rfl, _, rfl, L3, by show 0 < K - 1; omega, by show 1 < K'; omega, by show K - 1 + (K') ≤ i1 + j1; omega⟩⟩
            · exact W.pure ⟨f1, f2, rfl, _, rfl, L3, by show 0 < K - 1; omega, by show 1 < K'; omega, by show K - 1 + (K') + (xs.size + ys.size) ≤ i1 + j1 + k ∧ K - 1 + (K') ≤ i1 + j1; omega⟩
        · rw [if_neg z']
          have L3 := L2.stepA T (by omega) (by omega) (by have := hB1 (j - 1 - 1) (by omega); simpa [bey] using this)
          refine W.bind (W.elem (by omega) ?_)
          simp only [mpush, mapp, mrev]
          by_cases q3 : (K - 1 == 0) = true
          · rw [if_pos q3]
            exact W.pure ⟨f1, f2, .inl ⟨_, rfl, L3.done (by simpa using q3)⟩⟩
          · rw [if_neg q3]
            have q3' : ¬ K - 1 = 0 := by simpa using q3
            refine W.ite (fun _ => ?_) (fun _ => ?_)
            · exact W.pure ⟨f1, f2, .inr ⟨rfl, _, rfl, L3, by show 0 < K - 1; omega, by show 1 < j - 1; omega, by show K - 1 + (j - 1) ≤ i1 + j1; omega⟩⟩
            · exact W.pure ⟨f1, f2, rfl, _, rfl, L3, by show 0 < K - 1; omega, by show 1 < j - 1; omega, by show K - 1 + (j - 1) + (xs.size + ys.size) ≤ i1 + j1 + k ∧ K - 1 + (j - 1) ≤ i1 + j1; omega⟩
      · rw [if_neg z]
        have L2 := L.stepB T (by omega) (by omega) (by have := hK1 (i - 1) (by omega); simpa [bey] using this)
        have ti2 := L2.ti; have tj2 := L2.tj
        refine W.bind (W.elem (by omega) ?_)
        simp only [mpush, mapp, mrev]
        by_cases q2 : (j - 1 == 1) = true
        · rw [if_pos q2]
          exact W.pure ⟨f1, f2, .inl ⟨_, rfl, L2.first T (by simpa using q2) h0⟩⟩
        rw [if_neg q2]
        have q2' : ¬ j - 1 = 1 := by simpa using q2
        obtain ⟨K', hK', hB1, hB2⟩ := KB (i - 1) (j - 1) (by omega)
        have LB := L2.manyB' T (by omega) hK' fun d h1 h2 => by have := hB2 d h1 h2; simpa [bey] using this
        refine W.bind (W.elem (by omega) (W.bind (W.gal (K := K') (T.nx _ (by omega)) T.ny (by omega) (by omega) hK' hB1 hB2 ?_)))
        dsimp only
        by_cases z' : j - 1 - K' > 0
        · rw [if_pos z']
          try simp only [mapp, mrev]
          by_cases q4 : (K' == 1) = true
          · rw [if_pos q4]
            exact W.pure ⟨f1, f2, .inl ⟨_, rfl, LB.first T (by simpa using q4) h0⟩⟩
          rw [if_neg q4]
          have q4' : ¬ K' = 1 := by simpa using q4
          by_cases q5 : (K' == 0) = true
          · rw [if_pos q5]
            exact W.pure ⟨f1, f2, .inl ⟨_, rfl, LB.done2 (by simpa using q5)⟩⟩
          rw [if_neg q5]
          have q5' : ¬ K' = 0 := by simpa using q5
          have L3 := LB.stepA T (by omega) (by omega) (by have := hB1 (K' - 1) (by omega); simpa [bey] using this)
          refine W.bind (W.elem (by omega) ?_)
          simp only [mpush, mapp, mrev]
          by_cases q3 : (i - 1 == 0) = true
          · rw [if_pos q3]
            exact W.pure ⟨f1, f2, .inl ⟨_, rfl, L3.done (by simpa using q3)⟩⟩
          · rw [if_neg q3]
            have q3' : ¬ i - 1 = 0 := by simpa using q3
            refine W.ite (fun _ => ?_) (fun _ => ?_)
            · exact W.pure ⟨f1, f2, .inr ⟨rfl, _, rfl, L3, by show 0 < i - 1; omega, by show 1 < K'; omega, by show i - 1 + (K') ≤ i1 + j1; omega⟩⟩
            · exact W.pure ⟨f1, f2, rfl, _, rfl, L3, by show 0 < i - 1; omega, by show 1 < K'; omega, by show i - 1 + (K') + (xs.size + ys.size) ≤ i1 + j1 + k ∧ i - 1 + (K') ≤ i1 + j1; omega⟩
        · rw [if_neg z']
          have L3 := L2.stepA T (by omega) (by omega) (by have := hB1 (j - 1 - 1) (by omega); simpa [bey] using this)
          refine W.bind (W.elem (by omega) ?_)
          simp only [mpush, mapp, mrev]
          by_cases q3 : (i - 1 == 0) = true
          · rw [if_pos q3]
            exact W.pure ⟨f1, f2, .inl ⟨_, rfl, L3.done (by simpa using q3)⟩⟩
          · rw [if_neg q3]
            have q3' : ¬ i - 1 = 0 := by simpa using q3
            refine W.ite (fun _ => ?_) (fun _ => ?_)
            · exact W.pure ⟨f1, f2, .inr ⟨rfl, _, rfl, L3, by show 0 < i - 1; omega, by show 1 < j - 1; omega, by show i - 1 + (j - 1) ≤ i1 + j1; omega⟩⟩
            · exact W.pure ⟨f1, f2, rfl, _, rfl, L3, by show 0 < i - 1; omega, by show 1 < j - 1; omega, by show i - 1 + (j - 1) + (xs.size + ys.size) ≤ i1 + j1 + k ∧ i - 1 + (j - 1) ≤ i1 + j1; omega⟩
  · rintro ⟨r, i, j, o, g, ca, cb⟩ b1 ⟨f1, f2, _, os, _, L, hi, hj, hk1, hk2⟩
    dsimp only at hi hj hk1 hk2
    exact absurd hk1 (by omega)
  obtain ⟨r, i2, j2, o, g2, ca, cb⟩ := c
  obtain ⟨f1, f2, hc⟩ := hc
  dsimp only at hc ⊢
  rcases hc with ⟨rs, e, hm⟩ | ⟨e, os2, eo, L, hi2, hj2, hk2⟩
  · subst e
    exact W.pure ⟨f1, f2, rs, rfl, hm⟩
  subst e eo
  dsimp only
  exact W.bind (W.setMG (W.pure ⟨f1, f2, rfl, _, rfl, L, hi2, hj2, by show i2 + j2 + 1 ≤ k; omega⟩))
end
end L2

namespace L2
open PySem PySem.Spec PyProof.Rows PySem.W
theorem mAt_eq (n : Nat) : mergeAt' n = (do
  let st ← get
  let (some (u, nu, pw), some (v, nv, _)) := ((pendingOf st)[n]?, (pendingOf st)[n + 1]?) | unsupported "internal:list.sort.pending"
  set (setPending st (((pendingOf st).setIfInBounds n (u, nu + nv, pw)).eraseIdxIfInBounds (n + 1)))
  let some k ← gal false (← elem' (arrOf st) v) (arrOf st) u nu 0 | return false
  let (u, nu) := (u + k, nu - k)
  if nu == 0 then return true
  let some nv ← gal true (← elem' (arrOf st) (u + nu - 1)) (arrOf st) v nv (nv - 1) | return false
  if nv == 0 then return true
  let X := (arrOf st).extract u v
  let Y := (arrOf st).extract v (v + nv)
  let R ← if nu ≤ nv then mLo X Y else mHi X Y
  modify fun st => setArr st (R.toList.zipIdx.foldl (fun z (q, j) => z.setIfInBounds (u + j) q) (arrOf st))
  return (failedOf (← get)).isNone) := rfl
theorem fold_set {α : Type} : ∀ (l : List α) (k s : Nat) (z : Array α), s + k + l.length ≤ z.size →
    ((l.zipIdx k).foldl (fun z x => z.setIfInBounds (s + x.2) x.1) z).toList = z.toList.take (s + k) ++ l ++ z.toList.drop (s + k + l.length)
  | [], k, s, z, h => by simp
  | x :: l, k, s, z, h => by
    rw [List.zipIdx_cons, List.foldl_cons]
    have ih := fold_set l (k + 1) s (z.setIfInBounds (s + k) x) (by rw [Array.size_setIfInBounds]; simp at h; omega)
    rw [ih]
    have hz : s + k < z.toList.length := by simp at h ⊢; omega
    rw [Array.toList_setIfInBounds]
    have e1 : (z.toList.set (s + k) x).take (s + (k + 1)) = z.toList.take (s + k) ++ [x] := by
      rw [show s + (k + 1) = s + k + 1 by omega, List.take_succ_eq_append_getElem (by simpa using hz)]
      rw [List.getElem_set_self, List.take_set_of_le (Nat.le_refl _)]
    have e2 : (z.toList.set (s + k) x).drop (s + (k + 1) + l.length) = z.toList.drop (s + (k + 1) + l.length) := by
      rw [List.drop_set, if_pos (by omega)]
    rw [e1, e2]
    simp only [List.append_assoc, List.cons_append, List.nil_append, List.length_cons]
    rw [show s + (k + 1) + l.length = s + k + (l.length + 1) by omega]
section
variable {O : Orc} {b : Ab}
theorem W.set {st : SortSt} {Q : PUnit → Ab → Prop} (b' : Ab) (e : st = b'.st O) (h : Q ⟨⟩ b') : W O (MonadStateOf.set st : SM PUnit) Q b := fun s hs => by
  unfold kasC
  show wpAny _ _ ((StateT.set st : SM PUnit).run (b.st O)) _ _ s
  exact wpAny_pure ⟨hs, b', e, h⟩
theorem gd {p : Array Nat} {pre l : List Nat} (h : p.toList = pre ++ l) (d : Nat) : p.getD (pre.length + d) 0 = l.getD d 0 := by
  have : p.getD (pre.length + d) 0 = p.toList.getD (pre.length + d) 0 := by
    by_cases q : pre.length + d < p.size
    · simp [Array.getD, q]
    · have q' : ¬ pre.length + d < p.toList.length := by simpa using q
      simp [Array.getD, q, List.getD, List.getElem?_eq_none (Nat.le_of_not_lt q')]
  rw [this, h]
  simp [List.getD, List.getElem?_append_right]
theorem gl {l : List Nat} {d : Nat} (h : d < l.length) : l.getD d 0 = l[d] := by simp [List.getD, h]
structure Nb (O : Orc) (p : Array Nat) (pre R1 R2 suf : List Nat) : Prop where
  H : Lt O.lt
  e : p.toList = pre ++ (R1 ++ (R2 ++ suf))
  nn : ∀ k, k < p.size → p.getD k 0 < O.N
  s1 : R1.Pairwise (Ah O.lt)
  s2 : R2.Pairwise (Ah O.lt)
  xy : ∀ x ∈ R1, ∀ y ∈ R2, x < y
  l1 : 0 < R1.length
  l2 : 0 < R2.length
theorem W.mAt {p : Array Nat} {pd : Array (Nat × Nat × Nat)} {mg n pw pw2 : Nat} {pre R1 R2 suf : List Nat} {Q : Bool → Ab → Prop} (T : Nb O p pre R1 R2 suf) (d1 : pd[n]? = some (pre.length, R1.length, pw)) (d2 : pd[n + 1]? = some (pre.length + R1.length, R2.length, pw2))
    (h : ∀ (M : List Nat) (p' : Array Nat) mg', M.Perm (R1 ++ R2) → M.Pairwise (Ah O.lt) → p'.toList = pre ++ (M ++ suf) → Q true ⟨p', (pd.setIfInBounds n (pre.length, R1.length + R2.length, pw)).eraseIdxIfInBounds (n + 1), mg'⟩) : W O (mergeAt' n) Q ⟨p, pd, mg⟩ := by
  have l1 := T.l1
  have l2 := T.l2
  have hz : p.size = pre.length + (R1.length + (R2.length + suf.length)) := by rw [← Array.length_toList, T.e]; simp
  have g1 : ∀ d, d < R1.length → p.getD (pre.length + d) 0 = R1.getD d 0 := fun d hd => by
    rw [gd T.e, gl (by simp; omega), gl hd, List.getElem_append_left hd]
  have e2 : p.toList = (pre ++ R1) ++ (R2 ++ suf) := by rw [T.e]; simp
  have g2 : ∀ d, d < R2.length → p.getD (pre.length + R1.length + d) 0 = R2.getD d 0 := fun d hd => by
    have := gd e2 d
    rw [List.length_append] at this
    rw [this, gl (by simp; omega), gl hd, List.getElem_append_left hd]
  have m1 : ∀ d, d < R1.length → R1.getD d 0 ∈ R1 := fun d hd => by rw [gl hd]; exact List.getElem_mem hd
  have m2 : ∀ d, d < R2.length → R2.getD d 0 ∈ R2 := fun d hd => by rw [gl hd]; exact List.getElem_mem hd
  have a1 : ∀ c d, c < d → d < R1.length → Ah O.lt (R1.getD c 0) (R1.getD d 0) := fun c d hc hd => by
    rw [gl hd, gl (by omega)]; exact List.pairwise_iff_getElem.mp T.s1 c d (by omega) hd hc
  have a2 : ∀ c d, c < d → d < R2.length → Ah O.lt (R2.getD c 0) (R2.getD d 0) := fun c d hc hd => by
    rw [gl hd, gl (by omega)]; exact List.pairwise_iff_getElem.mp T.s2 c d (by omega) hd hc
  rw [mAt_eq]
  refine W.bind (W.get ?_)
  have hp : pendingOf (Ab.st O ⟨p, pd, mg⟩) = pd := rfl
  have ha : arrOf (Ab.st O ⟨p, pd, mg⟩) = p.map (kas_item O.it) := rfl
  simp only [hp, ha, d1, d2]
  refine W.bind (W.set ⟨p, (pd.setIfInBounds n (pre.length, R1.length + R2.length, pw)).eraseIdxIfInBounds (n + 1), mg⟩ rfl ?_)
  generalize (pd.setIfInBounds n (pre.length, R1.length + R2.length, pw)).eraseIdxIfInBounds (n + 1) = pd' at h ⊢
  -- the first of the second run, looked for in the first
  obtain ⟨K, hK, k1, k2⟩ := pre_ex (P := fun d => bey O false (p.getD (pre.length + R1.length) 0) p pre.length d) R1.length (fun c d h1 h2 h3 => by
    simp only [bey, Bool.false_eq_true, if_false, Bool.not_eq_true'] at h3 ⊢
    rcases Nat.eq_or_lt_of_le h1 with rfl | h1
    · exact h3
    · rw [g1 d h2] at h3; rw [g1 c (by omega)]
      exact T.H.tr _ _ _ h3 (a1 c d h1 h2).1)
  have y0 : p.getD (pre.length + R1.length) 0 = R2.getD 0 0 := g2 0 l2
  have k1' : ∀ d, d < K → O.lt (R2.getD 0 0) (R1.getD d 0) = false := fun d hd => by
    have := k1 d hd
    simp only [bey, Bool.false_eq_true, if_false, Bool.not_eq_true'] at this
    rwa [y0, g1 d (by omega)] at this
  have k2' : ∀ d, K ≤ d → d < R1.length → O.lt (R2.getD 0 0) (R1.getD d 0) = true := fun d h1 h2 => by
    have := k2 d h1 h2
    simp only [bey, Bool.false_eq_true, if_false, Bool.not_eq_false'] at this
    rwa [y0, g1 d (by omega)] at this
  refine W.bind (W.elem (by omega) (W.bind (W.gal (K := K) (T.nn _ (by omega)) T.nn (by omega) l1 hK k1 k2 ?_)))
  -- what stays ahead stands ahead of all of the second run
  have F1 : ∀ a ∈ R1.take K, ∀ y ∈ R2, Ah O.lt a y := fun a ha y hy => by
    obtain ⟨d, hd, rfl⟩ := List.getElem_of_mem ha
    have hd' : d < K := by rw [List.length_take] at hd; omega
    have hd1 : d < R1.length := by omega
    have e : (R1.take K)[d] = R1.getD d 0 := by rw [gl hd1]; simp
    rw [e]
    have b0 : Ah O.lt (R1.getD d 0) (R2.getD 0 0) := ⟨k1' d hd', fun _ => T.xy _ (m1 d hd1) _ (m2 0 l2)⟩
    obtain ⟨c, hc, rfl⟩ := List.getElem_of_mem hy
    rw [← gl hc]
    rcases Nat.eq_zero_or_pos c with rfl | hc0
    · exact b0
    · exact b0.trans T.H (a2 0 c hc0 hc)
  dsimp only
  by_cases q : (R1.length - K == 0) = true
  · rw [if_pos q]
    have q' : R1.length - K = 0 := by simpa using q
    have eK : R1.take K = R1 := List.take_of_length_le (by omega)
    rw [eK] at F1
    exact W.pure (h (R1 ++ R2) p mg (List.Perm.refl _) (List.pairwise_append.mpr ⟨T.s1, T.s2, fun a ha c hc => F1 a ha c hc⟩) (by rw [T.e]; simp))
  rw [if_neg q]
  have q' : ¬ R1.length - K = 0 := by simpa using q
  have ex : pre.length + K + (R1.length - K) - 1 = pre.length + (R1.length - 1) := by omega
  rw [ex]
  obtain ⟨K', hK', j1, j2⟩ := pre_ex (P := fun d => bey O true (p.getD (pre.length + (R1.length - 1)) 0) p (pre.length + R1.length) d) R2.length (fun c d h1 h2 h3 => by
    simp only [bey, if_true] at h3 ⊢
    rcases Nat.eq_or_lt_of_le h1 with rfl | h1
    · exact h3
    · rw [g2 d h2] at h3; rw [g2 c (by omega)]
      exact lt_true' T.H h3 (a2 c d h1 h2).1)
  have x9 := g1 (R1.length - 1) (by omega)
  have j1' : ∀ d, d < K' → O.lt (R2.getD d 0) (R1.getD (R1.length - 1) 0) = true := fun d hd => by
    have := j1 d hd
    simp only [bey, if_true] at this
    rwa [x9, g2 d (by omega)] at this
  have j2' : ∀ d, K' ≤ d → d < R2.length → O.lt (R2.getD d 0) (R1.getD (R1.length - 1) 0) = false := fun d h1 h2 => by
    have := j2 d h1 h2
    simp only [bey, if_true] at this
    rwa [x9, g2 d (by omega)] at this
  refine W.bind (W.elem (by omega) (W.bind (W.gal (K := K') (T.nn _ (by omega)) T.nn (by omega) (by omega) hK' j1 j2 ?_)))
  dsimp only
  have kp : 0 < K' := by
    rcases Nat.eq_zero_or_pos K' with z | z
    · have := j2' 0 (by omega) l2
      rw [k2' _ (by omega) (by omega)] at this; cases this
    · exact z
  rw [if_neg (by simp; omega)]
  have F2 : ∀ x ∈ R1, ∀ y ∈ R2.drop K', Ah O.lt x y := fun x hx y hy => by
    obtain ⟨d, hd, rfl⟩ := List.getElem_of_mem hy
    have hd' : K' + d < R2.length := by rw [List.length_drop] at hd; omega
    have e : (R2.drop K')[d] = R2.getD (K' + d) 0 := by rw [gl hd']; simp
    rw [e]
    have b0 : Ah O.lt (R1.getD (R1.length - 1) 0) (R2.getD (K' + d) 0) := ⟨j2' _ (by omega) hd', fun _ => T.xy _ (m1 _ (by omega)) _ (m2 _ hd')⟩
    obtain ⟨c, hc, rfl⟩ := List.getElem_of_mem hx
    rw [← gl hc]
    rcases Nat.eq_or_lt_of_le (show c ≤ R1.length - 1 by omega) with rfl | hc0
    · exact b0
    · exact (a1 c _ hc0 (by omega)).trans T.H b0
  have mext : ∀ (zs : Array Nat) (i j : Nat), (zs.map (kas_item O.it)).extract i j = (zs.extract i j).map (kas_item O.it) := fun zs i j => by rw [Array.map_extract]
  simp only [mext]
  have ex1 : (p.extract (pre.length + K) (pre.length + R1.length)).toList = R1.drop K := by
    rw [Array.toList_extract, List.extract_eq_drop_take, T.e, show pre.length + R1.length - (pre.length + K) = R1.length - K by omega, List.drop_append, List.drop_eq_nil_of_le (by omega), List.nil_append, show pre.length + K - pre.length = K by omega, List.drop_append_of_le_length hK, List.take_append_of_le_length (by simp)]
    exact List.take_of_length_le (by simp)
  have ex2 : (p.extract (pre.length + R1.length) (pre.length + R1.length + K')).toList = R2.take K' := by
    rw [Array.toList_extract, List.extract_eq_drop_take, e2, show pre.length + R1.length + K' - (pre.length + R1.length) = K' by omega, List.drop_append, List.drop_eq_nil_of_le (by simp), List.nil_append, List.length_append, Nat.sub_self, List.drop_zero, List.take_append_of_le_length hK']
  have z1 : (p.extract (pre.length + K) (pre.length + R1.length)).size = R1.length - K := by rw [← Array.length_toList, ex1, List.length_drop]
  have z2 : (p.extract (pre.length + R1.length) (pre.length + R1.length + K')).size = K' := by rw [← Array.length_toList, ex2, List.length_take]; omega
  generalize p.extract (pre.length + K) (pre.length + R1.length) = xs at ex1 z1 ⊢
  generalize p.extract (pre.length + R1.length) (pre.length + R1.length + K') = ys at ex2 z2 ⊢
  have gx : ∀ d, d < xs.size → xs.getD d 0 = R1.getD (K + d) 0 := fun d hd => by
    have := gd (p := xs) (pre := []) (l := R1.drop K) (by simpa using ex1) d
    simp only [List.length_nil, Nat.zero_add] at this
    rw [this, gl (by rw [List.length_drop]; omega), gl (by omega), List.getElem_drop]
  have gy : ∀ d, d < ys.size → ys.getD d 0 = R2.getD d 0 := fun d hd => by
    have := gd (p := ys) (pre := []) (l := R2.take K') (by simpa using ex2) d
    simp only [List.length_nil, Nat.zero_add] at this
    rw [this, gl (by rw [List.length_take]; omega), gl (by omega), List.getElem_take]
  have TT : Two O xs ys := by
    refine ⟨T.H, fun d hd => ?_, fun d hd => ?_, ?_, ?_, fun x hx y hy => ?_, by omega, by omega⟩
    · rw [gx d hd, ← g1 (K + d) (by omega)]; exact T.nn _ (by omega)
    · rw [gy d hd, ← g2 d (by omega)]; exact T.nn _ (by omega)
    · rw [ex1]; exact T.s1.sublist (List.drop_sublist _ _)
    · rw [ex2]; exact T.s2.sublist (List.take_sublist _ _)
    · rw [ex1] at hx; rw [ex2] at hy
      exact T.xy x (List.mem_of_mem_drop hx) y (List.mem_of_mem_take hy)
  have h0 : O.lt (ys.getD 0 0) (xs.getD 0 0) = true := by
    rw [gx 0 (by omega), gy 0 (by omega)]; exact k2' _ (by omega) (by omega)
  have hl : ∀ y ∈ ys.toList, O.lt y (xs.getD (xs.size - 1) 0) = true := fun y hy => by
    rw [gx _ (by omega), show K + (xs.size - 1) = R1.length - 1 by omega]
    rw [ex2] at hy
    obtain ⟨d, hd, rfl⟩ := List.getElem_of_mem hy
    rw [List.length_take] at hd
    have e : (R2.take K')[d] = R2.getD d 0 := by rw [gl (by omega)]; simp
    rw [e]; exact j1' d (by omega)
  have fin : ∀ (rs : Array Nat) (mg' : Nat), Made O xs ys rs → W O (do
      _root_.modify fun st => setArr st ((rs.map (kas_item O.it)).toList.zipIdx.foldl (fun z x => z.setIfInBounds (pre.length + K + x.2) x.1) (arrOf st))
      let st ← MonadState.get
      Pure.pure (failedOf st).isNone) Q ⟨p, pd', mg'⟩ := by
    intro rs mg' ⟨hm, hs⟩
    rw [ex1, ex2] at hm
    have hrl : rs.toList.length = R1.length - K + K' := by rw [hm.length_eq, List.length_append, List.length_drop, List.length_take]; omega
    have hfs := fold_set (rs.map (kas_item O.it)).toList 0 (pre.length + K) (p.map (kas_item O.it)) (by rw [Array.toList_map, List.length_map, hrl, Array.size_map]; omega)
    have el : (((rs.map (kas_item O.it)).toList.zipIdx.foldl (fun z x => z.setIfInBounds (pre.length + K + x.2) x.1) (p.map (kas_item O.it)))) = (List.toArray (pre ++ ((R1.take K ++ rs.toList ++ R2.drop K') ++ suf))).map (kas_item O.it) := by
      apply Array.toList_inj.mp
      rw [hfs]
      rw [Array.toList_map, Array.toList_map, Array.toList_map, List.length_map, hrl, ← List.map_take, ← List.map_drop, ← List.map_append, ← List.map_append]
      congr 1
      have t1 : p.toList.take (pre.length + K + 0) = pre ++ R1.take K := by
        rw [T.e, Nat.add_zero, List.take_append, List.take_of_length_le (by omega), show pre.length + K - pre.length = K by omega, List.take_append_of_le_length hK]
      have t2 : p.toList.drop (pre.length + K + 0 + (R1.length - K + K')) = R2.drop K' ++ suf := by
        rw [e2, show pre.length + K + 0 + (R1.length - K + K') = (pre ++ R1).length + K' by rw [List.length_append]; omega, List.drop_length_add_append, List.drop_append_of_le_length hK']
      rw [t1, t2]
      simp
    refine W.bind (W.modify ⟨List.toArray (pre ++ ((R1.take K ++ rs.toList ++ R2.drop K') ++ suf)), pd', mg'⟩ ?_ ?_)
    · show SortSt.mk' O.κ _ pd' mg' none = SortSt.mk' O.κ _ pd' mg' none
      have : arrOf (Ab.st O ⟨p, pd', mg'⟩) = p.map (kas_item O.it) := rfl
      rw [this, el]
    refine W.bind (W.get (W.pure ?_))
    refine h (R1.take K ++ rs.toList ++ R2.drop K') _ mg' ?_ ?_ rfl
    · have : (R1 ++ R2) = R1.take K ++ (R1.drop K ++ R2.take K') ++ R2.drop K' := by
        rw [← List.append_assoc, List.take_append_drop, List.append_assoc, List.take_append_drop]
      rw [this]
      exact (hm.append_left _).append_right _
    · have mem : ∀ r ∈ rs.toList, r ∈ R1.drop K ∨ r ∈ R2.take K' := fun r hr => List.mem_append.mp (hm.mem_iff.mp hr)
      have p1 : (R1.take K ++ R1.drop K).Pairwise (Ah O.lt) := by rw [List.take_append_drop]; exact T.s1
      have p2 : (R2.take K' ++ R2.drop K').Pairwise (Ah O.lt) := by rw [List.take_append_drop]; exact T.s2
      refine List.pairwise_append.mpr ⟨List.pairwise_append.mpr ⟨T.s1.sublist (List.take_sublist _ _), hs, fun a ha r hr => ?_⟩, T.s2.sublist (List.drop_sublist _ _), fun a ha y hy => ?_⟩
      · rcases mem r hr with z | z
        · exact (List.pairwise_append.mp p1).2.2 a ha r z
        · exact F1 a ha r (List.mem_of_mem_take z)
      · rcases List.mem_append.mp ha with z | z
        · exact F1 a z y (List.mem_of_mem_drop hy)
        · rcases mem a z with z | z
          · exact F2 a (List.mem_of_mem_drop z) y hy
          · exact (List.pairwise_append.mp p2).2.2 a z y hy
  by_cases c : R1.length - K ≤ K'
  · rw [if_pos c]
    exact W.bind (W.mLo TT h0 hl fun rs mg' hm => fin rs mg' hm)
  · rw [if_neg c]
    exact W.bind (W.mHi TT h0 hl fun rs mg' hm => fin rs mg' hm)
end
end L2

namespace L2
open PySem PySem.Spec PyProof.Rows PySem.W
noncomputable def ev (lt : Nat → Nat → Bool) {α : Type} : KasT α → α
  | .ret a => a
  | .ask i j k => ev lt (k (lt i j))
theorem ev_bind (lt : Nat → Nat → Bool) {α β : Type} (f : α → KasT β) : ∀ t : KasT α, ev lt (t.bind f) = ev lt (f (ev lt t))
  | .ret _ => rfl
  | .ask i j k => ev_bind lt f (k (lt i j))
theorem Sat.ev {N : Nat} {lt : Nat → Nat → Bool} {α : Type} {R : α → Prop} : ∀ t : KasT α, Sat N lt t R → R (L2.ev lt t)
  | .ret _, h => h
  | .ask i j k, h => Sat.ev (k (lt i j)) h.2.2
noncomputable def sh (lt : Nat → Nat → Bool) (lo : Nat) : Nat → Nat → Bool := fun i j => lt (i + lo) (j + lo)
theorem Lt.sh {lt : Nat → Nat → Bool} (H : Lt lt) (lo : Nat) : Lt (sh lt lo) := ⟨fun i j h => H.asym _ _ h, fun i j k h h' => H.tr _ _ _ h h'⟩
section
variable {O : Orc} {b : Ab} {lo n nrem : Nat} {pre : List Nat} {pd : Array (Nat × Nat × Nat)} {mg : Nat} {P : Array Nat}
theorem W.rangeV {γ : Type} {x y : Nat} {c : γ} {f : Nat → γ → SM (ForInStep γ)} {D : γ → Ab → Prop} (J : Nat → γ → Ab → Prop) (hxy : x ≤ y) (h0 : J x c b)
    (hs : ∀ k c b, x ≤ k → k < y → J k c b → W O (f k c) (fun r b' => match r with | .done c' => D c' b' | .yield c' => J (k + 1) c' b') b) (hd : ∀ c b, J y c b → D c b) : W O (ForIn.forIn [x:y] c f) D b := fun s hi => by
  refine kasC_range ?_
  have go : ∀ (m k : Nat) (c : γ) (b : Ab), x ≤ k → k + m = y → J k c b → W O (ForIn.forIn (List.range' k m) c f) D b := by
    intro m
    induction m with
    | zero =>
      intro k c b _ e h s hi
      have : k = y := by omega
      subst this
      exact kasC_nil ⟨hi, b, rfl, hd c b h⟩
    | succ m ih =>
      intro k c b hk e h s hi
      rw [List.range'_succ]
      refine kasC_cons (wpAny_mono (hs k c b hk (by omega) h s hi) (fun r s' ⟨i, b', e', q⟩ => ?_) fun _ _ z => z)
      obtain ⟨r, st⟩ := r
      have e' : st = b'.st O := e'
      subst e'
      cases r with
      | done c' => exact ⟨i, b', rfl, q⟩
      | yield c' => exact ih (k + 1) c' b' (by omega) (by omega) q s' i
  exact go (y - x) x c b (Nat.le_refl _) (by omega) h0 s hi
noncomputable def abP (lo : Nat) (pre : List Nat) (pd : Array (Nat × Nat × Nat)) (mg : Nat) (P : Array Nat) : Ab := ⟨List.toArray (pre ++ P.toList.map (· + lo)), pd, mg⟩
structure Fm (O : Orc) (lo nrem : Nat) (pre : List Nat) (P : Array Nat) : Prop where
  pl : pre.length = lo
  pn : ∀ x ∈ pre, x < O.N
  top : lo + nrem ≤ O.N
  perm : P.Perm (List.toArray (List.range nrem))
theorem Fm.get (F : Fm O lo nrem pre P) {i : Nat} (hi : i < nrem) : (abP lo pre pd mg P).p.getD (lo + i) 0 = P.getD i 0 + lo := by
  have hz := (pm_of F.perm).sz
  have e : (abP lo pre pd mg P).p.toList = pre ++ P.toList.map (· + lo) := rfl
  have := gd e i
  rw [F.pl] at this
  rw [this, gl (by simp; omega)]
  simp [Array.getD, hz, hi]
theorem Fm.size (F : Fm O lo nrem pre P) : (abP lo pre pd mg P).p.size = lo + nrem := by
  have hz := (pm_of F.perm).sz
  show (List.toArray (pre ++ P.toList.map (· + lo))).size = _
  simp [F.pl, hz]
theorem Fm.all (F : Fm O lo nrem pre P) : ∀ k, k < (abP lo pre pd mg P).p.size → (abP lo pre pd mg P).p.getD k 0 < O.N := fun k hk => by
  rw [F.size] at hk
  rcases Nat.lt_or_ge k lo with h | h
  · have e : (abP lo pre pd mg P).p.getD k 0 = pre.getD k 0 := by
      show (List.toArray (pre ++ P.toList.map (· + lo))).getD k 0 = _
      have hk' : k < pre.length := by rw [F.pl]; exact h
      have hz := (pm_of F.perm).sz
      have : k < (List.toArray (pre ++ P.toList.map (· + lo))).size := by simp [F.pl, hz]; omega
      rw [gl hk']
      simp [Array.getD, F.pl, hz, hk, List.getElem_append_left hk']
    rw [e, gl (by rw [F.pl]; exact h)]
    exact F.pn _ (List.getElem_mem _)
  · obtain ⟨d, rfl⟩ : ∃ d, k = lo + d := ⟨k - lo, by omega⟩
    rw [F.get (by omega)]
    have := (pm_of F.perm).bd d (by omega)
    have := F.top
    omega
theorem Fm.of (F : Fm O lo nrem pre P) {P' : Array Nat} (h : P'.Perm (List.toArray (List.range nrem))) : Fm O lo nrem pre P' := ⟨F.pl, F.pn, F.top, h⟩
theorem W.ltF {i j : Nat} {Q : Option Bool → Ab → Prop} (F : Fm O lo nrem pre P) (hi : i < nrem) (hj : j < nrem) (h : Q (some (sh O.lt lo (P.getD i 0) (P.getD j 0))) (abP lo pre pd mg P)) : W O (ltAt' (lo + i) (lo + j)) Q (abP lo pre pd mg P) := by
  refine W.ltAt (by rw [F.size]; omega) (by rw [F.size]; omega) F.all ?_
  rw [F.get hi, F.get hj]; exact h
theorem getq (xs : Array Nat) (k : Nat) (h : k < xs.size) : xs[k]? = some (xs.getD k 0) := by simp [Array.getD, h]
theorem W.revF {i j : Nat} {Q : Unit → Ab → Prop} (F : Fm O lo nrem pre P) (hj : j ≤ nrem) (h : Q () (abP lo pre pd mg (kas_rev P i j))) : W O (reverseSlice' (lo + i) (lo + j)) Q (abP lo pre pd mg P) := by
  rw [reverseSlice'_eq]
  refine W.modify _ ?_ h
  show SortSt.mk' O.κ (mirror ((abP lo pre pd mg P).p.map (kas_item O.it)) (lo + i) (lo + j) (((lo + j) - (lo + i)) / 2)) pd mg none = SortSt.mk' O.κ ((abP lo pre pd mg (kas_rev P i j)).p.map (kas_item O.it)) pd mg none
  have e1 : mirror ((abP lo pre pd mg P).p.map (kas_item O.it)) (lo + i) (lo + j) (((lo + j) - (lo + i)) / 2) = (mirror (abP lo pre pd mg P).p (lo + i) (lo + j) (((lo + j) - (lo + i)) / 2)).map (kas_item O.it) := kas_swaps_map (kas_item O.it) (fun k => lo + i + k) (fun k => lo + j - 1 - k) _ _
  rw [e1]
  have F' : Fm O lo nrem pre (kas_rev P i j) := F.of (rev_perm _ _ F.perm)
  have hz := (pm_of F.perm).sz
  congr 2
  apply Array.ext_getElem?
  intro k
  rw [getElem?_mirror_all (by rw [F.size]; omega)]
  rcases Nat.lt_or_ge k lo with hk | hk
  · rw [if_neg (by omega)]
    show (List.toArray (pre ++ _))[k]? = (List.toArray (pre ++ _))[k]?
    have hk' : k < pre.length := by rw [F.pl]; exact hk
    simp [List.getElem?_append_left hk']
  · obtain ⟨d, rfl⟩ : ∃ d, k = lo + d := ⟨k - lo, by omega⟩
    rcases Nat.lt_or_ge d nrem with hd | hd
    · rw [getq (abP lo pre pd mg (kas_rev P i j)).p (lo + d) (by rw [F'.size]; omega), F'.get hd, getD_rev (by omega)]
      by_cases c : i ≤ d ∧ d < j
      · rw [if_pos (by omega), if_pos c, show lo + i + (lo + j) - 1 - (lo + d) = lo + (i + j - 1 - d) by omega, getq _ _ (by rw [F.size]; omega), F.get (by omega)]
      · rw [if_neg (by omega), if_neg c, getq _ _ (by rw [F.size]; omega), F.get hd]
    · rw [if_neg (by omega), Array.getElem?_eq_none (by rw [F.size]; omega), Array.getElem?_eq_none (by rw [F'.size]; omega)]
theorem W.movF {k l : Nat} {Q : Unit → Ab → Prop} (F : Fm O lo nrem pre P) (hk : k < nrem) (hl : l ≤ k) (h : Q () (abP lo pre pd mg (bubble P k (k - l)))) : W O (moveDown' (lo + k) (lo + l)) Q (abP lo pre pd mg P) := by
  rw [moveDown'_eq]
  refine W.modify _ ?_ h
  show SortSt.mk' O.κ (bubble ((abP lo pre pd mg P).p.map (kas_item O.it)) (lo + k) (lo + k - (lo + l))) pd mg none = SortSt.mk' O.κ ((abP lo pre pd mg (bubble P k (k - l))).p.map (kas_item O.it)) pd mg none
  have e1 : bubble ((abP lo pre pd mg P).p.map (kas_item O.it)) (lo + k) (lo + k - (lo + l)) = (bubble (abP lo pre pd mg P).p (lo + k) (lo + k - (lo + l))).map (kas_item O.it) := kas_swaps_map (kas_item O.it) (fun i => lo + k - i) (fun i => lo + k - i - 1) _ _
  rw [e1]
  have F' : Fm O lo nrem pre (bubble P k (k - l)) := F.of (bub_perm _ _ F.perm)
  have hz := (pm_of F.perm).sz
  congr 2
  apply Array.ext_getElem?
  intro x
  rw [getElem?_bubble (by rw [F.size]; omega) _ (by omega), show lo + k - (lo + k - (lo + l)) = lo + l by omega]
  rcases Nat.lt_or_ge x lo with hx | hx
  · rw [if_neg (by omega), if_neg (by omega)]
    show (List.toArray (pre ++ _))[x]? = (List.toArray (pre ++ _))[x]?
    have hx' : x < pre.length := by rw [F.pl]; exact hx
    simp [List.getElem?_append_left hx']
  · obtain ⟨d, rfl⟩ : ∃ d, x = lo + d := ⟨x - lo, by omega⟩
    rcases Nat.lt_or_ge d nrem with hd | hd
    · rw [getq (abP lo pre pd mg (bubble P k (k - l))).p (lo + d) (by rw [F'.size]; omega), F'.get hd, getD_bub (by omega) hl]
      by_cases c : d = l
      · rw [if_pos (by omega), if_pos c, getq _ _ (by rw [F.size]; omega), F.get hk]
      · rw [if_neg (by omega), if_neg c]
        by_cases c2 : l < d ∧ d ≤ k
        · rw [if_pos (by omega), if_pos c2, show lo + d - 1 = lo + (d - 1) by omega, getq _ _ (by rw [F.size]; omega), F.get (by omega)]
        · rw [if_neg (by omega), if_neg c2, getq _ _ (by rw [F.size]; omega), F.get hd]
    · rw [if_neg (by omega), if_neg (by omega), Array.getElem?_eq_none (by rw [F.size]; omega), Array.getElem?_eq_none (by rw [F'.size]; omega)]
theorem W.cnt {Q : Option Nat → Ab → Prop} (F : Fm O lo nrem pre P) (h1 : 1 ≤ nrem) (h : Q (some (ev (sh O.lt lo) (kas_count nrem P)).1) (abP lo pre pd mg (ev (sh O.lt lo) (kas_count nrem P)).2)) : W O (countRun' lo nrem) Q (abP lo pre pd mg P) := by
  rw [countRun'_eq]
  refine W.bind (W.range (D := fun c b1 => b1 = abP lo pre pd mg P ∧ c.1 = none ∧ c.2 = ev (sh O.lt lo) (kas_asc P (nrem - 1) 1) ∧ 1 ≤ c.2 ∧ c.2 ≤ nrem) (fun k c b1 => b1 = abP lo pre pd mg P ∧ c.1 = none ∧ 1 ≤ c.2 ∧ c.2 + k = nrem ∧ ev (sh O.lt lo) (kas_asc P k c.2) = ev (sh O.lt lo) (kas_asc P (nrem - 1) 1)) ⟨rfl, rfl, by show 1 ≤ 1; omega, by show 1 + (nrem - 1) = nrem; omega, rfl⟩ ?_ ?_ |>.mono fun c b1 hc => ?_)
  · rintro x k ⟨r, m⟩ b1 ⟨eb, er, q1, q2, q3⟩
    dsimp only at er q1 q2 q3 ⊢
    subst eb er
    rw [show lo + m - 1 = lo + (m - 1) by omega]
    refine W.bind (W.ltF F (by omega) (by omega) ?_)
    have q3 : ev (sh O.lt lo) (if sh O.lt lo (Array.getD P m 0) (Array.getD P (m - 1) 0) = true then KasT.ret m else kas_asc P k (m + 1)) = _ := q3
    cases e : sh O.lt lo (Array.getD P m 0) (Array.getD P (m - 1) 0) with
    | true =>
      rw [e, if_pos rfl] at q3
      simp only [if_true]
      exact W.pure ⟨rfl, rfl, q3, q1, by show m ≤ nrem; omega⟩
    | false =>
      rw [e, if_neg Bool.false_ne_true] at q3
      simp only [Bool.false_eq_true, if_false]
      exact W.pure ⟨rfl, rfl, by show 1 ≤ m + 1; omega, by show m + 1 + k = nrem; omega, q3⟩
  · rintro ⟨r, m⟩ b1 ⟨eb, er, q1, q2, q3⟩
    dsimp only at er q1 q2 q3
    exact ⟨eb, er, q3, q1, by show m ≤ nrem; omega⟩
  obtain ⟨r, m⟩ := c
  obtain ⟨eb, er, em, m1, m2⟩ := hc
  dsimp only at er em m1 m2 ⊢
  subst eb er
  dsimp only
  have ec : ev (sh O.lt lo) (kas_count nrem P) = ev (sh O.lt lo) (if (m == nrem) = true then KasT.ret (m, P) else if m > 1 then KasT.ask (P.getD 0 0) (P.getD (m - 1) 0) fun c => if c = true then KasT.ret (m, P) else kas_descPart m nrem (kas_rev P 0 m) else kas_descPart m nrem P) := by
    unfold kas_count
    rw [ev_bind, ← em]
  rw [ec] at h
  clear ec em
  by_cases q : (m == nrem) = true
  · rw [if_pos q] at h ⊢
    exact W.pure h
  rw [if_neg q] at h ⊢
  have q' : ¬ m = nrem := by simpa using q
  by_cases hm : m > 1
  · rw [if_pos hm] at h ⊢
    rw [show lo + m - 1 = lo + (m - 1) by omega]
    refine W.bind (W.ltF (i := 0) F (by omega) (by omega) ?_)
    have h : Q (some (ev (sh O.lt lo) (if sh O.lt lo (P.getD 0 0) (P.getD (m - 1) 0) = true then KasT.ret (m, P) else kas_descPart m nrem (kas_rev P 0 m))).1) (abP lo pre pd mg (ev (sh O.lt lo) (if sh O.lt lo (P.getD 0 0) (P.getD (m - 1) 0) = true then KasT.ret (m, P) else kas_descPart m nrem (kas_rev P 0 m))).2) := h
    cases e : sh O.lt lo (P.getD 0 0) (P.getD (m - 1) 0) with
    | true =>
      rw [e, if_pos rfl] at h
      simp only [if_true]
      exact W.pure h
    | false =>
      rw [e, if_neg Bool.false_ne_true] at h
      simp only [Bool.false_eq_true, if_false]
      refine W.bind (W.revF (i := 0) F (by omega) ?_)
      have F1 := F.of (rev_perm 0 m F.perm)
      have ed : ev (sh O.lt lo) (kas_descPart m nrem (kas_rev P 0 m)) = (fun r : Array Nat × Nat × Nat => ev (sh O.lt lo) (if r.2.2 > 0 then kas_tail3 r.2.1 nrem (kas_rev r.1 (r.2.1 - (r.2.2 + 1)) r.2.1) else kas_tail3 r.2.1 nrem r.1)) (ev (sh O.lt lo) (kas_desc (nrem - (m + 1)) (kas_rev P 0 m) (m + 1) 0)) := by
        unfold kas_descPart
        rw [ev_bind]
      rw [ed] at h
      clear ed
      refine W.bind (W.rule ?_)
      refine W.bind (W.range (D := fun c b1 => c.1 = none ∧ ∃ P', b1 = abP lo pre pd mg P' ∧ Fm O lo nrem pre P' ∧ (P', c.2.1, c.2.2) = ev (sh O.lt lo) (kas_desc (nrem - (m + 1)) (kas_rev P 0 m) (m + 1) 0) ∧ c.2.2 + 1 ≤ c.2.1 ∧ c.2.1 ≤ nrem) (fun k c b1 => c.1 = none ∧ ∃ P', b1 = abP lo pre pd mg P' ∧ Fm O lo nrem pre P' ∧ ev (sh O.lt lo) (kas_desc k P' c.2.1 c.2.2) = ev (sh O.lt lo) (kas_desc (nrem - (m + 1)) (kas_rev P 0 m) (m + 1) 0) ∧ c.2.2 + 1 ≤ c.2.1 ∧ c.2.1 + k = nrem) ⟨rfl, _, rfl, F1, rfl, by show 0 + 1 ≤ m + 1; omega, by show m + 1 + (nrem - (m + 1)) = nrem; omega⟩ ?_ ?_ |>.mono fun c b1 hc => ?_)
      · rintro x k ⟨r, u, v⟩ b1 ⟨er, P', eb, F', q3, q1, q2⟩
        dsimp only at er q1 q2 q3 ⊢
        subst eb er
        rw [show lo + u - 1 = lo + (u - 1) by omega, show lo + u - (v + 1) = lo + (u - (v + 1)) by omega]
        refine W.bind (W.ltF F' (by omega) (by omega) ?_)
        have q3 : ev (sh O.lt lo) (if sh O.lt lo (P'.getD u 0) (P'.getD (u - 1) 0) = true then (if v > 0 then kas_desc k (kas_rev P' (u - (v + 1)) u) (u + 1) 0 else kas_desc k P' (u + 1) 0) else KasT.ask (P'.getD (u - 1) 0) (P'.getD u 0) fun d => if d = true then KasT.ret (P', u, v) else kas_desc k P' (u + 1) (v + 1)) = _ := q3
        cases e : sh O.lt lo (P'.getD u 0) (P'.getD (u - 1) 0) with
        | true =>
          rw [e, if_pos rfl] at q3
          simp only [if_true]
          by_cases hv : v > 0
          · rw [if_pos hv] at q3 ⊢
            exact W.bind (W.revF F' (by omega) (W.pure ⟨rfl, _, rfl, F'.of (rev_perm _ _ F'.perm), q3, by show 0 + 1 ≤ u + 1; omega, by show u + 1 + k = nrem; omega⟩))
          · rw [if_neg hv] at q3 ⊢
            exact W.pure ⟨rfl, _, rfl, F', q3, by show 0 + 1 ≤ u + 1; omega, by show u + 1 + k = nrem; omega⟩
        | false =>
          rw [e, if_neg Bool.false_ne_true] at q3
          simp only [Bool.false_eq_true, if_false]
          refine W.bind (W.ltF F' (by omega) (by omega) ?_)
          have q3 : ev (sh O.lt lo) (if sh O.lt lo (P'.getD (u - 1) 0) (P'.getD u 0) = true then KasT.ret (P', u, v) else kas_desc k P' (u + 1) (v + 1)) = _ := q3
          cases e2 : sh O.lt lo (P'.getD (u - 1) 0) (P'.getD u 0) with
          | true =>
            rw [e2, if_pos rfl] at q3
            simp only [if_true]
            exact W.pure ⟨rfl, _, rfl, F', q3, q1, by show u ≤ nrem; omega⟩
          | false =>
            rw [e2, if_neg Bool.false_ne_true] at q3
            simp only [Bool.false_eq_true, if_false]
            exact W.pure ⟨rfl, _, rfl, F', q3, by show v + 1 + 1 ≤ u + 1; omega, by show u + 1 + k = nrem; omega⟩
      · rintro ⟨r, u, v⟩ b1 ⟨er, P', eb, F', q3, q1, q2⟩
        dsimp only at er q1 q2 q3
        exact ⟨er, P', eb, F', q3, q1, by show u ≤ nrem; omega⟩
      obtain ⟨r, u, v⟩ := c
      obtain ⟨er, P', eb, F', e9, q1, q2⟩ := hc
      dsimp only at er e9 q1 q2 ⊢
      subst eb er
      rw [← e9] at h
      dsimp only at h ⊢
      rw [show lo + u - (v + 1) = lo + (u - (v + 1)) by omega]
      by_cases hv : v > 0
      · rw [if_pos hv] at h ⊢
        refine W.bind (W.revF F' (by omega) ?_)
        have F3 := F'.of (rev_perm (u - (v + 1)) u F'.perm)
        generalize kas_rev P' (u - (v + 1)) u = P3 at F3 h ⊢
        have e3 : ev (sh O.lt lo) (kas_tail3 u nrem P3) = (ev (sh O.lt lo) (kas_asc (kas_rev P3 0 u) (nrem - u) u), kas_rev P3 0 u) := by
          unfold kas_tail3
          rw [ev_bind]; rfl
        rw [e3] at h
        have F4 := F3.of (rev_perm 0 u F3.perm)
        refine W.bind (W.revF (i := 0) F3 (by omega) ?_)
        refine W.bind (W.range (D := fun c b1 => b1 = abP lo pre pd mg (kas_rev P3 0 u) ∧ c.1 = none ∧ c.2 = ev (sh O.lt lo) (kas_asc (kas_rev P3 0 u) (nrem - u) u) ∧ 1 ≤ c.2 ∧ c.2 ≤ nrem) (fun k c b1 => b1 = abP lo pre pd mg (kas_rev P3 0 u) ∧ c.1 = none ∧ 1 ≤ c.2 ∧ c.2 + k = nrem ∧ ev (sh O.lt lo) (kas_asc (kas_rev P3 0 u) k c.2) = ev (sh O.lt lo) (kas_asc (kas_rev P3 0 u) (nrem - u) u)) ⟨rfl, rfl, by show 1 ≤ u; omega, by show u + (nrem - u) = nrem; omega, rfl⟩ ?_ ?_ |>.mono fun c b1 hc => ?_)
        · rintro x k ⟨r, m⟩ b1 ⟨eb, er, q1, q2, q3⟩
          dsimp only at er q1 q2 q3 ⊢
          subst eb er
          rw [show lo + m - 1 = lo + (m - 1) by omega]
          refine W.bind (W.ltF F4 (by omega) (by omega) ?_)
          have q3 : ev (sh O.lt lo) (if sh O.lt lo (Array.getD (kas_rev P3 0 u) m 0) (Array.getD (kas_rev P3 0 u) (m - 1) 0) = true then KasT.ret m else kas_asc (kas_rev P3 0 u) k (m + 1)) = _ := q3
          cases e : sh O.lt lo (Array.getD (kas_rev P3 0 u) m 0) (Array.getD (kas_rev P3 0 u) (m - 1) 0) with
          | true =>
            rw [e, if_pos rfl] at q3
            simp only [if_true]
            exact W.pure ⟨rfl, rfl, q3, q1, by show m ≤ nrem; omega⟩
          | false =>
            rw [e, if_neg Bool.false_ne_true] at q3
            simp only [Bool.false_eq_true, if_false]
            exact W.pure ⟨rfl, rfl, by show 1 ≤ m + 1; omega, by show m + 1 + k = nrem; omega, q3⟩
        · rintro ⟨r, m⟩ b1 ⟨eb, er, q1, q2, q3⟩
          dsimp only at er q1 q2 q3
          exact ⟨eb, er, q3, q1, by show m ≤ nrem; omega⟩
        obtain ⟨r, z⟩ := c
        obtain ⟨eb, er, em, z1, z2⟩ := hc
        dsimp only at er em z1 z2 ⊢
        subst eb er
        rw [← em] at h
        exact W.pure h
      · rw [if_neg hv] at h ⊢
        have F3 := F'
        generalize P' = P3 at F3 h ⊢
        have e3 : ev (sh O.lt lo) (kas_tail3 u nrem P3) = (ev (sh O.lt lo) (kas_asc (kas_rev P3 0 u) (nrem - u) u), kas_rev P3 0 u) := by
          unfold kas_tail3
          rw [ev_bind]; rfl
        rw [e3] at h
        have F4 := F3.of (rev_perm 0 u F3.perm)
        refine W.bind (W.revF (i := 0) F3 (by omega) ?_)
        refine W.bind (W.range (D := fun c b1 => b1 = abP lo pre pd mg (kas_rev P3 0 u) ∧ c.1 = none ∧ c.2 = ev (sh O.lt lo) (kas_asc (kas_rev P3 0 u) (nrem - u) u) ∧ 1 ≤ c.2 ∧ c.2 ≤ nrem) (fun k c b1 => b1 = abP lo pre pd mg (kas_rev P3 0 u) ∧ c.1 = none ∧ 1 ≤ c.2 ∧ c.2 + k = nrem ∧ ev (sh O.lt lo) (kas_asc (kas_rev P3 0 u) k c.2) = ev (sh O.lt lo) (kas_asc (kas_rev P3 0 u) (nrem - u) u)) ⟨rfl, rfl, by show 1 ≤ u; omega, by show u + (nrem - u) = nrem; omega, rfl⟩ ?_ ?_ |>.mono fun c b1 hc => ?_)
        · rintro x k ⟨r, m⟩ b1 ⟨eb, er, q1, q2, q3⟩
          dsimp only at er q1 q2 q3 ⊢
          subst eb er
          rw [show lo + m - 1 = lo + (m - 1) by omega]
          refine W.bind (W.ltF F4 (by omega) (by omega) ?_)
          have q3 : ev (sh O.lt lo) (if sh O.lt lo (Array.getD (kas_rev P3 0 u) m 0) (Array.getD (kas_rev P3 0 u) (m - 1) 0) = true then KasT.ret m else kas_asc (kas_rev P3 0 u) k (m + 1)) = _ := q3
          cases e : sh O.lt lo (Array.getD (kas_rev P3 0 u) m 0) (Array.getD (kas_rev P3 0 u) (m - 1) 0) with
          | true =>
            rw [e, if_pos rfl] at q3
            simp only [if_true]
            exact W.pure ⟨rfl, rfl, q3, q1, by show m ≤ nrem; omega⟩
          | false =>
            rw [e, if_neg Bool.false_ne_true] at q3
            simp only [Bool.false_eq_true, if_false]
            exact W.pure ⟨rfl, rfl, by show 1 ≤ m + 1; omega, by show m + 1 + k = nrem; omega, q3⟩
        · rintro ⟨r, m⟩ b1 ⟨eb, er, q1, q2, q3⟩
          dsimp only at er q1 q2 q3
          exact ⟨eb, er, q3, q1, by show m ≤ nrem; omega⟩
        obtain ⟨r, z⟩ := c
        obtain ⟨eb, er, em, z1, z2⟩ := hc
        dsimp only at er em z1 z2 ⊢
        subst eb er
        rw [← em] at h
        exact W.pure h
  · rw [if_neg hm] at h ⊢
    have ed : ev (sh O.lt lo) (kas_descPart m nrem P) = (fun r : Array Nat × Nat × Nat => ev (sh O.lt lo) (if r.2.2 > 0 then kas_tail3 r.2.1 nrem (kas_rev r.1 (r.2.1 - (r.2.2 + 1)) r.2.1) else kas_tail3 r.2.1 nrem r.1)) (ev (sh O.lt lo) (kas_desc (nrem - (m + 1)) P (m + 1) 0)) := by
      unfold kas_descPart
      rw [ev_bind]
    rw [ed] at h
    clear ed
    refine W.bind (W.rule ?_)
    refine W.bind (W.range (D := fun c b1 => c.1 = none ∧ ∃ P', b1 = abP lo pre pd mg P' ∧ Fm O lo nrem pre P' ∧ (P', c.2.1, c.2.2) = ev (sh O.lt lo) (kas_desc (nrem - (m + 1)) P (m + 1) 0) ∧ c.2.2 + 1 ≤ c.2.1 ∧ c.2.1 ≤ nrem) (fun k c b1 => c.1 = none ∧ ∃ P', b1 = abP lo pre pd mg P' ∧ Fm O lo nrem pre P' ∧ ev (sh O.lt lo) (kas_desc k P' c.2.1 c.2.2) = ev (sh O.lt lo) (kas_desc (nrem - (m + 1)) P (m + 1) 0) ∧ c.2.2 + 1 ≤ c.2.1 ∧ c.2.1 + k = nrem) ⟨rfl, _, rfl, F, rfl, by show 0 + 1 ≤ m + 1; omega, by show m + 1 + (nrem - (m + 1)) = nrem; omega⟩ ?_ ?_ |>.mono fun c b1 hc => ?_)
    · rintro x k ⟨r, u, v⟩ b1 ⟨er, P', eb, F', q3, q1, q2⟩
      dsimp only at er q1 q2 q3 ⊢
      subst eb er
      rw [show lo + u - 1 = lo + (u - 1) by omega, show lo + u - (v + 1) = lo + (u - (v + 1)) by omega]
      refine W.bind (W.ltF F' (by omega) (by omega) ?_)
      have q3 : ev (sh O.lt lo) (if sh O.lt lo (P'.getD u 0) (P'.getD (u - 1) 0) = true then (if v > 0 then kas_desc k (kas_rev P' (u - (v + 1)) u) (u + 1) 0 else kas_desc k P' (u + 1) 0) else KasT.ask (P'.getD (u - 1) 0) (P'.getD u 0) fun d => if d = true then KasT.ret (P', u, v) else kas_desc k P' (u + 1) (v + 1)) = _ := q3
      cases e : sh O.lt lo (P'.getD u 0) (P'.getD (u - 1) 0) with
      | true =>
        rw [e, if_pos rfl] at q3
        simp only [if_true]
        by_cases hv : v > 0
        · rw [if_pos hv] at q3 ⊢
          exact W.bind (W.revF F' (by omega) (W.pure ⟨rfl, _, rfl, F'.of (rev_perm _ _ F'.perm), q3, by show 0 + 1 ≤ u + 1; omega, by show u + 1 + k = nrem; omega⟩))
        · rw [if_neg hv] at q3 ⊢
          exact W.pure ⟨rfl, _, rfl, F', q3, by show 0 + 1 ≤ u + 1; omega, by show u + 1 + k = nrem; omega⟩
      | false =>
        rw [e, if_neg Bool.false_ne_true] at q3
        simp only [Bool.false_eq_true, if_false]
        refine W.bind (W.ltF F' (by omega) (by omega) ?_)
        have q3 : ev (sh O.lt lo) (if sh O.lt lo (P'.getD (u - 1) 0) (P'.getD u 0) = true then KasT.ret (P', u, v) else kas_desc k P' (u + 1) (v + 1)) = _ := q3
        cases e2 : sh O.lt lo (P'.getD (u - 1) 0) (P'.getD u 0) with
        | true =>
          rw [e2, if_pos rfl] at q3
          simp only [if_true]
          exact W.pure ⟨rfl, _, rfl, F', q3, q1, by show u ≤ nrem; omega⟩
        | false =>
          rw [e2, if_neg Bool.false_ne_true] at q3
          simp only [Bool.false_eq_true, if_false]
          exact W.pure ⟨rfl, _, rfl, F', q3, by show v + 1 + 1 ≤ u + 1; omega, by show u + 1 + k = nrem; omega⟩
    · rintro ⟨r, u, v⟩ b1 ⟨er, P', eb, F', q3, q1, q2⟩
      dsimp only at er q1 q2 q3
      exact ⟨er, P', eb, F', q3, q1, by show u ≤ nrem; omega⟩
    obtain ⟨r, u, v⟩ := c
    obtain ⟨er, P', eb, F', e9, q1, q2⟩ := hc
    dsimp only at er e9 q1 q2 ⊢
    subst eb er
    rw [← e9] at h
    dsimp only at h ⊢
    rw [show lo + u - (v + 1) = lo + (u - (v + 1)) by omega]
    by_cases hv : v > 0
    · rw [if_pos hv] at h ⊢
      refine W.bind (W.revF F' (by omega) ?_)
      have F3 := F'.of (rev_perm (u - (v + 1)) u F'.perm)
      generalize kas_rev P' (u - (v + 1)) u = P3 at F3 h ⊢
      have e3 : ev (sh O.lt lo) (kas_tail3 u nrem P3) = (ev (sh O.lt lo) (kas_asc (kas_rev P3 0 u) (nrem - u) u), kas_rev P3 0 u) := by
        unfold kas_tail3
        rw [ev_bind]; rfl
      rw [e3] at h
      have F4 := F3.of (rev_perm 0 u F3.perm)
      refine W.bind (W.revF (i := 0) F3 (by omega) ?_)
      refine W.bind (W.range (D := fun c b1 => b1 = abP lo pre pd mg (kas_rev P3 0 u) ∧ c.1 = none ∧ c.2 = ev (sh O.lt lo) (kas_asc (kas_rev P3 0 u) (nrem - u) u) ∧ 1 ≤ c.2 ∧ c.2 ≤ nrem) (fun k c b1 => b1 = abP lo pre pd mg (kas_rev P3 0 u) ∧ c.1 = none ∧ 1 ≤ c.2 ∧ c.2 + k = nrem ∧ ev (sh O.lt lo) (kas_asc (kas_rev P3 0 u) k c.2) = ev (sh O.lt lo) (kas_asc (kas_rev P3 0 u) (nrem - u) u)) ⟨rfl, rfl, by show 1 ≤ u; omega, by show u + (nrem - u) = nrem; omega, rfl⟩ ?_ ?_ |>.mono fun c b1 hc => ?_)
      · rintro x k ⟨r, m⟩ b1 ⟨eb, er, q1, q2, q3⟩
        dsimp only at er q1 q2 q3 ⊢
        subst eb er
        rw [show lo + m - 1 = lo + (m - 1) by omega]
        refine W.bind (W.ltF F4 (by omega) (by omega) ?_)
        have q3 : ev (sh O.lt lo) (if sh O.lt lo (Array.getD (kas_rev P3 0 u) m 0) (Array.getD (kas_rev P3 0 u) (m - 1) 0) = true then KasT.ret m else kas_asc (kas_rev P3 0 u) k (m + 1)) = _ := q3
        cases e : sh O.lt lo (Array.getD (kas_rev P3 0 u) m 0) (Array.getD (kas_rev P3 0 u) (m - 1) 0) with
        | true =>
          rw [e, if_pos rfl] at q3
          simp only [if_true]
          exact W.pure ⟨rfl, rfl, q3, q1, by show m ≤ nrem; omega⟩
        | false =>
          rw [e, if_neg Bool.false_ne_true] at q3
          simp only [Bool.false_eq_true, if_false]
          exact W.pure ⟨rfl, rfl, by show 1 ≤ m + 1; omega, by show m + 1 + k = nrem; omega, q3⟩
      · rintro ⟨r, m⟩ b1 ⟨eb, er, q1, q2, q3⟩
        dsimp only at er q1 q2 q3
        exact ⟨eb, er, q3, q1, by show m ≤ nrem; omega⟩
      obtain ⟨r, z⟩ := c
      obtain ⟨eb, er, em, z1, z2⟩ := hc
      dsimp only at er em z1 z2 ⊢
      subst eb er
      rw [← em] at h
      exact W.pure h
    · rw [if_neg hv] at h ⊢
      have F3 := F'
      generalize P' = P3 at F3 h ⊢
      have e3 : ev (sh O.lt lo) (kas_tail3 u nrem P3) = (ev (sh O.lt lo) (kas_asc (kas_rev P3 0 u) (nrem - u) u), kas_rev P3 0 u) := by
        unfold kas_tail3
        rw [ev_bind]; rfl
      rw [e3] at h
      have F4 := F3.of (rev_perm 0 u F3.perm)
      refine W.bind (W.revF (i := 0) F3 (by omega) ?_)
      refine W.bind (W.range (D := fun c b1 => b1 = abP lo pre pd mg (kas_rev P3 0 u) ∧ c.1 = none ∧ c.2 = ev (sh O.lt lo) (kas_asc (kas_rev P3 0 u) (nrem - u) u) ∧ 1 ≤ c.2 ∧ c.2 ≤ nrem) (fun k c b1 => b1 = abP lo pre pd mg (kas_rev P3 0 u) ∧ c.1 = none ∧ 1 ≤ c.2 ∧ c.2 + k = nrem ∧ ev (sh O.lt lo) (kas_asc (kas_rev P3 0 u) k c.2) = ev (sh O.lt lo) (kas_asc (kas_rev P3 0 u) (nrem - u) u)) ⟨rfl, rfl, by show 1 ≤ u; omega, by show u + (nrem - u) = nrem; omega, rfl⟩ ?_ ?_ |>.mono fun c b1 hc => ?_)
      · rintro x k ⟨r, m⟩ b1 ⟨eb, er, q1, q2, q3⟩
        dsimp only at er q1 q2 q3 ⊢
        subst eb er
        rw [show lo + m - 1 = lo + (m - 1) by omega]
        refine W.bind (W.ltF F4 (by omega) (by omega) ?_)
        have q3 : ev (sh O.lt lo) (if sh O.lt lo (Array.getD (kas_rev P3 0 u) m 0) (Array.getD (kas_rev P3 0 u) (m - 1) 0) = true then KasT.ret m else kas_asc (kas_rev P3 0 u) k (m + 1)) = _ := q3
        cases e : sh O.lt lo (Array.getD (kas_rev P3 0 u) m 0) (Array.getD (kas_rev P3 0 u) (m - 1) 0) with
        | true =>
          rw [e, if_pos rfl] at q3
          simp only [if_true]
          exact W.pure ⟨rfl, rfl, q3, q1, by show m ≤ nrem; omega⟩
        | false =>
          rw [e, if_neg Bool.false_ne_true] at q3
          simp only [Bool.false_eq_true, if_false]
          exact W.pure ⟨rfl, rfl, by show 1 ≤ m + 1; omega, by show m + 1 + k = nrem; omega, q3⟩
      · rintro ⟨r, m⟩ b1 ⟨eb, er, q1, q2, q3⟩
        dsimp only at er q1 q2 q3
        exact ⟨eb, er, q3, q1, by show m ≤ nrem; omega⟩
      obtain ⟨r, z⟩ := c
      obtain ⟨eb, er, em, z1, z2⟩ := hc
      dsimp only at er em z1 z2 ⊢
      subst eb er
      rw [← em] at h
      exact W.pure h
end
end L2

namespace L2
open PySem PySem.Spec PyProof.Rows PySem.W
section
variable {O : Orc} {b : Ab} {lo n nrem : Nat} {pre : List Nat} {pd : Array (Nat × Nat × Nat)} {mg : Nat} {P : Array Nat}
theorem W.bin {ok : Nat} {Q : Bool → Ab → Prop} (H : Lt O.lt) (F : Fm O lo nrem pre P) (R : Rn nrem (sh O.lt lo) P ok) (h1 : 1 ≤ ok) (hn : ok ≤ n) (hn2 : n ≤ nrem) (h : ∀ P', Fm O lo nrem pre P' → Rn nrem (sh O.lt lo) P' n → Q true (abP lo pre pd mg P')) :
    W O (binarySort' lo n ok) Q (abP lo pre pd mg P) := by
  have H' := H.sh lo
  rw [binarySort'_eq]
  rw [show max ok 1 = ok by omega]
  refine W.bind (W.rangeV (D := fun c b1 => c.1 = none ∧ ∃ P', b1 = abP lo pre pd mg P' ∧ Fm O lo nrem pre P' ∧ Rn nrem (sh O.lt lo) P' n) (fun k c b1 => c.1 = none ∧ ∃ P', b1 = abP lo pre pd mg P' ∧ Fm O lo nrem pre P' ∧ Rn nrem (sh O.lt lo) P' k) hn ⟨rfl, P, rfl, F, R⟩ ?_ ?_ |>.mono fun c b1 hc => ?_)
  · rintro k ⟨r, u⟩ b1 hk1 hk2 ⟨er, P', eb, F', R'⟩
    dsimp only at er
    subst eb er
    have ek : P'.getD k 0 = k := R'.tl k (Nat.le_refl _) (by omega)
    refine W.bind (W.range (D := fun c b1 => b1 = abP lo pre pd mg P' ∧ c.1 = none ∧ c.2.1 ≤ k ∧ (∀ i, i < c.2.1 → sh O.lt lo k (P'.getD i 0) = false) ∧ ∀ i, c.2.1 ≤ i → i < k → sh O.lt lo k (P'.getD i 0) = true)
      (fun j c b1 => b1 = abP lo pre pd mg P' ∧ c.1 = none ∧ c.2.1 ≤ c.2.2 ∧ c.2.2 ≤ k ∧ c.2.2 - c.2.1 ≤ j ∧ (∀ i, i < c.2.1 → sh O.lt lo k (P'.getD i 0) = false) ∧ ∀ i, c.2.2 ≤ i → i < k → sh O.lt lo k (P'.getD i 0) = true)
      ⟨rfl, rfl, Nat.zero_le _, Nat.le_refl _, by show k - 0 ≤ k - 0; omega, fun i hi => absurd hi (Nat.not_lt_zero _), fun i h1 h2 => absurd h1 (by show ¬ k ≤ i; omega)⟩ ?_ ?_ |>.mono fun c b1 hc => ?_)
    · rintro x j ⟨r, l, t⟩ b1 ⟨eb, er, q1, q2, q3, q4, q5⟩
      dsimp only at er q1 q2 q3 q4 q5 ⊢
      subst eb er
      by_cases c : l ≥ t
      · rw [if_pos c]
        exact W.pure ⟨rfl, rfl, by show l ≤ k; omega, q4, fun i h1 h2 => q5 i (by have : l ≤ i := h1; omega) h2⟩
      · rw [if_neg c]
        refine W.bind (W.ltF F' (by omega) (by omega) ?_)
        rw [ek]
        cases e : sh O.lt lo k (P'.getD ((l + t) / 2) 0) with
        | true =>
          simp only [if_true]
          refine W.pure ⟨rfl, rfl, by show l ≤ (l + t) / 2; omega, by show (l + t) / 2 ≤ k; omega, by show (l + t) / 2 - l ≤ j; omega, q4, fun i h1 h2 => ?_⟩
          rcases Nat.eq_or_lt_of_le (show (l + t) / 2 ≤ i from h1) with z | z
          · rw [← z]; exact e
          · exact lt_true H' e (R'.up.at H' z h2).1
        | false =>
          simp only [Bool.false_eq_true, if_false]
          refine W.pure ⟨rfl, rfl, by show (l + t) / 2 + 1 ≤ t; omega, q2, by show t - ((l + t) / 2 + 1) ≤ j; omega, fun i h1 => ?_, q5⟩
          have h1 : i < (l + t) / 2 + 1 := h1
          rcases Nat.lt_or_ge i ((l + t) / 2) with z | z
          · exact H'.tr _ _ _ e (R'.up.at H' z (by omega)).1
          · have : i = (l + t) / 2 := by omega
            rw [this]; exact e
    · rintro ⟨r, l, t⟩ b1 ⟨eb, er, q1, q2, q3, q4, q5⟩
      dsimp only at er q1 q2 q3 q4 q5
      exact ⟨eb, er, by show l ≤ k; omega, q4, fun i h1 h2 => q5 i (by have : l ≤ i := h1; omega) h2⟩
    · obtain ⟨r, l, t⟩ := c
      obtain ⟨eb, er, q1, q4, q5⟩ := hc
      dsimp only at er q1 q4 q5 ⊢
      subst eb er
      exact W.bind (W.movF F' (by omega) q1 (W.pure ⟨rfl, _, rfl, F'.of (bub_perm _ _ F'.perm), R'.put H' (by omega) q1 q4 q5⟩))
  · rintro ⟨r, u⟩ b1 hc
    exact hc
  · obtain ⟨r, u⟩ := c
    obtain ⟨er, P', eb, F', R'⟩ := hc
    dsimp only at er ⊢
    subst eb er
    exact W.pure (h P' F' R')
noncomputable def Gd (O : Orc) : Nat → List (List Nat) → List (Nat × Nat × Nat) → Prop
  | _, [], [] => True
  | s, r :: rs, d :: ds => d.1 = s ∧ d.2.1 = r.length ∧ 0 < r.length ∧ r.Perm (List.range' s r.length) ∧ r.Pairwise (Ah O.lt) ∧ Gd O (s + r.length) rs ds
  | _, _, _ => False
theorem Gd.len : ∀ {s : Nat} {rs : List (List Nat)} {ds : List (Nat × Nat × Nat)}, Gd O s rs ds → rs.length = ds.length
  | _, [], [], _ => rfl
  | _, _ :: _, _ :: _, h => by rw [List.length_cons, List.length_cons, Gd.len h.2.2.2.2.2]
  | _, [], _ :: _, h => h.elim
  | _, _ :: _, [], h => h.elim
theorem Gd.app : ∀ {s : Nat} {rs : List (List Nat)} {ds : List (Nat × Nat × Nat)} {rs' : List (List Nat)} {ds' : List (Nat × Nat × Nat)}, Gd O s rs ds → Gd O (s + rs.flatten.length) rs' ds' → Gd O s (rs ++ rs') (ds ++ ds')
  | _, [], [], _, _, _, h => by simpa using h
  | s, r :: rs, d :: ds, rs', ds', h, h' => by
    refine ⟨h.1, h.2.1, h.2.2.1, h.2.2.2.1, h.2.2.2.2.1, Gd.app h.2.2.2.2.2 ?_⟩
    rw [List.flatten_cons, List.length_append, ← Nat.add_assoc] at h'
    exact h'
  | _, [], _ :: _, _, _, h, _ => h.elim
  | _, _ :: _, [], _, _, h, _ => h.elim
theorem Gd.cut : ∀ {s : Nat} (rs : List (List Nat)) {ds : List (Nat × Nat × Nat)} {rs' : List (List Nat)}, Gd O s (rs ++ rs') ds → ∃ da db, ds = da ++ db ∧ Gd O s rs da ∧ Gd O (s + rs.flatten.length) rs' db
  | s, [], ds, rs', h => ⟨[], ds, rfl, trivial, by simpa using h⟩
  | s, r :: rs, [], rs', h => h.elim
  | s, r :: rs, d :: ds, rs', h => by
    obtain ⟨da, db, e, a, c⟩ := Gd.cut rs h.2.2.2.2.2
    refine ⟨d :: da, db, by rw [e]; rfl, ⟨h.1, h.2.1, h.2.2.1, h.2.2.2.1, h.2.2.2.2.1, a⟩, ?_⟩
    rw [List.flatten_cons, List.length_append, ← Nat.add_assoc]; exact c
theorem Gd.pair {rs : List (List Nat)} {ds : List (Nat × Nat × Nat)} (h : Gd O 0 rs ds) {i : Nat} (hi : i + 1 < rs.length) : ∃ A R1 R2 B pw pw2, rs = A ++ R1 :: R2 :: B ∧ A.length = i ∧ ds[i]? = some (A.flatten.length, R1.length, pw) ∧ ds[i + 1]? = some (A.flatten.length + R1.length, R2.length, pw2) ∧
    R1.Pairwise (Ah O.lt) ∧ R2.Pairwise (Ah O.lt) ∧ 0 < R1.length ∧ 0 < R2.length ∧ (∀ x ∈ R1, ∀ y ∈ R2, x < y) ∧
    ∀ M : List Nat, M.Perm (R1 ++ R2) → M.Pairwise (Ah O.lt) → Gd O 0 (A ++ M :: B) ((ds.set i (A.flatten.length, R1.length + R2.length, pw)).eraseIdx (i + 1)) := by
  have e1 : rs = rs.take i ++ rs[i] :: rs[i + 1] :: rs.drop (i + 2) := by
    have h1 := List.drop_eq_getElem_cons (show i < rs.length by omega)
    have h2 := List.drop_eq_getElem_cons hi
    have : rs.take i ++ rs.drop i = rs := List.take_append_drop i rs
    rw [h1, h2] at this
    exact this.symm
  have hA : (rs.take i).length = i := by rw [List.length_take]; omega
  generalize rs.take i = A at e1 hA
  generalize rs[i] = R1 at e1
  generalize rs[i + 1] = R2 at e1
  generalize rs.drop (i + 2) = B at e1
  subst e1
  obtain ⟨da, db, rfl, ga, gb⟩ := Gd.cut A h
  have hda := ga.len
  rw [Nat.zero_add] at gb
  match db, gb with
  | [], gb => exact gb.elim
  | [_], gb => exact gb.2.2.2.2.2.elim
  | (u, nu, pw) :: (v, nv, pw2) :: db, gb =>
    obtain ⟨x1, x2, x3, x4, x5, y1, y2, y3, y4, y5, gz⟩ := gb
    dsimp only at x1 x2 y1 y2
    subst x1 x2 y1 y2
    have la : da.length = i := by omega
    refine ⟨A, R1, R2, B, pw, pw2, rfl, hA, ?_, ?_, x5, y5, x3, y3, fun x hx y hy => ?_, fun M hm hs => ?_⟩
    · rw [List.getElem?_append_right (by omega), la, Nat.sub_self]; rfl
    · rw [List.getElem?_append_right (by omega), la, show i + 1 - i = 1 by omega]; rfl
    · have hx' := x4.mem_iff.mp hx
      have hy' := y4.mem_iff.mp hy
      rw [List.mem_range'_1] at hx' hy'
      omega
    · have ml : M.length = R1.length + R2.length := by rw [hm.length_eq, List.length_append]
      have ed : ((da ++ (A.flatten.length, R1.length, pw) :: (A.flatten.length + R1.length, R2.length, pw2) :: db).set i (A.flatten.length, R1.length + R2.length, pw)).eraseIdx (i + 1) = da ++ (A.flatten.length, R1.length + R2.length, pw) :: db := by
        rw [List.set_append_right _ _ (by omega), la, Nat.sub_self, List.set_cons_zero, List.eraseIdx_append_of_length_le (by omega), la, show i + 1 - i = 1 by omega]
        rfl
      rw [ed]
      refine ga.app ⟨?_, ml.symm, by omega, ?_, hs, ?_⟩
      · show _ = 0 + A.flatten.length; omega
      · rw [Nat.zero_add, ml, ← List.range'_append_1]
        exact hm.trans (x4.append y4)
      · rw [Nat.zero_add, ml, ← Nat.add_assoc]; exact gz
theorem Gd.below : ∀ {s : Nat} {rs : List (List Nat)} {ds : List (Nat × Nat × Nat)}, Gd O s rs ds → ∀ x ∈ rs.flatten, x < s + rs.flatten.length
  | _, [], [], _, x, hx => by simp at hx
  | s, r :: rs, d :: ds, h, x, hx => by
    rw [List.flatten_cons] at hx ⊢
    rw [List.length_append]
    rcases List.mem_append.mp hx with z | z
    · have := List.mem_range'_1.mp (h.2.2.2.1.mem_iff.mp z); omega
    · have := Gd.below h.2.2.2.2.2 x z; omega
  | _, [], _ :: _, h, _, _ => h.elim
  | _, _ :: _, [], h, _, _ => h.elim
theorem Gd.many : ∀ {s : Nat} {rs : List (List Nat)} {ds : List (Nat × Nat × Nat)}, Gd O s rs ds → rs.length ≤ rs.flatten.length
  | _, [], [], _ => Nat.le_refl _
  | s, r :: rs, d :: ds, h => by
    have := Gd.many h.2.2.2.2.2
    have := h.2.2.1
    rw [List.flatten_cons, List.length_append, List.length_cons]; omega
  | _, [], _ :: _, h => h.elim
  | _, _ :: _, [], h => h.elim
theorem Gd.pow {f : Nat × Nat × Nat → Nat × Nat × Nat} (hf : ∀ d, (f d).1 = d.1 ∧ (f d).2.1 = d.2.1) : ∀ {s : Nat} {rs : List (List Nat)} {ds : List (Nat × Nat × Nat)} (i : Nat), Gd O s rs ds → Gd O s rs (ds.modify i f)
  | _, [], [], i, _ => by simp; trivial
  | s, r :: rs, d :: ds, 0, h => by
    rw [List.modify_zero_cons]
    exact ⟨(hf d).1.trans h.1, (hf d).2.trans h.2.1, h.2.2⟩
  | s, r :: rs, d :: ds, i + 1, h => by
    rw [List.modify_succ_cons]
    exact ⟨h.1, h.2.1, h.2.2.1, h.2.2.2.1, h.2.2.2.2.1, Gd.pow hf i h.2.2.2.2.2⟩
  | _, [], _ :: _, _, h => h.elim
  | _, _ :: _, [], _, h => h.elim
theorem map_sh (lo n : Nat) : (List.range n).map (· + lo) = List.range' lo n := by
  have : (fun x : Nat => x + lo) = fun x => lo + x := funext fun x => Nat.add_comm x lo
  rw [this, List.range_eq_range', List.map_add_range']; simp
theorem Rn.split (R : Rn nrem (sh O.lt lo) P n) (H : Lt O.lt) : ∃ r, P.toList.map (· + lo) = r ++ List.range' (lo + n) (nrem - n) ∧ r.length = n ∧ r.Perm (List.range' lo n) ∧ r.Pairwise (Ah O.lt) := by
  have Pm := pm_of R.perm
  have ht := R.top
  have hz := Pm.sz
  have hr : List.range' lo nrem = List.range' lo n ++ List.range' (lo + n) (nrem - n) := by rw [List.range'_append_1]; congr 1; omega
  have hp : (P.toList.map (· + lo)).Perm (List.range' lo nrem) := by
    have h1 : P.toList.Perm (List.range nrem) := by simpa using Array.perm_iff_toList_perm.mp R.perm
    have h2 : (List.range nrem).map (· + lo) = List.range' lo nrem := map_sh lo nrem
    rw [← h2]; exact h1.map _
  have hd : (P.toList.drop n).map (· + lo) = List.range' (lo + n) (nrem - n) := by
    apply List.ext_getElem
    · simp [hz]
    · intro i h1 h2
      have hi : n + i < nrem := by simp at h2; omega
      have := R.tl (n + i) (by omega) hi
      have e : P.getD (n + i) 0 = P.toList[n + i]'(by simp [hz]; exact hi) := by simp [Array.getD, hz, hi]
      rw [e] at this
      rw [List.getElem_map, List.getElem_drop, this, List.getElem_range']
      omega
  refine ⟨(P.toList.take n).map (· + lo), ?_, by simp [hz]; omega, ?_, ?_⟩
  · rw [← hd, ← List.map_append, List.take_append_drop]
  · have : ((P.toList.take n).map (· + lo) ++ List.range' (lo + n) (nrem - n)).Perm (List.range' lo n ++ List.range' (lo + n) (nrem - n)) := by
      rw [← hd, ← List.map_append, List.take_append_drop, hd, ← hr]; exact hp
    exact (List.perm_append_right_iff _).mp this
  · rw [List.pairwise_iff_getElem]
    intro i j hi hj hij
    have hi' : i < n := by simp at hi; omega
    have hj' : j < n := by simp at hj; omega
    have := R.up.at (H.sh lo) hij hj'
    have e1 : P.getD i 0 = P.toList[i]'(by simp [hz]; omega) := by simp [Array.getD, hz, show i < nrem by omega]
    have e2 : P.getD j 0 = P.toList[j]'(by simp [hz]; omega) := by simp [Array.getD, hz, show j < nrem by omega]
    rw [e1, e2] at this
    simp only [List.getElem_map, List.getElem_take]
    exact ⟨this.1, fun z => Nat.add_lt_add_right (this.2 z) lo⟩
theorem W.runs {N : Nat} {Q : Unit → Ab → Prop} (H : Lt O.lt) (hN : O.N = N) (h2 : 2 ≤ N) (h : ∀ b' : Ab, b'.p.toList.Perm (List.range N) → b'.p.toList.Pairwise (Ah O.lt) → Q () b') : W O sortRuns' Q ⟨List.toArray (List.range N), #[], 7⟩ := by
  rw [sortRuns'_eq]
  refine W.bind (W.get ?_)
  have hz : (arrOf (Ab.st O ⟨List.toArray (List.range N), #[], 7⟩)).size = N := by
    show ((List.toArray (List.range N)).map (kas_item O.it)).size = N
    simp
  simp only [hz]
  generalize minRun' N N 0 = mr
  have merge : ∀ (rs : List (List Nat)) (suf : List Nat) (b1 : Ab) (i : Nat), b1.p.toList = rs.flatten ++ suf → Gd O 0 rs b1.pd.toList → (∀ x ∈ suf, x < N) → rs.flatten.length ≤ N → i + 1 < rs.length → ∀ (Q : Bool → Ab → Prop),
      (∀ (rs' : List (List Nat)) (b2 : Ab), b2.p.toList = rs'.flatten ++ suf → Gd O 0 rs' b2.pd.toList → rs'.flatten.length = rs.flatten.length → rs'.length + 1 = rs.length → Q true b2) → W O (mergeAt' i) Q b1 := by
    intro rs suf b1 i e g hs hl hi Q hQ
    obtain ⟨p1, d1, m1⟩ := b1
    dsimp only at e g
    obtain ⟨A, R1, R2, B, pw, pw2, rfl, hA, dd1, dd2, s1, s2, l1, l2, xy, mk⟩ := g.pair hi
    have e' : p1.toList = A.flatten ++ (R1 ++ (R2 ++ (B.flatten ++ suf))) := by rw [e]; simp
    have bl := g.below
    refine W.mAt (pre := A.flatten) (R1 := R1) (R2 := R2) (suf := B.flatten ++ suf) ⟨H, e', fun k hk => ?_, s1, s2, xy, l1, l2⟩ (by simpa using dd1) (by simpa using dd2) fun M p' mg' hm hs' ep => ?_
    · have hk' : k < p1.toList.length := by simpa using hk
      have ek : p1.getD k 0 = p1.toList[k] := by simp [Array.getD, hk]
      rw [ek, hN]
      have hmem : p1.toList[k] ∈ (A ++ R1 :: R2 :: B).flatten ++ suf := by rw [← e]; exact List.getElem_mem hk'
      rcases List.mem_append.mp hmem with z | z
      · have := bl _ z; omega
      · exact hs _ z
    · refine hQ (A ++ M :: B) _ (by rw [ep]; simp) ?_ ?_ (by simp; omega)
      · have := mk M hm hs'
        have ex : ((d1.setIfInBounds i (A.flatten.length, R1.length + R2.length, pw)).eraseIdxIfInBounds (i + 1)).toList = (d1.toList.set i (A.flatten.length, R1.length + R2.length, pw)).eraseIdx (i + 1) := by
          simp
        show Gd O 0 (A ++ M :: B) ((d1.setIfInBounds i (A.flatten.length, R1.length + R2.length, pw)).eraseIdxIfInBounds (i + 1)).toList
        rw [ex]; exact this
      · have := hm.length_eq
        simp only [List.flatten_append, List.flatten_cons, List.length_append] at this ⊢
        omega
  refine W.bind (W.range (D := fun c b1 => c.1 = none ∧ c.2 = N ∧ ∃ rs : List (List Nat), b1.p.toList = rs.flatten ++ List.range' c.2 (N - c.2) ∧ Gd O 0 rs b1.pd.toList ∧ rs.flatten.length = c.2) (fun k c b1 => c.1 = none ∧ c.2 ≤ N ∧ N ≤ c.2 + k ∧ ∃ rs : List (List Nat), b1.p.toList = rs.flatten ++ List.range' c.2 (N - c.2) ∧ Gd O 0 rs b1.pd.toList ∧ rs.flatten.length = c.2) ⟨rfl, Nat.zero_le _, by show N ≤ 0 + (N - 0); omega, [], by show (List.toArray (List.range N)).toList = [] ++ List.range' 0 (N - 0); simp [List.range_eq_range'], by exact trivial, rfl⟩ ?_ ?_ |>.mono fun c b1 hc => ?_)
  rotate_left
  · rintro ⟨r, lo⟩ b1 ⟨er, q1, q2, q3⟩
    dsimp only at er q1 q2 q3
    exact ⟨er, by show lo = N; omega, q3⟩
  · obtain ⟨r, lo⟩ := c
    obtain ⟨er, q1, rs, e, g, hl⟩ := hc
    dsimp only at er q1 e g hl ⊢
    subst er q1
    rw [Nat.sub_self, List.range'_zero] at e
    have gm := g.many
    refine W.bind (W.range (D := fun c b2 => c.1 = none ∧ ∃ rs' : List (List Nat), b2.p.toList = rs'.flatten ++ [] ∧ Gd O 0 rs' b2.pd.toList ∧ rs'.flatten.length = lo ∧ rs'.length ≤ 1) (fun k c b2 => c.1 = none ∧ ∃ rs' : List (List Nat), b2.p.toList = rs'.flatten ++ [] ∧ Gd O 0 rs' b2.pd.toList ∧ rs'.flatten.length = lo ∧ rs'.length ≤ k + 1) ⟨rfl, rs, e, g, hl, by show rs.length ≤ lo - 0 + 1; omega⟩ ?_ ?_ |>.mono fun c b2 hc => ?_)
    · rintro x k ⟨r, u⟩ b2 ⟨er, rs', e', g', hl', hk⟩
      dsimp only at er
      subst er
      refine W.bind (W.get ?_)
      have hp : pendingOf (Ab.st O b2) = b2.pd := rfl
      simp only [hp]
      have hps : b2.pd.size = rs'.length := by rw [g'.len]; simp
      by_cases c1 : b2.pd.size ≤ 1
      · rw [if_pos c1]
        exact W.pure ⟨rfl, rs', e', g', hl', by omega⟩
      rw [if_neg c1]
      refine W.bind ?_
      refine merge rs' [] b2 _ e' g' (fun x hx => nomatch hx) (by omega) ?_ _ fun rs2 b3 e3 g3 hl3 hk3 => ?_
      · (repeat' split) <;> omega
      simp only [Bool.not_true, Bool.false_eq_true, if_false]
      exact W.pure ⟨rfl, rs2, e3, g3, by omega, by omega⟩
    · rintro ⟨r, u⟩ b2 ⟨er, rs', e', g', hl', hk⟩
      exact ⟨er, rs', e', g', hl', by omega⟩
    · obtain ⟨r, u⟩ := c
      obtain ⟨er, rs', e', g', hl', hk⟩ := hc
      dsimp only at er ⊢
      subst er
      dsimp only
      refine W.pure ?_
      match rs', hk with
      | [], _ => simp at hl'; omega
      | [r], _ =>
        have ev1 : b2.p.toList = r := by rw [e']; simp
        have lr : r.length = lo := by simpa using hl'
        match hd : b2.pd.toList, g' with
        | d :: ds, g' =>
          have pr := g'.2.2.2.1
          rw [lr] at pr
          refine h b2 (by rw [ev1, List.range_eq_range']; exact pr) (by rw [ev1]; exact g'.2.2.2.2.1)
  rintro x k ⟨r, lo⟩ b1 ⟨er, q1, q2, rs, e, g, hl⟩
  dsimp only at er q1 q2 e g hl ⊢
  subst er
  by_cases c0 : lo ≥ N
  · rw [if_pos c0]
    exact W.pure ⟨rfl, by show lo = N; omega, rs, e, g, hl⟩
  rw [if_neg c0]
  obtain ⟨p1, d1, m1⟩ := b1
  dsimp only at e g
  have F0 : Fm O lo (N - lo) rs.flatten (List.toArray (List.range (N - lo))) := ⟨hl, fun x hx => by have := g.below x hx; rw [hN]; omega, by rw [hN]; omega, Array.Perm.refl _⟩
  have eb : (⟨p1, d1, m1⟩ : Ab) = abP lo rs.flatten d1 m1 (List.toArray (List.range (N - lo))) := by
    unfold abP
    congr 1
    apply Array.toList_inj.mp
    rw [e]
    have : (List.range (N - lo)).map (· + lo) = List.range' lo (N - lo) := map_sh lo (N - lo)
    simp [this]
  rw [eb]
  have HS := H.sh lo
  obtain ⟨n1, R1⟩ := Sat.ev _ (sat_count (N := N - lo) HS (by omega))
  refine W.bind (W.cnt F0 (by omega) ?_)
  generalize ev (sh O.lt lo) (kas_count (N - lo) (List.toArray (List.range (N - lo)))) = R at n1 R1 ⊢
  obtain ⟨n, P1⟩ := R
  dsimp only at n1 R1 ⊢
  have nt := R1.top
  have F1 : Fm O lo (N - lo) rs.flatten P1 := F0.of R1.perm
  by_cases c1 : n < mr
  · rw [if_pos c1]
    refine W.bind (W.rule ?_)
    refine W.bind (W.bin H F1 R1 n1 (show n ≤ min (N - lo) mr by omega) (by omega) fun P2 F2 R2 => ?_)
    have n2 : 1 ≤ min (N - lo) mr := by omega
    have nt2 : min (N - lo) mr ≤ N - lo := by omega
    generalize min (N - lo) mr = n' at R2 n2 nt2 ⊢
    simp only [Bool.not_true, Bool.false_eq_true, if_false]
    obtain ⟨r, er1, er2, er3, er4⟩ := R2.split H
    have hsuf : ∀ x ∈ r ++ List.range' (lo + n') (N - lo - n'), x < N := fun x hx => by
      rcases List.mem_append.mp hx with z | z
      · have := List.mem_range'_1.mp (er3.mem_iff.mp z); omega
      · have := List.mem_range'_1.mp z; omega
    have fin : ∀ (rs2 : List (List Nat)) (b2 : Ab), b2.p.toList = rs2.flatten ++ (r ++ List.range' (lo + n') (N - lo - n')) → Gd O 0 rs2 b2.pd.toList → rs2.flatten.length = lo → (fun c (b1 : Ab) => c.1 = none ∧ c.2 ≤ N ∧ N ≤ c.2 + k ∧ ∃ rs : List (List Nat), b1.p.toList = rs.flatten ++ List.range' c.2 (N - c.2) ∧ Gd O 0 rs b1.pd.toList ∧ rs.flatten.length = c.2) ((none : Option PUnit), lo + n') { b2 with pd := b2.pd.push (lo, n', 0) } := fun rs2 b2 e2 g2 l2 => by
      refine ⟨rfl, by show lo + n' ≤ N; omega, by show N ≤ lo + n' + k; omega, rs2 ++ [r], ?_, ?_, ?_⟩
      · show b2.p.toList = _ ++ List.range' (lo + n') (N - (lo + n'))
        rw [e2, show N - (lo + n') = N - lo - n' by omega]; simp
      · show Gd O 0 (rs2 ++ [r]) (b2.pd.push (lo, n', 0)).toList
        rw [Array.toList_push]
        refine g2.app ⟨by show lo = 0 + rs2.flatten.length; omega, by show n' = r.length; omega, by omega, ?_, er4, trivial⟩
        rw [Nat.zero_add, l2, er2]; exact er3
      · show (rs2 ++ [r]).flatten.length = lo + n'; simp at l2 ⊢; omega
    have e0 : (abP lo rs.flatten d1 m1 P2).p.toList = rs.flatten ++ (r ++ List.range' (lo + n') (N - lo - n')) := by rw [← er1]; rfl
    refine W.bind (W.get ?_)
    have hp : pendingOf (Ab.st O (abP lo rs.flatten d1 m1 P2)) = d1 := rfl
    simp only [hp]
    cases hb : d1.back? with
    | none =>
      dsimp only
      exact W.bind (W.modify { abP lo rs.flatten d1 m1 P2 with pd := d1.push (lo, n', 0) } rfl (W.pure (fin rs _ e0 g hl)))
    | some w9 =>
      obtain ⟨u9, v9, z9⟩ := w9
      dsimp only
      generalize power' N (2 * u9 + v9) (2 * u9 + v9 + v9 + n') N = pw9
      refine W.bind (W.range (D := fun c b2 => c.1 = none ∧ ∃ rs2 : List (List Nat), b2.p.toList = rs2.flatten ++ (r ++ List.range' (lo + n') (N - lo - n')) ∧ Gd O 0 rs2 b2.pd.toList ∧ rs2.flatten.length = lo) (fun k c b2 => c.1 = none ∧ ∃ rs2 : List (List Nat), b2.p.toList = rs2.flatten ++ (r ++ List.range' (lo + n') (N - lo - n')) ∧ Gd O 0 rs2 b2.pd.toList ∧ rs2.flatten.length = lo) ⟨rfl, rs, e0, g, hl⟩ ?_ ?_ |>.mono fun c b2 hc => ?_)
      · rintro x k ⟨r2, u2⟩ b2 ⟨er, rs2, e2, g2, l2⟩
        dsimp only at er
        subst er
        refine W.bind (W.get ?_)
        have hp : pendingOf (Ab.st O b2) = b2.pd := rfl
        simp only [hp]
        have hps : b2.pd.size = rs2.length := by rw [g2.len]; simp
        cases ho : (if b2.pd.size > 1 then b2.pd[b2.pd.size - 2]? else none) with
        | none => exact W.pure ⟨rfl, rs2, e2, g2, l2⟩
        | some w8 =>
          obtain ⟨u8, v8, z8⟩ := w8
          dsimp only
          have hgt : b2.pd.size > 1 := by
            by_cases q : b2.pd.size > 1
            · exact q
            · rw [if_neg q] at ho; cases ho
          refine W.ite (fun _ => W.pure ⟨rfl, rs2, e2, g2, l2⟩) (fun _ => ?_)
          refine W.bind (merge rs2 _ b2 _ e2 g2 hsuf (by omega) (by omega) _ fun rs3 b3 e3 g3 l3 k3 => ?_)
          simp only [Bool.not_true, Bool.false_eq_true, if_false]
          exact W.pure ⟨rfl, rs3, e3, g3, by omega⟩
      · rintro ⟨r2, u2⟩ b2 hc
        exact hc
      · obtain ⟨r2, u2⟩ := c
        obtain ⟨er, rs2, e2, g2, l2⟩ := hc
        dsimp only at er ⊢
        subst er
        dsimp only
        have g3 : Gd O 0 rs2 (b2.pd.modify (b2.pd.size - 1) fun x => (x.1, x.2.1, pw9)).toList := by
          rw [Array.toList_modify]
          exact g2.pow (f := fun x => (x.1, x.2.1, pw9)) (fun d => ⟨rfl, rfl⟩) _
        refine W.bind (W.modify { b2 with pd := b2.pd.modify (b2.pd.size - 1) fun x => (x.1, x.2.1, pw9) } rfl ?_)
        exact W.bind (W.modify { b2 with pd := (b2.pd.modify (b2.pd.size - 1) fun x => (x.1, x.2.1, pw9)).push (lo, n', 0) } rfl (W.pure (fin rs2 { b2 with pd := b2.pd.modify (b2.pd.size - 1) fun x => (x.1, x.2.1, pw9) } e2 g3 l2)))
  · rw [if_neg c1]
    obtain ⟨r, er1, er2, er3, er4⟩ := R1.split H
    have hsuf : ∀ x ∈ r ++ List.range' (lo + n) (N - lo - n), x < N := fun x hx => by
      rcases List.mem_append.mp hx with z | z
      · have := List.mem_range'_1.mp (er3.mem_iff.mp z); omega
      · have := List.mem_range'_1.mp z; omega
    have fin : ∀ (rs2 : List (List Nat)) (b2 : Ab), b2.p.toList = rs2.flatten ++ (r ++ List.range' (lo + n) (N - lo - n)) → Gd O 0 rs2 b2.pd.toList → rs2.flatten.length = lo → (fun c (b1 : Ab) => c.1 = none ∧ c.2 ≤ N ∧ N ≤ c.2 + k ∧ ∃ rs : List (List Nat), b1.p.toList = rs.flatten ++ List.range' c.2 (N - c.2) ∧ Gd O 0 rs b1.pd.toList ∧ rs.flatten.length = c.2) ((none : Option PUnit), lo + n) { b2 with pd := b2.pd.push (lo, n, 0) } := fun rs2 b2 e2 g2 l2 => by
      refine ⟨rfl, by show lo + n ≤ N; omega, by show N ≤ lo + n + k; omega, rs2 ++ [r], ?_, ?_, ?_⟩
      · show b2.p.toList = _ ++ List.range' (lo + n) (N - (lo + n))
        rw [e2, show N - (lo + n) = N - lo - n by omega]; simp
      · show Gd O 0 (rs2 ++ [r]) (b2.pd.push (lo, n, 0)).toList
        rw [Array.toList_push]
        refine g2.app ⟨by show lo = 0 + rs2.flatten.length; omega, by show n = r.length; omega, by omega, ?_, er4, trivial⟩
        rw [Nat.zero_add, l2, er2]; exact er3
      · show (rs2 ++ [r]).flatten.length = lo + n; simp at l2 ⊢; omega
    have e0 : (abP lo rs.flatten d1 m1 P1).p.toList = rs.flatten ++ (r ++ List.range' (lo + n) (N - lo - n)) := by rw [← er1]; rfl
    refine W.bind (W.get ?_)
    have hp : pendingOf (Ab.st O (abP lo rs.flatten d1 m1 P1)) = d1 := rfl
    simp only [hp]
    cases hb : d1.back? with
    | none =>
      dsimp only
      exact W.bind (W.modify { abP lo rs.flatten d1 m1 P1 with pd := d1.push (lo, n, 0) } rfl (W.pure (fin rs _ e0 g hl)))
    | some w9 =>
      obtain ⟨u9, v9, z9⟩ := w9
      dsimp only
      generalize power' N (2 * u9 + v9) (2 * u9 + v9 + v9 + n) N = pw9
      refine W.bind (W.range (D := fun c b2 => c.1 = none ∧ ∃ rs2 : List (List Nat), b2.p.toList = rs2.flatten ++ (r ++ List.range' (lo + n) (N - lo - n)) ∧ Gd O 0 rs2 b2.pd.toList ∧ rs2.flatten.length = lo) (fun k c b2 => c.1 = none ∧ ∃ rs2 : List (List Nat), b2.p.toList = rs2.flatten ++ (r ++ List.range' (lo + n) (N - lo - n)) ∧ Gd O 0 rs2 b2.pd.toList ∧ rs2.flatten.length = lo) ⟨rfl, rs, e0, g, hl⟩ ?_ ?_ |>.mono fun c b2 hc => ?_)
      · rintro x k ⟨r2, u2⟩ b2 ⟨er, rs2, e2, g2, l2⟩
        dsimp only at er
        subst er
        refine W.bind (W.get ?_)
        have hp : pendingOf (Ab.st O b2) = b2.pd := rfl
        simp only [hp]
        have hps : b2.pd.size = rs2.length := by rw [g2.len]; simp
        cases ho : (if b2.pd.size > 1 then b2.pd[b2.pd.size - 2]? else none) with
        | none => exact W.pure ⟨rfl, rs2, e2, g2, l2⟩
        | some w8 =>
          obtain ⟨u8, v8, z8⟩ := w8
          dsimp only
          have hgt : b2.pd.size > 1 := by
            by_cases q : b2.pd.size > 1
            · exact q
            · rw [if_neg q] at ho; cases ho
          refine W.ite (fun _ => W.pure ⟨rfl, rs2, e2, g2, l2⟩) (fun _ => ?_)
          refine W.bind (merge rs2 _ b2 _ e2 g2 hsuf (by omega) (by omega) _ fun rs3 b3 e3 g3 l3 k3 => ?_)
          simp only [Bool.not_true, Bool.false_eq_true, if_false]
          exact W.pure ⟨rfl, rs3, e3, g3, by omega⟩
      · rintro ⟨r2, u2⟩ b2 hc
        exact hc
      · obtain ⟨r2, u2⟩ := c
        obtain ⟨er, rs2, e2, g2, l2⟩ := hc
        dsimp only at er ⊢
        subst er
        dsimp only
        have g3 : Gd O 0 rs2 (b2.pd.modify (b2.pd.size - 1) fun x => (x.1, x.2.1, pw9)).toList := by
          rw [Array.toList_modify]
          exact g2.pow (f := fun x => (x.1, x.2.1, pw9)) (fun d => ⟨rfl, rfl⟩) _
        refine W.bind (W.modify { b2 with pd := b2.pd.modify (b2.pd.size - 1) fun x => (x.1, x.2.1, pw9) } rfl ?_)
        exact W.bind (W.modify { b2 with pd := (b2.pd.modify (b2.pd.size - 1) fun x => (x.1, x.2.1, pw9)).push (lo, n, 0) } rfl (W.pure (fin rs2 { b2 with pd := b2.pd.modify (b2.pd.size - 1) fun x => (x.1, x.2.1, pw9) } e2 g3 l2)))
end
end L2

namespace HT
open PySem PyProof.Rows PySem.W L2
theorem big_run {prog : Program} {w : World} {A : Around} {E : Value → Shared → Prop} {s : Shared} {κ : SortKind} {lt : Nat → Nat → Bool} {ks vs : List Value} {I : Shared → Prop} (hl : ks.length = vs.length) (h2 : 2 ≤ vs.length) (H : Lt lt) (hI : I s)
    (hc : ∀ i j s', i < vs.length → j < vs.length → I s' → wpAny (model prog w) A (keyLt' κ (ks.getD i Value.none) (ks.getD j Value.none)) (fun b s'' => b = lt i j ∧ I s'') (fun _ _ => False) s') :
    wpAny (model prog w) A ((sortRuns').run (SortSt.mk' κ (ks.toArray.zip vs.toArray) #[] 7 none))
      (fun r s' => ∃ p : Array Nat, arrOf r.2 = p.map (kas_item (ks.toArray.zip vs.toArray)) ∧ failedOf r.2 = none ∧ p.size = vs.length ∧ I s' ∧ p.toList.Perm (List.range vs.length) ∧ p.toList.Pairwise (Ah lt)) E s := by
  have hc' : ∀ i j s', i < vs.length → j < vs.length → I s' → kas_cmp prog w A κ (ks.toArray.zip vs.toArray) i j (fun b s'' => b = lt i j ∧ I s'') s' := fun i j s' hi hj hs => by
    have := hc i j s' hi hj hs
    rw [← kat_ask_eq (prog := prog) (w := w) (A := A) (κ := κ) hl]
    exact this
  have run := W.runs (O := ⟨prog, w, A, E, κ, ks.toArray.zip vs.toArray, vs.length, lt, I, hc'⟩) (N := vs.length) (Q := fun _ b' => b'.p.toList.Perm (List.range vs.length) ∧ b'.p.toList.Pairwise (Ah lt)) H rfl h2 (fun b' h1 h2 => ⟨h1, h2⟩) s hI
  have est : SortSt.mk' κ (ks.toArray.zip vs.toArray) #[] 7 none = Ab.st ⟨prog, w, A, E, κ, ks.toArray.zip vs.toArray, vs.length, lt, I, hc'⟩ ⟨List.toArray (List.range vs.length), #[], 7⟩ := by
    have e := kas_range (ks.toArray.zip vs.toArray)
    rw [show (ks.toArray.zip vs.toArray).size = vs.length by simp [hl]] at e
    show SortSt.mk' κ (ks.toArray.zip vs.toArray) #[] 7 none = SortSt.mk' κ ((List.toArray (List.range vs.length)).map (kas_item (ks.toArray.zip vs.toArray))) #[] 7 none
    rw [e]
  rw [est]
  refine wpAny_mono run (fun r s' hr => ?_) fun _ _ z => z
  obtain ⟨hi, b', eb, p1, p2⟩ := hr
  obtain ⟨u, st⟩ := r
  have eb : st = Ab.st _ b' := eb
  subst eb
  exact ⟨b'.p, rfl, rfl, by rw [← Array.length_toList, p1.length_eq, List.length_range], hi, p1, p2⟩
end HT

namespace HT
open PySem PyProof.Rows PySem.W L2
section
variable {prog : Program} {w : World} {A : Around} {E : Value → Shared → Prop} {s : Shared}
theorem pw_small {R : Nat → Nat → Prop} (n : Nat) (h : n < 2) : (List.range n).Pairwise R := by
  match n, h with
  | 0, _ => exact .nil
  | 1, _ => exact List.pairwise_singleton _ _
theorem list_sort_own {a : Addr} {vs : List Value} {n : Nat} {κ : SortKind} {lt : Nat → Nat → Bool} {P : PySem.Fin → Shared → Prop} (ho : s.heap.get? a = some (seqObj "list" vs.toArray n)) (h64 : vs.length < 1000) (H : Lt lt)
    (hk : ∀ h' (Q : SortKind → Shared → Prop), 2 ≤ vs.length → (∀ b o, b ≠ a → s.heap.get? b = some o → h'.get? b = some o) → Q κ { s with heap := h' } → wpAny (model prog w) A (keyKind' vs.toArray) Q (fun _ _ => False) { s with heap := h' })
    (hc : ∀ h' i j (Q : Bool → Shared → Prop), i < vs.length → j < vs.length → (∀ b o, b ≠ a → s.heap.get? b = some o → h'.get? b = some o) → Q (lt i j) { s with heap := h' } →
      wpAny (model prog w) A (keyLt' κ (vs.getD i Value.none) (vs.getD j Value.none)) Q (fun _ _ => False) { s with heap := h' })
    (h : ∀ p : List Nat, p.Perm (List.range vs.length) → p.Pairwise (Ah lt) → P (.done (.ret .none)) { s with heap := sortedHeap s.heap a vs (List.toArray (p.map fun i => vs.getD i Value.none)) }) :
    wpAny (model prog w) A (Builtin.«list.sort» ⟨[.ref a], []⟩) P E s := by
  rw [list_sort_plain]
  have ha : a < s.heap.objs.size := Heap.lt_size ho
  refine wpAny_bind (listItems_at ho rfl ?_)
  refine wpAny_bind (listUpdate_at ho rfl ?_ (by rw [List.size_toArray, sizeLine_eq]; omega) (Nat.zero_le _))
  obtain ⟨e1, ho1⟩ : ∃ e1, (s.heap.update a (Obj.mapSeq fun _ => (#[] : Array Value))).get? a = some (seqObj "list" #[] e1) := ⟨_, get?_update_seq ho (fun _ => #[])⟩
  refine wpAny_bind (seqEpoch_at ho1 rfl ?_)
  refine wpAny_bind (wpAny_newTuple ?_ (by show vs.length ≤ _; rw [sizeLine_eq]; omega))
  refine wpAny_bind (wpAny_newList ?_ (Nat.zero_le _))
  refine wpAny_holding ?_
  have ho6 : (((s.heap.update a (Obj.mapSeq fun _ => (#[] : Array Value))).push (seqObj "tuple" vs.toArray 0)).push (seqObj "list" #[] 0)).get? a = some (seqObj "list" #[] e1) := by
    rw [Heap.get?_push_ne _ _ _ (by rw [size_push', Heap.size_update]; exact Nat.ne_of_lt (Nat.lt_succ_of_lt ha)), Heap.get?_push_ne _ _ _ (by rw [Heap.size_update]; exact Nat.ne_of_lt ha)]
    exact ho1
  have kp : ∀ b o, b ≠ a → s.heap.get? b = some o → (((s.heap.update a (Obj.mapSeq fun _ => (#[] : Array Value))).push (seqObj "tuple" vs.toArray 0)).push (seqObj "list" #[] 0)).get? b = some o := fun b o hb e => by
    have hlt := Heap.lt_size e
    rw [Heap.get?_push_ne _ _ _ (by rw [size_push', Heap.size_update]; exact Nat.ne_of_lt (Nat.lt_succ_of_lt hlt)), Heap.get?_push_ne _ _ _ (by rw [Heap.size_update]; exact Nat.ne_of_lt hlt), Heap.get?_update_ne _ _ _ _ hb]
    exact e
  show wpAny (model prog w) A _ P E { s with heap := ((s.heap.update a (Obj.mapSeq fun _ => (#[] : Array Value))).push (seqObj "tuple" vs.toArray 0)).push (seqObj "list" #[] 0) }
  dsimp only
  have hsz : vs.toArray.size = vs.length := by simp
  by_cases h2 : vs.toArray.size < 2
  · rw [if_pos h2, if_pos h2]
    refine wpAny_bind (wpAny_pure ?_)
    rw [StateT.run_pure]
    refine wpAny_bind (wpAny_pure ?_)
    dsimp only
    refine wpAny_bind (seqEpoch_at ho6 rfl ?_)
    refine wpAny_bind (listUpdate_at ho6 rfl ?_ (Nat.zero_le _) (by rw [Array.size_map]; show (pairsOf vs).size ≤ _; rw [pairsOf_size, sizeLine_eq]; omega))
    simp only [bne_self_eq_false, Bool.false_eq_true, if_false]
    have := h (List.range vs.length) (List.Perm.refl _) (pw_small _ (by omega))
    have eo : (arrOf (SortSt.mk' general' (vs.toArray.zip vs.toArray) #[] 7 none)).map (·.2) = List.toArray ((List.range vs.length).map fun i => vs.getD i Value.none) := by
      have e := kas_range (vs.toArray.zip vs.toArray)
      rw [show (vs.toArray.zip vs.toArray).size = vs.length by simp] at e
      have := kat_snds (st := SortSt.mk' general' (vs.toArray.zip vs.toArray) #[] 7 none) (ks := vs) (vs := vs) rfl e.symm
      simpa using this
    rw [← eo] at this
    exact wpAny_pure this
  · rw [if_neg h2, if_neg h2]
    refine wpAny_bind (wpAny_mono (hk _ (fun κ' s' => κ' = κ ∧ s' = { s with heap := ((s.heap.update a (Obj.mapSeq fun _ => (#[] : Array Value))).push (seqObj "tuple" vs.toArray 0)).push (seqObj "list" #[] 0) }) (by omega) kp ⟨rfl, rfl⟩) (fun κ' s' hh => ?_) fun _ _ x => x.elim)
    obtain ⟨rfl, rfl⟩ := hh
    refine wpAny_bind (wpAny_mono (big_run (ks := vs) (I := fun s' => s' = { s with heap := ((s.heap.update a (Obj.mapSeq fun _ => (#[] : Array Value))).push (seqObj "tuple" vs.toArray 0)).push (seqObj "list" #[] 0) }) rfl (by omega) H rfl (fun i j s' hi hj es => by subst es; exact hc _ i j _ hi hj kp ⟨rfl, rfl⟩)) ?_ fun _ _ e => e)
    rintro ⟨⟨⟩, st'⟩ s' ⟨p, har, hf, hp, rfl, q1, q2⟩
    dsimp only
    have hout := kat_snds rfl har
    rw [hout]
    refine wpAny_bind (seqEpoch_at ho6 rfl ?_)
    refine wpAny_bind (listUpdate_at ho6 rfl ?_ (Nat.zero_le _) (by rw [List.size_toArray, List.length_map, Array.length_toList, hp, sizeLine_eq]; omega))
    rw [hf]
    simp only [bne_self_eq_false, Bool.false_eq_true, if_false]
    exact wpAny_pure (h p.toList q1 q2)
end
end HT
namespace L2
open PySem PySem.Spec PyProof.Rows PySem.W
section
variable {X : Cx}
theorem vals_map {f : Nat → V} {g : Nat → Value} : ∀ {p : List Nat}, (∀ i ∈ p, RelV (f i) (g i)) → Vals (p.map f) (p.map g)
  | [], _ => .nil
  | i :: p, h => .cons (h i (.head _)) (vals_map fun j hj => h j (.tail _ hj))
end
end L2

namespace L2
open PySem PySem.Spec PyProof.Rows PySem.W
section
variable {X : Cx}
end
end L2

namespace HT
open PySem PyProof.Rows PySem.W L2
section
variable {prog : Program} {w : World} {A : Around} {E : Value → Shared → Prop} {s : Shared}
theorem sorted_seq {l : Addr} {T : String} {o : Obj} {vs : List Value} {n : Nat} {κ : SortKind} {lt : Nat → Nat → Bool} {Q : Value → Shared → Prop} (hT : T = "list" ∨ T = "tuple") (ho : s.heap.get? l = some o) (hcl : o.cls = .type T) (hd : o.data = .seq vs.toArray n) (h64 : vs.length < 1000) (H : Lt lt)
    (hk : ∀ h' (Q : SortKind → Shared → Prop), 2 ≤ vs.length → (∀ b o, s.heap.get? b = some o → h'.get? b = some o) → Q κ { s with heap := h' } → wpAny (model prog w) A.in1.in1 (keyKind' vs.toArray) Q (fun _ _ => False) { s with heap := h' })
    (hc : ∀ h' i j (Q : Bool → Shared → Prop), i < vs.length → j < vs.length → (∀ b o, s.heap.get? b = some o → h'.get? b = some o) → Q (lt i j) { s with heap := h' } →
      wpAny (model prog w) A.in1.in1 (keyLt' κ (vs.getD i Value.none) (vs.getD j Value.none)) Q (fun _ _ => False) { s with heap := h' })
    (h : ∀ (h1 : Heap) (p : List Nat), (∀ b o, s.heap.get? b = some o → h1.get? b = some o) → p.Perm (List.range vs.length) → p.Pairwise (Ah lt) →
      Q (.ref h1.objs.size) { s with heap := sortedHeap (h1.push (seqObj "list" vs.toArray 0)) h1.objs.size vs (List.toArray (p.map fun i => vs.getD i Value.none)) }) :
    wpAny (model prog w) A (call (.builtin "sorted") [.ref l]) Q E s := by
  refine Calls.call_function_entry kind_sorted plain_sorted entry_sorted (args_sorted1 _) ?_
  unfold Builtin.«sorted»
  refine wpAny_bind (m := checkCount "sorted" 1 1 _) (wpAny_pure ?_)
  refine wpAny_bind (wpAny_collect_seq l hT ho hcl hd (fun h1 k1 => ?_) (by rw [List.size_toArray, sizeLine_eq]; omega))
  show wpAny _ _ _ _ _ { s with heap := h1 }
  refine wpAny_bind (wpAny_newList ?_ (by show vs.toArray.toList.length ≤ _; rw [List.toList_toArray, sizeLine_eq]; omega))
  have hoL : (h1.push (seqObj "list" vs.toArray 0)).get? h1.objs.size = some (seqObj "list" vs.toArray 0) := Heap.get?_push_size _ rfl
  have ne : ∀ b o, s.heap.get? b = some o → b ≠ h1.objs.size := fun b o q => Nat.ne_of_lt (Heap.lt_size (k1 b o q))
  have keep : ∀ b o, s.heap.get? b = some o → (h1.push (seqObj "list" vs.toArray 0)).get? b = some o := fun b o q => Heap.get?_push_of_some _ (k1 b o q)
  show wpAny _ _ _ _ _ { s with heap := h1.push (seqObj "list" vs.toArray 0) }
  refine wpAny_bind (wpAny_holding (wpAny_call_entry slot_list_sort ⟨_, hoL, rfl⟩ entry_list_sort (list_sort_own (s := { s with heap := h1.push (seqObj "list" vs.toArray 0) }) hoL h64 H
    (fun h' Q' h2 k q => hk h' Q' h2 (fun b o e => k b o (ne b o e) (keep b o e)) q) (fun h' i j Q' hi hj k q => hc h' i j Q' hi hj (fun b o e => k b o (ne b o e) (keep b o e)) q) fun p a1 a2 => ⟨_, rfl, ?_⟩) (args_list_sort _)))
  exact wpAny_pure ⟨_, rfl, h h1 p k1 a1 a2⟩
end
theorem lt_ints (ns : List Int) : Lt (fun i j => decide (ns.getD i 0 < ns.getD j 0)) := ⟨fun i j h => by
  have := of_decide_eq_true h
  exact decide_eq_false (by omega), fun i j k h1 h2 => by
  have a := of_decide_eq_false h1
  have b := of_decide_eq_false h2
  exact decide_eq_false (by omega)⟩
theorem ints_at {vs : List Value} {ns : List Int} (h : IntsAre vs ns) : ∀ {i : Nat}, i < vs.length → ∃ t, vs.getD i Value.none = .int (ns.getD i 0) t := by
  induction h with
  | nil => intro i hi; cases hi
  | cons n t h ih =>
    intro i hi
    cases i with
    | zero => exact ⟨t, rfl⟩
    | succ i =>
      obtain ⟨t', e⟩ := ih (i := i) (by simpa using hi)
      exact ⟨t', by simpa using e⟩
end HT
namespace L2
open PySem PySem.Spec PyProof.Rows PySem.W
theorem getD_all {α : Type} (xs : List α) (d : α) : (List.range xs.length).map (fun i => xs.getD i d) = xs := by
  apply List.ext_getElem
  · simp
  · intro i h1 h2
    simp [h2]
section
variable {X : Cx}
noncomputable def rSortI (K : PySem.W.Frag) : List V → Hp → VK → Prop := fun xs H Q => ∃ (l : Addr) (ns : List Int), xs = [.ref l] ∧ (SqL K H l (ns.map V.int) ∨ SqT K H l (ns.map V.int)) ∧ ns.length < 1000 ∧
  ∀ (d : Addr) (ms : List Int), H d = none → ms.Perm ns → ms.Pairwise (· ≤ ·) → Q (.ref d) (upd H d (.lst (ms.map V.int)))
theorem call_sortI : CallR X (.builtin "sorted") (rSortI X.K) := by
  intro pins s σ H xs us Q I r h
  obtain ⟨l, ns, rfl, hq, h64, q⟩ := h
  obtain ⟨u, rfl, rx⟩ := vals1 r
  cases rx
  have main : ∀ (T : String) (o : Obj) (its : List Value) (n : Nat), T = "list" ∨ T = "tuple" → s.heap.get? l = some o → o.cls = .type T → o.data = .seq its.toArray n → Vals (ns.map V.int) its →
      wpAny (model X.prog X.w) X.A (call (.builtin "sorted") [.ref l]) (EP X pins σ Q) X.xe s := by
    intro T o its n hT ho hc hd rv
    have hi := intsAre_of rv
    have hl : its.length = ns.length := hi.length
    refine HT.sorted_seq (κ := oneType') hT ho hc hd (by omega) (HT.lt_ints ns) (fun h' Q' h2 k hQ => ?_) (fun h' i j Q' hi1 hj1 k hQ => ?_) fun h1 p k1 hp hs => ?_
    · obtain ⟨v₁, v₂, rest, rfl⟩ : ∃ v₁ v₂ rest, its = v₁ :: v₂ :: rest := by
        match its, h2 with
        | v₁ :: v₂ :: rest, _ => exact ⟨v₁, v₂, rest, rfl⟩
      rw [keyKind_ints hi]
      exact wpAny_pure hQ
    · obtain ⟨t1, e1⟩ := HT.ints_at hi hi1
      obtain ⟨t2, e2⟩ := HT.ints_at hi hj1
      rw [e1, e2, keyLt'_oneType]
      exact oneLt_int hQ
    · have I1 : Inv X pins σ H { s with heap := h1 } := I.kept (t' := s.toks) k1
      have hoL : (h1.push (seqObj "list" its.toArray 0)).get? h1.objs.size = some (seqObj "list" its.toArray 0) := Heap.get?_push_size _ rfl
      obtain ⟨c, hc⟩ := sortedHeap_at (out := List.toArray (p.map fun i => its.getD i Value.none)) hoL
      have hpl := hp.length_eq
      rw [List.length_range, hl] at hpl
      rw [hl] at hp
      refine ⟨.ref h1.objs.size, _, I1.laid (t' := s.toks) (fun b o e => ?_) (Nat.le_refl _) (show ObjOk X.prog X.w _ _ _ (.lst ((p.map fun i => ns.getD i 0).map V.int)) from ⟨?_, _, c, ?_, hc⟩), rfl, q _ (p.map fun i => ns.getD i 0) (I1.hok.fresh (Nat.le_refl _)) ?_ ?_⟩
      · have hlt := Heap.lt_size e
        rw [sortedHeap_old (Nat.ne_of_lt hlt) (by rw [size_push']; exact Nat.lt_succ_of_lt hlt)]
        exact Heap.get?_push_of_some _ e
      · rw [List.length_map, List.length_map, hpl, sizeLine_eq]; omega
      · rw [List.map_map]
        refine vals_map fun i hi' => ?_
        have hi2 : i < its.length := by rw [hl]; exact List.mem_range.mp (hp.mem_iff.mp hi')
        obtain ⟨t, e⟩ := HT.ints_at hi hi2
        rw [e]
        exact ⟨t, rfl⟩
      · have := hp.map (fun i => ns.getD i 0)
        rwa [getD_all] at this
      · rw [List.pairwise_map]
        refine hs.imp fun {a b} h => ?_
        have := of_decide_eq_false h.1
        omega
  rcases hq with hq | hq
  · obtain ⟨its, r', pl, hz⟩ := I.list hq
    obtain ⟨o, ho, hc, n, hd⟩ := pl.isList
    exact main "list" o its n (.inl rfl) ho hc hd r'
  · obtain ⟨its, r', ⟨o, ho, hc, n, hd⟩, hz⟩ := I.tuple hq
    exact main "tuple" o its n (.inr rfl) ho hc hd r'
theorem qc_sortI {K : PySem.W.Frag} (hK : X.K = K := by rfl) : QC X (.builtin "sorted") (rSortI K) := by subst hK; exact ⟨call_sortI⟩
end
end L2

namespace L2
open PySem PySem.Spec PyProof.Rows
noncomputable def Leaf (x : V) (d : PyData) : Prop := (x = .non ∧ d = .none) ∨ (∃ b, x = .bl b ∧ d = .bool b) ∨ (∃ i : Int, x = .int i ∧ d = .int i ∧ i.natAbs < 10 ^ 22) ∨ (∃ y, x = .str y ∧ d = .str y ∧ (PyData.str y).showable = true ∧ PyData.leavesShort 25 (.str y) = true)
theorem leaf_facts {x : V} {d : PyData} (h : Leaf x d) (n : Nat) : d.showable = true ∧ d.hasDict = false ∧ d.depth ≤ n ∧ PyData.leavesShort 25 d = true := by
  rcases h with ⟨rfl, rfl⟩ | ⟨b, rfl, rfl⟩ | ⟨i, rfl, rfl, hi⟩ | ⟨y, rfl, rfl, h1, h2⟩
  · exact ⟨rfl, rfl, Nat.zero_le _, by decide +kernel⟩
  · exact ⟨rfl, rfl, Nat.zero_le _, by cases b <;> decide +kernel⟩
  · refine ⟨?_, rfl, Nat.zero_le _, ?_⟩
    · unfold PyData.showable
      refine decide_eq_true ?_
      by_cases h0 : i.natAbs = 0
      · rw [h0]; decide
      · have : i.natAbs < 2 ^ 80 := Nat.lt_trans hi (by decide)
        have := (Nat.log2_lt h0).mpr this
        omega
    · unfold PyData.leavesShort
      refine decide_eq_true ?_
      have e := int_text_length_le10 (k := 22) (by decide) hi
      show (Str.ofString (toString i)).length ≤ 25
      rw [PySem.ofString_length]; exact Nat.le_trans e (by decide)
  · exact ⟨h1, rfl, Nat.zero_le _, h2⟩
noncomputable def DatM : Nat → Hp → V → PyData → Prop
  | 0, _, x, d => Leaf x d
  | n + 1, H, x, d => Leaf x d ∨ (∃ a xs ds, x = .ref a ∧ d = .list ds ∧ H a = some (.lst xs) ∧ xs.length = ds.length ∧ ∀ (i : Nat) u e, xs[i]? = some u → ds[i]? = some e → DatM n H u e) ∨
    (∃ a xs ds, x = .ref a ∧ d = .tuple ds ∧ H a = some (.tup xs) ∧ xs.length = ds.length ∧ ∀ (i : Nat) u e, xs[i]? = some u → ds[i]? = some e → DatM n H u e)
theorem DatM.facts {H : Hp} : ∀ {n : Nat} {x : V} {d : PyData}, DatM n H x d → d.showable = true ∧ d.hasDict = false ∧ d.depth ≤ n ∧ PyData.leavesShort 25 d = true
  | n, x, d, h => by
    have hint : Leaf x d → d.showable = true ∧ d.hasDict = false ∧ d.depth ≤ n ∧ PyData.leavesShort 25 d = true := by
      intro h
      exact leaf_facts h n
    match n, h with
    | 0, h => exact hint h
    | n + 1, h =>
      rcases h with h | ⟨a, xs, ds, rfl, rfl, ha, hl, hi⟩ | ⟨a, xs, ds, rfl, rfl, ha, hl, hi⟩
      · exact hint h
      · have hd : ∀ d ∈ ds, d.showable = true ∧ d.hasDict = false ∧ d.depth ≤ n ∧ PyData.leavesShort 25 d = true := fun d hd => by
          obtain ⟨i, e⟩ := List.getElem?_of_mem hd
          have hlt := get_lt e
          exact DatM.facts (hi i (xs[i]'(by omega)) d (List.getElem?_eq_getElem _) e)
        exact ⟨all_of (P := PyData.showable) (PA := PyData.showableAll) rfl (fun _ _ => rfl) fun d h => (hd d h).1, hasDictAll_no fun d h => (hd d h).2.1, Nat.succ_le_succ (depthAll_le fun d h => (hd d h).2.2.1), all_of (P := PyData.leavesShort 25) (PA := PyData.leavesShortAll 25) rfl (fun _ _ => rfl) fun d h => (hd d h).2.2.2⟩
      · have hd : ∀ d ∈ ds, d.showable = true ∧ d.hasDict = false ∧ d.depth ≤ n ∧ PyData.leavesShort 25 d = true := fun d hd => by
          obtain ⟨i, e⟩ := List.getElem?_of_mem hd
          have hlt := get_lt e
          exact DatM.facts (hi i (xs[i]'(by omega)) d (List.getElem?_eq_getElem _) e)
        exact ⟨all_of (P := PyData.showable) (PA := PyData.showableAll) rfl (fun _ _ => rfl) fun d h => (hd d h).1, hasDictAll_no fun d h => (hd d h).2.1, Nat.succ_le_succ (depthAll_le fun d h => (hd d h).2.2.1), all_of (P := PyData.leavesShort 25) (PA := PyData.leavesShortAll 25) rfl (fun _ _ => rfl) fun d h => (hd d h).2.2.2⟩
section
variable {X : Cx} {pins : List (Addr × Obj)} {σ : St} {H : Hp} {s : Shared}
theorem DatM.reads (I : Inv X pins σ H s) : ∀ {n : Nat} {x : V} {d : PyData} {v : Value}, DatM n H x d → RelV x v → ∃ as, Reads s.heap v d as
  | n, x, d, v, h, r => by
    have hint : Leaf x d → ∃ as, Reads s.heap v d as := by
      rintro (⟨rfl, rfl⟩ | ⟨b, rfl, rfl⟩ | ⟨i, rfl, rfl, _⟩ | ⟨y, rfl, rfl, _⟩)
      · cases r; exact ⟨_, .none⟩
      · cases r; exact ⟨_, .bool b⟩
      · obtain ⟨t, rfl⟩ := r; exact ⟨_, .int i t⟩
      · obtain ⟨t, rfl⟩ := r; exact ⟨_, .str y t⟩
    match n, h with
    | 0, h => exact hint h
    | n + 1, h =>
      rcases h with h | ⟨a, xs, ds, rfl, rfl, ha, hl, hi⟩ | ⟨a, xs, ds, rfl, rfl, ha, hl, hi⟩
      · exact hint h
      · cases r
        obtain ⟨its, m, rv, ho, hz⟩ := I.lst ha
        obtain ⟨as, h1⟩ := readsAll_of (R := DatM n H) (fun x v d h r => DatM.reads I h r) rv hl hi
        exact ⟨_, .list ho rfl rfl (by simpa using h1)⟩
      · cases r
        obtain ⟨its, rv, ⟨ob, ho, hc, m, hd⟩, hz⟩ := I.tuple (SqT.of ha)
        obtain ⟨as, h1⟩ := readsAll_of (R := DatM n H) (fun x v d h r => DatM.reads I h r) rv hl hi
        exact ⟨_, .tuple ho hc hd (by simpa using h1)⟩
noncomputable def rStrM : List V → Hp → VK → Prop := fun xs H Q => ∃ (a : Addr) (d : PyData), xs = [.ref a] ∧ DatM 3 H (.ref a) d ∧ d.weight ≤ 2 ^ 19 ∧ Q (.str d.shown) H
theorem cl_strM (hg : X.A.guards = some []) (hu : X.A.units + 64 < cLine) : CallR X (.type "str") rStrM := by
  intro pins s σ H xs us Q I r h
  obtain ⟨a, d, rfl, hd, hw, q⟩ := h
  obtain ⟨u, rfl, ru⟩ := vals1 r
  obtain ⟨as, h1⟩ := hd.reads I ru
  cases ru
  obtain ⟨f1, f2, f3, f4⟩ := hd.facts
  refine str_of_reads h1 f1 (fun z => by rw [f2] at z; cases z) hg (by omega) (fun b o e => e) (fun h' u tk hk => ?_) (by
    have h := PyData.shown_le 25 (by decide) d f4
    have e : (2 : Nat) ^ 19 = 524288 := by decide
    have h2 : (25 + 2) * d.weight ≤ 27 * 524288 := Nat.mul_le_mul (by omega) (by omega)
    rw [sizeLine_eq]
    omega)
  exact ⟨.str d.shown, H, I.kept hk, ⟨u, rfl⟩, q⟩
end
end L2

namespace L2
open PySem PySem.Spec PyProof.Rows

section
variable {κ : Type} [DecidableEq κ]
end


section
variable {P : Program} {w : World} {H : Hp} {h : Heap} {a : Addr}
end

section
variable {X : Cx} {pins : List (Addr × Obj)} {σ : St} {H : Hp} {s : Shared} {a : Addr} {y v : V} {u r : Value} {o : Option V} {A : Around} {E : Value → Shared → Prop}

end

section
variable {X : Cx} {pins : List (Addr × Obj)} {σ : St} {H : Hp} {s : Shared} {a : Addr} {kvs : List (Key × V)} {k : Key} {u : Value} {A : Around} {E : Value → Shared → Prop}
end


section
variable {X : Cx} {o i e value : Expr} {pos pos' tpos : Pos} {td ty tv : TE}
end


section
variable {X : Cx} {pos : Pos}
end

section
variable {X : Cx} {pins : List (Addr × Obj)} {σ : St} {H : Hp} {s : Shared} {a : Addr} {y d : V} {u r : Value} {o : Option V} {A : Around} {E : Value → Shared → Prop}
end

section
variable {X : Cx} {o e f : Expr} {apos cpos : Pos} {td ty tx : TE}
end

section
variable {X : Cx} {pins : List (Addr × Obj)} {σ : St} {H : Hp} {s : Shared} {a : Addr} {kvs : List (Key × V)} {A : Around} {E : Value → Shared → Prop}
end


section
variable {X : Cx} {pins : List (Addr × Obj)} {σ : St} {H : Hp} {s : Shared} {a : Addr} {y : V} {u : Value} {A : Around} {E : Value → Shared → Prop}
end
end L2


namespace L2
open PySem PySem.Spec PyProof.Rows
section
variable {X : Cx} {o i value : Expr} {td ty tv : TE} {pos pos' : Pos}
end
end L2

namespace L2
open PySem PySem.Spec PyProof.Rows
noncomputable def itN (os : List Nat) : Nat → Nat → Nat
  | 0, i => i
  | k + 1, i => os.getD (itN os k i) 0
noncomputable def Rb (os : List Nat) (i j : Nat) : Prop := ∃ k, j = itN os k i
noncomputable def sm (f : Nat → Nat) : Nat → Nat
  | 0 => 0
  | n + 1 => sm f n + f n
noncomputable def wt (os : List Nat) (j : Nat) : Nat := if os.getD j 0 = j then 0 else 1
end L2

namespace L2
open PySem PySem.Spec PyProof.Rows
end L2

namespace L2
open PySem PySem.Spec PyProof.Rows
noncomputable def seenP (os : List Nat) (i j : Nat) : Prop := wt os j = 1 ∧ ∃ a, a < i ∧ Rb os a j
open Classical in
noncomputable def sx (os : List Nat) (i j : Nat) : Nat := if seenP os i j then 1 else 0
end L2

namespace L2
open PySem PySem.Spec PyProof.Rows
noncomputable def bk (at_ : Nat) (s : Str3) : Str3 := (s.1, s.2.1, if s.2.2 ≤ at_ then s.2.2 else s.2.2 - 1)
end L2

namespace HT
open PySem PyProof.Rows PySem.W L2
section
variable {prog : Program} {w : World} {A : Around} {E : Value → Shared → Prop} {s : Shared} {a kS : Addr} {vs ks : List Value} {e e1 : Nat} {P : PySem.Fin → Shared → Prop}
end
end HT
namespace L2
open PySem PySem.Spec PyProof.Rows PySem.W
section
variable {X : Cx} {N frs : List Str} {x qual : Str} {ix : List Nat} {scope : Scope} {cl : List (Str × Addr)} {A : Around} {f c' C : Addr}
end
end L2

namespace L2
open PySem PySem.Spec PyProof.Rows PySem.W
section
variable {X : Cx} {N frs : List Str} {x : Str} {ix : List Nat} {scope : Scope} {cl : List (Str × Addr)} {A : Around} {cc P : Addr} {pins : List (Addr × Obj)} {σ : St} {H : Hp} {s : Shared} {params : Arguments} {body : Expr} {lpos : Pos}
section
variable {te : TE} {t : TA} {p p2 pos pos2 kpos : Pos} {e a : Expr} {k : Nat} {qual : Str}
end
end
end L2

namespace L2
open PySem PySem.Spec PyProof.Rows PySem.W
section
variable {P : Program} {w : World} {K : PySem.W.Frag} {mg : Str → Option Value} {base : Heap}
end
end L2

namespace L2
open PySem PySem.Spec PyProof.Rows PySem.W
section
variable {X : Cx} {o : Expr} {to : TE} {pos apos cpos : Pos}
end
end L2

namespace L2
open PySem PySem.Spec PyProof.Rows
end L2

namespace L2
open PySem PySem.Spec PyProof.Rows
inductive StrA (H : Hp) : V → Str → Prop where
  | non : StrA H .non "None"
  | bl (b : Bool) : StrA H (.bl b) (if b then "True" else "False")
  | int (i : Int) (h : i.natAbs < 10 ^ 22) : StrA H (.int i) (toString i)
  | str (y : Str) : StrA H (.str y) y
  | dat {a : Addr} {d : PyData} (h : DatM 3 H (.ref a) d) (hw : d.weight ≤ 2 ^ 19) : StrA H (.ref a) d.shown
noncomputable def rStrA : List V → Hp → VK → Prop := fun xs H Q => ∃ x y, xs = [x] ∧ StrA H x y ∧ Q (.str y) H
section
variable {X : Cx}
theorem qc_strA (hg : X.A.guards = some []) (hu : X.A.units + 64 < cLine) : QC X (.type "str") rStrA := by
  refine ⟨fun pins s σ H xs us Q I r h => ?_⟩
  obtain ⟨x, y, rfl, hS, q⟩ := h
  obtain ⟨u, rfl, ru⟩ := vals1 r
  cases hS with
  | non => cases ru; exact P.str_of_none ⟨.str "None", H, I.tok _, ⟨_, rfl⟩, q⟩
  | bl b => cases ru; exact P.str_of_bool ⟨.str _, H, I.tok _, ⟨_, rfl⟩, q⟩
  | int i h =>
    obtain ⟨t, rfl⟩ := ru
    refine P.str_of_int ?_ ⟨.str _, H, I.tok _, ⟨_, rfl⟩, q⟩
    by_cases h0 : i.natAbs = 0
    · rw [h0]; decide
    · have : i.natAbs < 2 ^ 80 := Nat.lt_trans h (by decide)
      have := (Nat.log2_lt h0).mpr this
      omega
  | str y => obtain ⟨t, rfl⟩ := ru; exact P.str_of_str ⟨.str _, H, I, ⟨_, rfl⟩, q⟩
  | @dat a d h hw => exact cl_strM hg hu pins s σ H [.ref a] [u] Q I (.cons ru .nil) ⟨a, d, rfl, h, hw, q⟩
end
inductive Kd (H : Hp) : V → Prop where
  | non : Kd H .non
  | bl (b : Bool) : Kd H (.bl b)
  | int (i : Int) : Kd H (.int i)
  | str (y : Str) : Kd H (.str y)
  | lst {a : Addr} {xs : List V} (e : H a = some (.lst xs)) : Kd H (.ref a)
  | tup {a : Addr} {xs : List V} (e : H a = some (.tup xs)) : Kd H (.ref a)
section
variable {K : PySem.W.Frag} {H : Hp} {Q : VK}
theorem in_isiNB (h : Q (.bl false) H) : rIsi K [.non, .ty "bool"] H Q := ⟨_, _, _, _, rfl, .non, rfl, h⟩
theorem in_isiLB {a : Addr} {xs : List V} (e : H a = some (.lst xs)) (h : Q (.bl false) H) : rIsi K [.ref a, .ty "bool"] H Q := ⟨_, _, _, _, rfl, .lst e, rfl, h⟩
theorem in_isiTB {a : Addr} {xs : List V} (e : H a = some (.tup xs)) (h : Q (.bl false) H) : rIsi K [.ref a, .ty "bool"] H Q := ⟨_, _, _, _, rfl, .tup e, rfl, h⟩
theorem in_isiXB {x : V} (k : Kd H x) (hx : ∀ b, x ≠ .bl b) (h : Q (.bl false) H) : rIsi K [x, .ty "bool"] H Q := by
  cases k with
  | non => exact in_isiNB h
  | bl b => exact absurd rfl (hx b)
  | int i => exact in_isiIB h
  | str y => exact in_isiSB h
  | lst e => exact in_isiLB e h
  | tup e => exact in_isiTB e h
end
end L2

namespace L2
open PySem PySem.Spec PyProof.Rows
noncomputable def El (n w : Nat) (H : Hp) (u : V) : Prop := ∃ d, DatM n H u d ∧ d.weight ≤ w
theorem DatM.leaf {H : Hp} {x : V} {d : PyData} (h : Leaf x d) : ∀ {n : Nat}, DatM n H x d
  | 0 => h
  | _ + 1 => .inl h
section
variable {H : Hp} {n w : Nat}
theorem El.int {i : Int} (h : i.natAbs < 10 ^ 22) (hw : 80 ≤ w) : El n w H (.int i) := by
  refine ⟨_, DatM.leaf (.inr (.inr (.inl ⟨i, rfl, rfl, h⟩))), ?_⟩
  rw [PyData.weight]
  split
  · omega
  · by_cases h0 : i.natAbs = 0
    · rw [h0]; have : Nat.log2 0 = 0 := by decide
      omega
    · have : i.natAbs < 2 ^ 79 := Nat.lt_trans h (by decide)
      have := (Nat.log2_lt h0).mpr this
      omega
theorem El.lists {xs : List V} (h : ∀ u ∈ xs, El n w H u) : ∃ ds : List PyData, xs.length = ds.length ∧ (∀ (i : Nat) u e, xs[i]? = some u → ds[i]? = some e → DatM n H u e) ∧ PyData.weightAll ds ≤ (w + 1) * xs.length := by
  induction xs with
  | nil => exact ⟨[], rfl, fun i u e a => by simp at a, by rw [PyData.weightAll]; omega⟩
  | cons x xs ih =>
    obtain ⟨ds, h1, h2, h3⟩ := ih fun u hu => h u (List.mem_cons_of_mem _ hu)
    obtain ⟨d, g1, g2⟩ := h x List.mem_cons_self
    refine ⟨d :: ds, by simp [h1], fun i u e a b => ?_, ?_⟩
    · cases i with
      | zero => simp at a b; subst a b; exact g1
      | succ i => simp at a b; exact h2 i u e a b
    · rw [PyData.weightAll, List.length_cons, Nat.mul_add]; omega
theorem El.seq {a : Addr} {xs : List V} {m : Nat} (ha : H a = some (.lst xs) ∨ H a = some (.tup xs)) (h : ∀ u ∈ xs, El n w H u) (hm : (w + 1) * xs.length ≤ m) : El (n + 1) m H (.ref a) := by
  obtain ⟨ds, h1, h2, h3⟩ := El.lists h
  rcases ha with ha | ha
  · exact ⟨.list ds, .inr (.inl ⟨a, xs, ds, rfl, rfl, ha, h1, h2⟩), by rw [PyData.weight]; omega⟩
  · exact ⟨.tuple ds, .inr (.inr ⟨a, xs, ds, rfl, rfl, ha, h1, h2⟩), by rw [PyData.weight]; omega⟩
end
end L2

namespace L2
open PySem PySem.Spec PyProof.Rows
section
variable {H H1 H2 : Hp}
end
section
variable {H H1 : Hp} {p a : Addr} {o : HO}
end
section
variable {H H1 : Hp} {x : V} {os : List Nat} {a : Addr} {xs : List V}
end
end L2

namespace L2
open PySem PySem.Spec PyProof.Rows
section
variable {rss : List (List Nat)} {f m l : Nat} {x y : List Nat}
end
section
variable {rss : List (List Nat)}
end
end L2

namespace L2
open PySem PySem.Spec PyProof.Rows
section
variable {X : Cx} {pos : Pos}
noncomputable def tPar3 (i j k : Nat) (ta : TA) : TS := fun D σ H => ta σ H fun vs H1 => ∃ u v w, vs = [u, v, w] ∧ D.nx (((σ.set k (some w)).set j (some v)).set i (some u)) H1
end
theorem in_par3 {D : Ends} {σ : St} {H : Hp} {i j k : Nat} {ta : TA} (h : ta σ H fun vs H1 => ∃ u v w, vs = [u, v, w] ∧ D.nx (((σ.set k (some w)).set j (some v)).set i (some u)) H1) : tPar3 i j k ta D σ H := h
noncomputable def It2o (n : Nat) : It := ⟨fun i _ => i < n / 2, fun i H x H' => H' = H ∧ x = .int ((2 * i + 1 : Nat) : Int), fun i _ => n / 2 ≤ i⟩
section
variable {X : Cx} {tg a b c : Expr} {t : TA} {p pos : Pos}
noncomputable def iRngO (t : TA) : TI := fun σ H R => t σ H fun vs H1 => ∃ n : Nat, vs = [.int 1, .int (n : Nat), .int 2] ∧ n ≤ 1000 ∧ R (It2o n) H1
end
theorem in_rngO {σ : St} {H : Hp} {t : TA} {R : It → Hp → Prop} (h : t σ H fun vs H1 => ∃ n : Nat, vs = [.int 1, .int (n : Nat), .int 2] ∧ n ≤ 1000 ∧ R (It2o n) H1) : iRngO t σ H R := h
noncomputable def cs : Nat → List Nat → List Nat
  | f, [] => [f]
  | f, a :: r => f :: cs (f + a) r
end L2

namespace L2
open PySem PySem.Spec PyProof.Rows
noncomputable def Fl (e C : Addr) (H : Hp) (h0 h : Heap) : Prop :=
  ∃ oe vs T oT ts a0, h.get? e = some oe ∧ oe.cls = .ref C ∧ oe.data = .fields vs ∧ vs[0]? = some a0 ∧ vs[1]? = some (.ref T) ∧ T ≠ e ∧ h.get? T = some oT ∧ oT.data = .fields ts ∧ ts[3]? = some .none ∧
    H e = none ∧ H T = none ∧ h0.get? e = none ∧ h0.get? T = none
noncomputable def ExcO (e C : Addr) : HO := .ext fun h => ∃ o vs, h.get? e = some o ∧ o.cls = .ref C ∧ o.data = .fields vs
section
variable {X : Cx} {pins : List (Addr × Obj)} {σ : St} {H : Hp} {s : Shared} {h' : Heap}
end
noncomputable abbrev XW := Addr → St → Hp → Prop
noncomputable abbrev TX := Ends → XW → St → Hp → Prop
noncomputable def XP (X : Cx) (pins : List (Addr × Obj)) (Ex : XW) (ev : Value) (s' : Shared) : Prop :=
  ∃ e C σ' H', ev = .ref e ∧ Ex C σ' H' ∧
    ((∃ s0 vs, Inv X pins σ' H' s0 ∧ Heap.MadeExcOf s0.heap s'.heap e (.ref C) vs ∧ s' = { s0 with heap := s'.heap }) ∨
     (Inv X pins σ' H' s' ∧ ∃ hb : Heap, Fl e C H' hb s'.heap ∧ (∀ b o, X.s₀.heap.get? b = some o → ∃ o', hb.get? b = some o') ∧ ∀ p ∈ X.pn ++ pins, ∃ o', hb.get? p.1 = some o'))
noncomputable abbrev TEX := St → Hp → VK → (Addr → Hp → Prop) → Prop
section
variable {X : Cx} {st : Stmt} {sts s1 s2 : List Stmt} {T1 T2 : TX} {c e : Expr} {es : List Expr} {tA : TT} {te : TE} {t : TA} {pos p : Pos} {x : Str} {i : Nat}
noncomputable def xOf (t : TS) : TX := fun D _ σ H => t D σ H
noncomputable def xSeq (t u : TX) : TX := fun D Ex σ H => t { D with nx := u D Ex } Ex σ H
noncomputable def xIf (c : TT) (t u : TX) : TX := fun D Ex σ H => c σ H fun b H1 => if b = true then t D Ex σ H1 else u D Ex σ H1
noncomputable def xDrop (te : TEX) : TX := fun D Ex σ H => te σ H (fun _ H1 => D.nx σ H1) fun C H1 => Ex C σ H1
noncomputable def xRet (te : TEX) : TX := fun D Ex σ H => te σ H D.rt fun C H1 => Ex C σ H1
noncomputable def xSet (i : Nat) (te : TEX) : TX := fun D Ex σ H => te σ H (fun v H1 => D.nx (σ.set i (some v)) H1) fun C H1 => Ex C σ H1
variable {tx : TEX}
noncomputable def xCall (sp : Sp) (t : TA) : TEX := fun σ H Q Ex => t σ H fun vs H1 => sp vs H1 Q fun c _ H2 => ∃ C, c = .ref C ∧ Ex C H2
end
end L2

namespace L2
open PySem PySem.Spec PyProof.Rows
section
variable {X : Cx} {pins : List (Addr × Obj)} {σ : St} {H : Hp} {s : Shared} {h' : Heap}
end
section
variable {P : Program} {w : World} {K : PySem.W.Frag} {mg : Str → Option Value} {base : Heap}
end
end L2

namespace L2
open PySem PySem.Spec PyProof.Rows PySem.W
section
variable {prog : Program} {w : World} {A : Around} {E : Value → Shared → Prop} {h : Heap} {g : Array GenState} {d : Drawn} {t : Nat} {os : OsState} {K : Frag} {a C : Addr} {o : Obj} {vs : Array Value}
end
section
variable {X : Cx}
end
end L2

namespace L2
open PySem PySem.Spec PyProof.Rows PySem.W
noncomputable def xRaise (C : Addr) (t : TA) : TX := fun _ Ex σ H => t σ H fun vs H1 => vs.length ≤ sizeLine ∧ Ex C σ H1
section
variable {X : Cx} {e : Expr} {es : List Expr} {t : TA} {np cpos pos p : Pos} {x : Str} {C : Addr}
end
section
variable {X : Cx} {pins : List (Addr × Obj)} {σ : St} {H : Hp} {s : Shared}
end
noncomputable def tTry (K : Frag) (C : Addr) (i : Nat) (tb : TX) (ts : TS) : TS := fun D σ H => tb D (fun C' σ1 H1 => exmOne K (.ref C') (.ref C) = some true ∧ ∀ e, H1 e = none →
  ts { nx := fun σ2 H2 => D.nx (σ2.set i none) H2, rt := D.rt, bk := fun σ2 H2 => D.bk (σ2.set i none) H2, ct := fun σ2 H2 => D.ct (σ2.set i none) H2 } (σ1.set i (some (.ref e))) (upd H1 e (ExcO e C'))) σ H
section
variable {X : Cx} {body suite : List Stmt} {b0 : Stmt} {tb : TX} {ts : TS} {n x : Str} {i : Nat} {C : Addr} {np hpos pos : Pos}
end
end L2

namespace L2
open PySem PySem.Spec PyProof.Rows
noncomputable def tFs (te : TE) : TE := fun σ H Q => te σ H fun x H1 => ∃ i : Int, x = .int i ∧ i.natAbs.log2 < 1920 ∧ ∀ y, Q (.str y) H1
section
variable {X : Cx} {v : Expr} {te : TE} {a b : Str} {p1 p2 p3 pos : Pos} {j1 j3 : Nat}
end
section
variable {D : Ends} {Ex : XW} {σ : St} {H : Hp} {Q : VK} {K : PySem.W.Frag} {i : Nat} {C : Addr}
theorem in_fstr {te : TE} (h : te σ H fun x H1 => ∃ i : Int, x = .int i ∧ i.natAbs.log2 < 1920 ∧ ∀ y, Q (.str y) H1) : tFs te σ H Q := h
theorem in_xof {t : TS} (h : t D σ H) : xOf t D Ex σ H := h
theorem in_xseq {t u : TX} (h : t { D with nx := u D Ex } Ex σ H) : xSeq t u D Ex σ H := h
theorem in_xif {c : TT} {t u : TX} (h : c σ H fun b H1 => if b = true then t D Ex σ H1 else u D Ex σ H1) : xIf c t u D Ex σ H := h
theorem in_xdrop {te : TEX} (h : te σ H (fun _ H1 => D.nx σ H1) fun C H1 => Ex C σ H1) : xDrop te D Ex σ H := h
theorem in_xret {te : TEX} (h : te σ H D.rt fun C H1 => Ex C σ H1) : xRet te D Ex σ H := h
theorem in_xset {te : TEX} (h : te σ H (fun v H1 => D.nx (σ.set i (some v)) H1) fun C H1 => Ex C σ H1) : xSet i te D Ex σ H := h
theorem in_xcall {sp : Sp} {t : TA} {Ex : Addr → Hp → Prop} (h : t σ H fun vs H1 => sp vs H1 Q fun c _ H2 => ∃ C, c = .ref C ∧ Ex C H2) : xCall sp t σ H Q Ex := h
theorem in_xraise {t : TA} (h : t σ H fun vs H1 => vs.length ≤ sizeLine ∧ Ex C σ H1) : xRaise C t D Ex σ H := h
theorem in_try {tb : TX} {ts : TS} (h : tb D (fun C' σ1 H1 => PySem.W.exmOne K (.ref C') (.ref C) = some true ∧ ∀ e, H1 e = none →
  ts { nx := fun σ2 H2 => D.nx (σ2.set i none) H2, rt := D.rt, bk := fun σ2 H2 => D.bk (σ2.set i none) H2, ct := fun σ2 H2 => D.ct (σ2.set i none) H2 } (σ1.set i (some (.ref e))) (upd H1 e (ExcO e C'))) σ H) : tTry K C i tb ts D σ H := h
end
end L2

namespace L2
open PySem PySem.Spec PyProof.Rows
section
variable {X : Cx}
end
section
variable {H H1 : Hp} {x : V} {n : Nat}
end
end L2
namespace L2
open PySem PySem.Spec PyProof.Rows
end L2

namespace HT
open PySem PyProof.Rows PySem.W L2
noncomputable def lt2 (k m : List Int × List Int) : Bool := if k.1 = m.1 then lexLt k.2 m.2 else lexLt k.1 m.1
section
variable {prog : Program} {w : World} {A : Around} {E : Value → Shared → Prop} {s : Shared}
end
end HT
namespace L2
open PySem PySem.Spec PyProof.Rows
section
variable {X : Cx}
end
end L2

namespace L2
open PySem PySem.Spec PyProof.Rows
section
variable {X : Cx} {o e value : Expr} {es : List Expr} {f m x : Str} {pos pos' tpos apos p : Pos} {ta tv : TE} {t : TA} {C g : Addr} {CX : CXT} {k : Nat} {fd : FuncData} {ps : List Str} {sp : Sp} {E : XK}
theorem qe_fld {K : PySem.W.Frag} (he : QE X e ta) (hb : attributeBase e f X.env (eval e X.env) = eval e X.env := by rfl) (hK : X.K = K := by rfl) : QE X (.Attribute e f pos) (tFld K ta f) := by
  subst hK; exact ⟨pe_fld he.out hb⟩
theorem qs_fld {K : PySem.W.Frag} (ha : QE X o ta) (hv : QE X value tv) (hs : swapsWith value (some (.Attribute o f pos')) pos.line X.env = pure false := by rfl) (hK : X.K = K := by rfl) : QS X (.Assign [.Attribute o f pos'] value pos) (sFld K ta tv f) := by
  subst hK; exact ⟨ps_fld ha.out hv.out hs⟩
theorem qs_fldaug {K : PySem.W.Frag} {op : Operator} {rd : R2} (ha : QE X o ta) (hv : QE X value tv) (ho : QOp X (inplaceOp op) rd) (hK : X.K = K := by rfl) : QS X (.AugAssign (.Attribute o f tpos) op value pos) (sFldAug K ta tv rd f) := by
  subst hK; exact ⟨ps_fldaug ha.out hv.out ho.out⟩
theorem qe_meth {pl : Sem Bool} (he : QE X o ta) (c : Cls X.K C) (hm : Meth X.K C m g) (F : FnOk X.prog X.w X.K X.mg X.base CX k g fd ps sp) (hr : Room k X.A) (hb : Binds X.K fd ps []) (hx : Passes CX X E) (ha : QA X (e :: es) t)
    (hst : starEach (e :: es) X.env = (false, eval e X.env) :: starEach es X.env := by rfl) (hpl : (backTo pos (starEach es X.env)).any (·.1) = false := by rfl)
    (ht : eval (.Call (.Attribute o m apos) (e :: es) [] pos) X.env = (do
      let ov ← eval o X.env
      standAt apos.atName
      let (q, first) ← holding [ov] (getMethod ov m pl)
      callWith pos q first (backTo pos (starEach (e :: es) X.env)) (backToKw pos (keywordEach [] X.env))) := by rfl) :
    QE X (.Call (.Attribute o m apos) (e :: es) [] pos) (tMeth C m sp [] E ta t) := ⟨pe_meth (pl := pl) he.out c hm F hr hb .nil hx ha.out hst hpl ht⟩
theorem qe_meth0 {pl : Sem Bool} (he : QE X o ta) (c : Cls X.K C) (hm : Meth X.K C m g) (F : FnOk X.prog X.w X.K X.mg X.base CX k g fd ps sp) (hr : Room k X.A) (hb : Binds X.K fd ps []) (hx : Passes CX X E)
    (ht : eval (.Call (.Attribute o m apos) [] [] pos) X.env = (do
      let ov ← eval o X.env
      standAt apos.atName
      let (q, first) ← holding [ov] (getMethod ov m pl)
      callWith pos q first (backTo pos (starEach [] X.env)) (backToKw pos (keywordEach [] X.env))) := by rfl) :
    QE X (.Call (.Attribute o m apos) [] [] pos) (tMeth C m sp [] E ta tNil) := ⟨pe_meth0 (pl := pl) he.out c hm F hr hb .nil hx ht⟩
theorem qe_make (M : Mk X.K C g) (F : FnOk X.prog X.w X.K X.mg X.base CX k g fd ps sp) (hr : Room (k + 1) X.A) (hg : Gl X x) (hm : X.mg x = some (.ref C)) (hb : Binds X.K fd ps []) (hx : Passes CX X E)
    (ha : QA X (e :: es) t) (hdb : (x == ("__debug__" : Str)) = false := by decide) (he : starEach (e :: es) X.env = (false, eval e X.env) :: starEach es X.env := by rfl) (hpl : (backTo pos (starEach es X.env)).any (·.1) = false := by rfl) :
    QE X (.Call (.Name x p) (e :: es) [] pos) (tMake C sp [] E t) := ⟨pe_make M F hr hg hm hb .nil hx ha.out hdb he hpl⟩
end
section
variable {K : PySem.W.Frag} {σ : St} {H : Hp} {Q : VK} {D : Ends} {ta tv : TE} {t : TA} {f m : Str} {C : Addr} {sp : Sp} {E : XK} {a dx : Addr} {fs : List (Str × V)} {v : V}
theorem in_fld (h : ta σ H fun x H1 => ∃ a C dx fs v, x = .ref a ∧ H1 a = some (.ins C dx fs) ∧ Cls K C ∧ NoAttr K C f ∧ fs.lookup f = some v ∧ Q v H1) : tFld K ta f σ H Q := h
theorem in_sfld (h : tv σ H fun y H1 => ta σ H1 fun x H2 => ∃ a C dx fs, x = .ref a ∧ H2 a = some (.ins C dx fs) ∧ Cls K C ∧ NoAttr K C f ∧ fs.length < 1000 ∧ D.nx σ (upd H2 a (.ins C dx (putF f y fs)))) : sFld K ta tv f D σ H := h
theorem in_sfldaug {rd : R2} (h : ta σ H fun x H1 => ∃ a C dx fs v, x = .ref a ∧ H1 a = some (.ins C dx fs) ∧ Cls K C ∧ NoAttr K C f ∧ fs.lookup f = some v ∧
  tv σ H1 fun y H2 => rd v y H2 fun z H3 => ∃ dx' fs', H3 a = some (.ins C dx' fs') ∧ fs'.length < 1000 ∧ D.nx σ (upd H3 a (.ins C dx' (putF f z fs')))) : sFldAug K ta tv rd f D σ H := h
theorem in_meth (h : ta σ H fun x H1 => ∃ a dx fs, x = .ref a ∧ H1 a = some (.ins C dx fs) ∧ fs.lookup m = none ∧ t σ H1 fun vs H2 => sp (x :: (vs ++ [])) H2 Q E) : tMeth C m sp [] E ta t σ H Q := h
theorem in_make (h : t σ H fun vs H1 => ∀ x dx, H1 x = none → H1 dx = none → dx ≠ x → sp (.ref x :: (vs ++ [])) (upd (upd H1 dx (.own x)) x (.ins C dx [])) (fun v H2 => v = .non ∧ Q (.ref x) H2) E) : tMake C sp [] E t σ H Q := h
end
end L2

namespace L2
open PySem PySem.Spec PyProof.Rows
noncomputable def LeafE (x : V) (d : PyData) : Prop := (x = .non ∧ d = .none) ∨ (∃ b, x = .bl b ∧ d = .bool b) ∨ (∃ i : Int, x = .int i ∧ d = .int i) ∨ (∃ y, x = .str y ∧ d = .str y ∧ PyData.strOk y = true)
noncomputable def DatE : Nat → Hp → V → PyData → Prop
  | 0, _, x, d => LeafE x d
  | n + 1, H, x, d => LeafE x d ∨ (∃ a xs ds, x = .ref a ∧ d = .list ds ∧ H a = some (.lst xs) ∧ xs.length = ds.length ∧ ∀ (i : Nat) u e, xs[i]? = some u → ds[i]? = some e → DatE n H u e) ∨
    (∃ a xs ds, x = .ref a ∧ d = .tuple ds ∧ H a = some (.tup xs) ∧ xs.length = ds.length ∧ ∀ (i : Nat) u e, xs[i]? = some u → ds[i]? = some e → DatE n H u e)
theorem DatE.leaf {H : Hp} {x : V} {d : PyData} (h : LeafE x d) : ∀ {n : Nat}, DatE n H x d
  | 0 => h
  | n + 1 => .inl h
theorem DatE.int {H : Hp} {n : Nat} (i : Int) : DatE n H (.int i) (.int i) := DatE.leaf (.inr (.inr (.inl ⟨i, rfl, rfl⟩)))
theorem DatE.non {H : Hp} {n : Nat} : DatE n H .non .none := DatE.leaf (.inl ⟨rfl, rfl⟩)
theorem DatE.str {H : Hp} {n : Nat} {y : Str} (h : PyData.strOk y = true) : DatE n H (.str y) (.str y) := DatE.leaf (.inr (.inr (.inr ⟨y, rfl, rfl, h⟩)))
theorem DatE.lst {H : Hp} {n : Nat} {a : Addr} {xs : List V} {ds : List PyData} (e : H a = some (.lst xs)) (hl : xs.length = ds.length) (h : ∀ (i : Nat) u e, xs[i]? = some u → ds[i]? = some e → DatE n H u e) : DatE (n + 1) H (.ref a) (.list ds) :=
  .inr (.inl ⟨a, xs, ds, rfl, rfl, e, hl, h⟩)
theorem DatE.tup {H : Hp} {n : Nat} {a : Addr} {xs : List V} {ds : List PyData} (e : H a = some (.tup xs)) (hl : xs.length = ds.length) (h : ∀ (i : Nat) u e, xs[i]? = some u → ds[i]? = some e → DatE n H u e) : DatE (n + 1) H (.ref a) (.tuple ds) :=
  .inr (.inr ⟨a, xs, ds, rfl, rfl, e, hl, h⟩)
theorem DatE.facts {H : Hp} : ∀ {n : Nat} {x : V} {d : PyData}, DatE n H x d → d.canLay0 = true ∧ d.depth ≤ n
  | n, x, d, h => by
    have hint : LeafE x d → d.canLay0 = true ∧ d.depth ≤ n := by
      rintro (⟨rfl, rfl⟩ | ⟨b, rfl, rfl⟩ | ⟨i, rfl, rfl⟩ | ⟨y, rfl, rfl, hy⟩)
      · exact ⟨rfl, Nat.zero_le _⟩
      · exact ⟨rfl, Nat.zero_le _⟩
      · exact ⟨rfl, Nat.zero_le _⟩
      · exact ⟨hy, Nat.zero_le _⟩
    match n, h with
    | 0, h => exact hint h
    | n + 1, h =>
      rcases h with h | ⟨a, xs, ds, rfl, rfl, ha, hl, hi⟩ | ⟨a, xs, ds, rfl, rfl, ha, hl, hi⟩
      · exact hint h
      · have hd : ∀ d ∈ ds, d.canLay0 = true ∧ d.depth ≤ n := fun d hd => by
          obtain ⟨i, e⟩ := List.getElem?_of_mem hd
          have hlt := get_lt e
          exact DatE.facts (hi i (xs[i]'(by omega)) d (List.getElem?_eq_getElem _) e)
        exact ⟨all_of (P := PyData.canLay0) (PA := PyData.canLayAll0) rfl (fun _ _ => rfl) fun d h => (hd d h).1, Nat.succ_le_succ (depthAll_le fun d h => (hd d h).2)⟩
      · have hd : ∀ d ∈ ds, d.canLay0 = true ∧ d.depth ≤ n := fun d hd => by
          obtain ⟨i, e⟩ := List.getElem?_of_mem hd
          have hlt := get_lt e
          exact DatE.facts (hi i (xs[i]'(by omega)) d (List.getElem?_eq_getElem _) e)
        exact ⟨all_of (P := PyData.canLay0) (PA := PyData.canLayAll0) rfl (fun _ _ => rfl) fun d h => (hd d h).1, Nat.succ_le_succ (depthAll_le fun d h => (hd d h).2)⟩
section
variable {X : Cx} {pins : List (Addr × Obj)} {σ : St} {H : Hp} {s : Shared}
theorem DatE.reads (I : Inv X pins σ H s) : ∀ {n : Nat} {x : V} {d : PyData} {v : Value}, DatE n H x d → RelV x v → ∃ as, Reads s.heap v d as
  | n, x, d, v, h, r => by
    have hint : LeafE x d → ∃ as, Reads s.heap v d as := by
      rintro (⟨rfl, rfl⟩ | ⟨b, rfl, rfl⟩ | ⟨i, rfl, rfl⟩ | ⟨y, rfl, rfl, _⟩)
      · cases r; exact ⟨_, .none⟩
      · cases r; exact ⟨_, .bool b⟩
      · obtain ⟨t, rfl⟩ := r; exact ⟨_, .int i t⟩
      · obtain ⟨t, rfl⟩ := r; exact ⟨_, .str y t⟩
    match n, h with
    | 0, h => exact hint h
    | n + 1, h =>
      rcases h with h | ⟨a, xs, ds, rfl, rfl, ha, hl, hi⟩ | ⟨a, xs, ds, rfl, rfl, ha, hl, hi⟩
      · exact hint h
      · cases r
        obtain ⟨its, m, rv, ho, hz⟩ := I.lst ha
        obtain ⟨as, h1⟩ := readsAll_of (R := DatE n H) (fun x v d h r => DatE.reads I h r) rv hl hi
        exact ⟨_, .list ho rfl rfl (by simpa using h1)⟩
      · cases r
        obtain ⟨its, rv, ⟨ob, ho, hc, m, hd⟩, hz⟩ := I.tuple (SqT.of ha)
        obtain ⟨as, h1⟩ := readsAll_of (R := DatE n H) (fun x v d h r => DatE.reads I h r) rv hl hi
        exact ⟨_, .tuple ho hc hd (by simpa using h1)⟩
noncomputable def rEqD : R2 := fun x y H Q => ∃ (n : Nat) (d e : PyData), DatE n H x d ∧ DatE n H y e ∧ n ≤ 32 ∧ Q (.bl (PyData.eqv d e)) H
noncomputable def rNeD : R2 := fun x y H Q => ∃ (n : Nat) (d e : PyData), DatE n H x d ∧ DatE n H y e ∧ n ≤ 32 ∧ Q (.bl (!PyData.eqv d e)) H
theorem q_eqD (hu : X.A.units + 64 < cLine) : QOp X (compareOp .Eq) rEqD := by
  refine ⟨fun pins s σ H x y v u Q I rx ry h => ?_⟩
  obtain ⟨n, d, e, hd, he, hn, q⟩ := h
  obtain ⟨as, r1⟩ := hd.reads I rx
  obtain ⟨bs, r2⟩ := he.reads I ry
  have f1 := hd.facts
  have f2 := he.facts
  exact PySem.SeqAt.compareEq_reads r1 r2 f1.1 f2.1 (by have := Nat.min_le_left d.depth e.depth; have := f1.2; omega) ⟨.bl _, H, I, rfl, q⟩
theorem q_neD (hu : X.A.units + 64 < cLine) : QOp X (compareOp .NotEq) rNeD := by
  refine ⟨fun pins s σ H x y v u Q I rx ry h => ?_⟩
  obtain ⟨n, d, e, hd, he, hn, q⟩ := h
  obtain ⟨as, r1⟩ := hd.reads I rx
  obtain ⟨bs, r2⟩ := he.reads I ry
  have f1 := hd.facts
  have f2 := he.facts
  exact PySem.SeqAt.rcNeAt_reads r1 r2 f1.1 f2.1 (by have := Nat.min_le_left d.depth e.depth; have := f1.2; omega) X.prog X.w X.xe _ ⟨.bl _, H, I, rfl, q⟩
end
section
variable {H : Hp} {Q : VK} {x y : V} {n : Nat} {d e : PyData}
theorem in_eqSame (h1 : DatE n H x d) (h2 : DatE n H y d) (hn : n ≤ 32) (h : Q (.bl true) H) : rEqD x y H Q := ⟨n, d, d, h1, h2, hn, by rw [PySem.SeqAt.eqv_refl d h1.facts.1]; exact h⟩
theorem in_neSame (h1 : DatE n H x d) (h2 : DatE n H y d) (hn : n ≤ 32) (h : Q (.bl false) H) : rNeD x y H Q := ⟨n, d, d, h1, h2, hn, by rw [PySem.SeqAt.eqv_refl d h1.facts.1]; exact h⟩
end
end L2
namespace HT
open PySem PyProof.Rows PySem.W L2
section
variable {prog : Program} {w : World} {A : Around} {E : Value → Shared → Prop} {s : Shared}
theorem list_sort_down {a : Addr} {vs : List Value} {n : Nat} {κ : SortKind} {lt : Nat → Nat → Bool} {P : PySem.Fin → Shared → Prop} (ho : s.heap.get? a = some (seqObj "list" vs.toArray n)) (h64 : vs.length < 1000) (H : Lt lt)
    (hk : ∀ h' (Q : SortKind → Shared → Prop), 2 ≤ vs.length → (∀ b o, b ≠ a → s.heap.get? b = some o → h'.get? b = some o) → Q κ { s with heap := h' } → wpAny (model prog w) A (keyKind' vs.toArray) Q (fun _ _ => False) { s with heap := h' })
    (hc : ∀ h' i j (Q : Bool → Shared → Prop), i < vs.length → j < vs.length → (∀ b o, b ≠ a → s.heap.get? b = some o → h'.get? b = some o) → Q (lt i j) { s with heap := h' } →
      wpAny (model prog w) A (keyLt' κ (vs.reverse.getD i Value.none) (vs.reverse.getD j Value.none)) Q (fun _ _ => False) { s with heap := h' })
    (h : ∀ p : List Nat, p.Perm (List.range vs.length) → p.Pairwise (Ah lt) → P (.done (.ret .none)) { s with heap := sortedHeap s.heap a vs (List.toArray (p.map fun i => vs.reverse.getD i Value.none).reverse) }) :
    wpAny (model prog w) A (Builtin.«list.sort» ⟨[.ref a], [(Str.ofString "reverse", .bool true)]⟩) P E s := by
  rw [list_sort_rev]
  have ha : a < s.heap.objs.size := Heap.lt_size ho
  refine wpAny_bind (listItems_at ho rfl ?_)
  refine wpAny_bind (listUpdate_at ho rfl ?_ (by rw [List.size_toArray, sizeLine_eq]; omega) (Nat.zero_le _))
  obtain ⟨e1, ho1⟩ : ∃ e1, (s.heap.update a (Obj.mapSeq fun _ => (#[] : Array Value))).get? a = some (seqObj "list" #[] e1) := ⟨_, get?_update_seq ho (fun _ => #[])⟩
  refine wpAny_bind (seqEpoch_at ho1 rfl ?_)
  refine wpAny_bind (wpAny_newTuple ?_ (by show vs.length ≤ _; rw [sizeLine_eq]; omega))
  refine wpAny_bind (wpAny_newList ?_ (Nat.zero_le _))
  refine wpAny_holding ?_
  have ho6 : (((s.heap.update a (Obj.mapSeq fun _ => (#[] : Array Value))).push (seqObj "tuple" vs.toArray 0)).push (seqObj "list" #[] 0)).get? a = some (seqObj "list" #[] e1) := by
    rw [Heap.get?_push_ne _ _ _ (by rw [size_push', Heap.size_update]; exact Nat.ne_of_lt (Nat.lt_succ_of_lt ha)), Heap.get?_push_ne _ _ _ (by rw [Heap.size_update]; exact Nat.ne_of_lt ha)]
    exact ho1
  have kp : ∀ b o, b ≠ a → s.heap.get? b = some o → (((s.heap.update a (Obj.mapSeq fun _ => (#[] : Array Value))).push (seqObj "tuple" vs.toArray 0)).push (seqObj "list" #[] 0)).get? b = some o := fun b o hb e => by
    have hlt := Heap.lt_size e
    rw [Heap.get?_push_ne _ _ _ (by rw [size_push', Heap.size_update]; exact Nat.ne_of_lt (Nat.lt_succ_of_lt hlt)), Heap.get?_push_ne _ _ _ (by rw [Heap.size_update]; exact Nat.ne_of_lt hlt), Heap.get?_update_ne _ _ _ _ hb]
    exact e
  show wpAny (model prog w) A _ P E { s with heap := ((s.heap.update a (Obj.mapSeq fun _ => (#[] : Array Value))).push (seqObj "tuple" vs.toArray 0)).push (seqObj "list" #[] 0) }
  dsimp only
  have hz : (vs.toArray.zip vs.toArray).reverse = vs.reverse.toArray.zip vs.reverse.toArray := by
    apply Array.toList_inj.mp
    simp [List.reverse_zipWith, List.zip]
  simp only [if_true, hz]
  refine wpAny_bind (wpAny_rule ?_)
  have hsz : vs.toArray.size = vs.length := by simp
  by_cases h2 : vs.toArray.size < 2
  · rw [if_pos h2, if_pos h2]
    refine wpAny_bind (wpAny_pure ?_)
    rw [StateT.run_pure]
    refine wpAny_bind (wpAny_pure ?_)
    dsimp only
    refine wpAny_bind (seqEpoch_at ho6 rfl ?_)
    have eo : (arrOf (SortSt.mk' general' (vs.reverse.toArray.zip vs.reverse.toArray) #[] 7 none)).map (·.2) = List.toArray ((List.range vs.length).map fun i => vs.reverse.getD i Value.none) := by
      have e := kas_range (vs.reverse.toArray.zip vs.reverse.toArray)
      rw [show (vs.reverse.toArray.zip vs.reverse.toArray).size = vs.length by simp] at e
      have := kat_snds (st := SortSt.mk' general' (vs.reverse.toArray.zip vs.reverse.toArray) #[] 7 none) (ks := vs.reverse) (vs := vs.reverse) rfl e.symm
      simpa using this
    refine wpAny_bind (listUpdate_at ho6 rfl ?_ (Nat.zero_le _) (by rw [eo, Array.size_reverse, List.size_toArray, List.length_map, List.length_range, sizeLine_eq]; omega))
    simp only [bne_self_eq_false, Bool.false_eq_true, if_false]
    have := h (List.range vs.length) (List.Perm.refl _) (pw_small _ (by omega))
    have e2 : ((arrOf (SortSt.mk' general' (vs.reverse.toArray.zip vs.reverse.toArray) #[] 7 none)).map (·.2)).reverse = List.toArray ((List.range vs.length).map fun i => vs.reverse.getD i Value.none).reverse := by rw [eo]; simp
    rw [← e2] at this
    exact wpAny_pure this
  · rw [if_neg h2, if_neg h2]
    refine wpAny_bind (wpAny_mono (hk _ (fun κ' s' => κ' = κ ∧ s' = { s with heap := ((s.heap.update a (Obj.mapSeq fun _ => (#[] : Array Value))).push (seqObj "tuple" vs.toArray 0)).push (seqObj "list" #[] 0) }) (by omega) kp ⟨rfl, rfl⟩) (fun κ' s' hh => ?_) fun _ _ x => x.elim)
    obtain ⟨rfl, rfl⟩ := hh
    refine wpAny_bind (wpAny_mono (big_run (ks := vs.reverse) (vs := vs.reverse) (I := fun s' => s' = { s with heap := ((s.heap.update a (Obj.mapSeq fun _ => (#[] : Array Value))).push (seqObj "tuple" vs.toArray 0)).push (seqObj "list" #[] 0) }) rfl (by rw [List.length_reverse]; omega) H rfl (fun i j s' hi hj es => by subst es; exact hc _ i j _ (by rwa [List.length_reverse] at hi) (by rwa [List.length_reverse] at hj) kp ⟨rfl, rfl⟩)) ?_ fun _ _ e => e)
    rintro ⟨⟨⟩, st'⟩ s' ⟨p, har, hf, hp, rfl, q1, q2⟩
    dsimp only
    rw [List.length_reverse] at hp q1
    have hout := kat_snds (ks := vs.reverse) (vs := vs.reverse) rfl har
    rw [hout]
    refine wpAny_bind (seqEpoch_at ho6 rfl ?_)
    refine wpAny_bind (listUpdate_at ho6 rfl ?_ (Nat.zero_le _) (by rw [Array.size_reverse, List.size_toArray, List.length_map, Array.length_toList, hp, sizeLine_eq]; omega))
    rw [hf]
    simp only [bne_self_eq_false, Bool.false_eq_true, if_false]
    have e2 : (List.toArray (p.toList.map fun i => vs.reverse.getD i Value.none)).reverse = List.toArray (p.toList.map fun i => vs.reverse.getD i Value.none).reverse := by simp
    rw [e2]
    exact wpAny_pure (h p.toList q1 q2)
theorem sorted_down {l : Addr} {T : String} {o : Obj} {vs : List Value} {n : Nat} {κ : SortKind} {lt : Nat → Nat → Bool} {Q : Value → Shared → Prop} (hT : T = "list" ∨ T = "tuple") (ho : s.heap.get? l = some o) (hcl : o.cls = .type T) (hd : o.data = .seq vs.toArray n) (h64 : vs.length < 1000) (H : Lt lt)
    (hk : ∀ h' (Q : SortKind → Shared → Prop), 2 ≤ vs.length → (∀ b o, s.heap.get? b = some o → h'.get? b = some o) → Q κ { s with heap := h' } → wpAny (model prog w) A.in1.in1 (keyKind' vs.toArray) Q (fun _ _ => False) { s with heap := h' })
    (hc : ∀ h' i j (Q : Bool → Shared → Prop), i < vs.length → j < vs.length → (∀ b o, s.heap.get? b = some o → h'.get? b = some o) → Q (lt i j) { s with heap := h' } →
      wpAny (model prog w) A.in1.in1 (keyLt' κ (vs.reverse.getD i Value.none) (vs.reverse.getD j Value.none)) Q (fun _ _ => False) { s with heap := h' })
    (h : ∀ (h1 : Heap) (p : List Nat), (∀ b o, s.heap.get? b = some o → h1.get? b = some o) → p.Perm (List.range vs.length) → p.Pairwise (Ah lt) →
      Q (.ref h1.objs.size) { s with heap := sortedHeap (h1.push (seqObj "list" vs.toArray 0)) h1.objs.size vs (List.toArray (p.map fun i => vs.reverse.getD i Value.none).reverse) }) :
    wpAny (model prog w) A (call (.builtin "sorted") [.ref l] [(Str.ofString "reverse", .bool true)]) Q E s := by
  refine call_function_entry_kw kind_sorted plain_sorted entry_sorted (args_sorted_rev _ _) ?_
  unfold Builtin.«sorted»
  refine wpAny_bind (m := checkCount "sorted" 1 1 _) (wpAny_pure ?_)
  refine wpAny_bind (wpAny_collect_seq l hT ho hcl hd (fun h1 k1 => ?_) (by rw [List.size_toArray, sizeLine_eq]; omega))
  show wpAny _ _ _ _ _ { s with heap := h1 }
  refine wpAny_bind (wpAny_newList ?_ (by show vs.toArray.toList.length ≤ _; rw [List.toList_toArray, sizeLine_eq]; omega))
  have hoL : (h1.push (seqObj "list" vs.toArray 0)).get? h1.objs.size = some (seqObj "list" vs.toArray 0) := Heap.get?_push_size _ rfl
  have ne : ∀ b o, s.heap.get? b = some o → b ≠ h1.objs.size := fun b o q => Nat.ne_of_lt (Heap.lt_size (k1 b o q))
  have keep : ∀ b o, s.heap.get? b = some o → (h1.push (seqObj "list" vs.toArray 0)).get? b = some o := fun b o q => Heap.get?_push_of_some _ (k1 b o q)
  show wpAny _ _ _ _ _ { s with heap := h1.push (seqObj "list" vs.toArray 0) }
  refine wpAny_bind (wpAny_holding (wpAny_call_entry_kw slot_list_sort ⟨_, hoL, rfl⟩ entry_list_sort (list_sort_down (s := { s with heap := h1.push (seqObj "list" vs.toArray 0) }) hoL h64 H
    (fun h' Q' h2 k q => hk h' Q' h2 (fun b o e => k b o (ne b o e) (keep b o e)) q) (fun h' i j Q' hi hj k q => hc h' i j Q' hi hj (fun b o e => k b o (ne b o e) (keep b o e)) q) fun p a1 a2 => ⟨_, rfl, ?_⟩) (args_list_sort_rev _ _)))
  exact wpAny_pure ⟨_, rfl, h h1 p k1 a1 a2⟩
end
end HT
namespace L2
open PySem PySem.Spec PyProof.Rows PySem.W
section
variable {X : Cx} {e : Expr} {t : TA} {p pos kpos cp : Pos} {k : Nat} {j : Nat}
noncomputable def tSortDn (K : PySem.W.Frag) (t : TA) : TE := fun σ H Q => t σ H fun vs H1 => ∃ (l : Addr) (ns : List Int), vs = [.ref l] ∧ (SqL K H1 l (ns.map V.int) ∨ SqT K H1 l (ns.map V.int)) ∧ ns.length < 1000 ∧
  ∀ (d : Addr) (ms : List Int), H1 d = none → ms.Perm ns → ms.Pairwise (· ≥ ·) → Q (.ref d) (upd H1 d (.lst (ms.map V.int)))
theorem kw_rev {s : Shared} {E : Value → Shared → Prop} {Q : List Value → Shared → Prop} {a : Expr} {x : Str} (h : wpAny (model X.prog X.w) X.A (eval a X.env) (fun v s' => Q [v] s') E s) :
    wpAny (model X.prog X.w) X.A (evalAll ((backToKw pos (keywordEach [⟨some x, a, kpos⟩] X.env)).map (·.2))) Q E s := by
  show wpAny _ _ (evalAll ((do let v ← eval a X.env; standAt pos; pure v) :: [])) _ _ s
  exact wpAny_evalAll_cons (wpAny_bind (wpAny_mono h (fun v s' hq => wpAny_bind (wpAny_standAt (wpAny_pure (wpAny_evalAll_nil hq)))) fun _ _ z => z))
theorem qe_sortDn {K : PySem.W.Frag} (hg : Gl X "sorted") (hm : X.mg "sorted" = none) (ha : QA X [e] t) (hn : nstar e = true := by rfl) (hK : X.K = K := by rfl) : QE X (.Call (.Name "sorted" p) [e] [⟨some "reverse", .Constant (.bool true) j cp, kpos⟩] pos) (tSortDn K t) := by
  subst hK
  refine ⟨fun pins s σ H Q I h => ?_⟩
  refine wpAny_Call_Name_kw (ld_blt I hg hm (by decide +kernel : bootBuiltins "sorted" = some (.builtin "sorted")) ?_)
  have he1 : starEach [e] X.env = [(false, eval e X.env)] := star_cons hn
  refine callWith_kw (thn (ha.out pos pins s σ H _ I h) fun us s1 hu => ?_) (by rw [he1]; rfl) (by rw [he1]; rfl)
  obtain ⟨vs, H1, I1, r1, l, ns, rfl, hq, h64, q⟩ := hu
  obtain ⟨u, rfl, ru⟩ := vals1 r1
  cases ru
  refine kw_rev (wpAny_pure ?_)
  have main : ∀ (T : String) (o : Obj) (its : List Value) (n : Nat), T = "list" ∨ T = "tuple" → s1.heap.get? l = some o → o.cls = .type T → o.data = .seq its.toArray n → Vals (ns.map V.int) its →
      wpAny (model X.prog X.w) X.A (call (.builtin "sorted") [.ref l] [(Str.ofString "reverse", .bool true)]) (EP X pins σ Q) X.xe s1 := by
    intro T o its n hT ho hc hd rv
    have hi := intsAre_of rv
    have hir := hi.reverse
    have hl : its.length = ns.length := hi.length
    refine HT.sorted_down (κ := oneType') hT ho hc hd (by omega) (HT.lt_ints ns.reverse) (fun h' Q' h2 k hQ => ?_) (fun h' i j Q' hi1 hj1 k hQ => ?_) fun h1 p k1 hp hs => ?_
    · obtain ⟨v₁, v₂, rest, rfl⟩ : ∃ v₁ v₂ rest, its = v₁ :: v₂ :: rest := by
        match its, h2 with
        | v₁ :: v₂ :: rest, _ => exact ⟨v₁, v₂, rest, rfl⟩
      rw [keyKind_ints hi]
      exact wpAny_pure hQ
    · obtain ⟨t1, e1⟩ := HT.ints_at hir (i := i) (by rw [List.length_reverse]; exact hi1)
      obtain ⟨t2, e2⟩ := HT.ints_at hir (i := j) (by rw [List.length_reverse]; exact hj1)
      rw [e1, e2, keyLt'_oneType]
      exact oneLt_int hQ
    · have I2 : Inv X pins σ H1 { s1 with heap := h1 } := I1.kept (t' := s1.toks) k1
      have hoL : (h1.push (seqObj "list" its.toArray 0)).get? h1.objs.size = some (seqObj "list" its.toArray 0) := Heap.get?_push_size _ rfl
      obtain ⟨c, hc⟩ := sortedHeap_at (out := List.toArray (p.map fun i => its.reverse.getD i Value.none).reverse) hoL
      have hpl := hp.length_eq
      rw [List.length_range, hl] at hpl
      rw [hl] at hp
      refine ⟨.ref h1.objs.size, _, I2.laid (t' := s1.toks) (fun b o e => ?_) (Nat.le_refl _) (show ObjOk X.prog X.w _ _ _ (.lst ((p.reverse.map fun i => ns.reverse.getD i 0).map V.int)) from ⟨?_, _, c, ?_, hc⟩), rfl, q _ (p.reverse.map fun i => ns.reverse.getD i 0) (I2.hok.fresh (Nat.le_refl _)) ?_ ?_⟩
      · have hlt := Heap.lt_size e
        rw [sortedHeap_old (Nat.ne_of_lt hlt) (by rw [size_push']; exact Nat.lt_succ_of_lt hlt)]
        exact Heap.get?_push_of_some _ e
      · rw [List.length_map, List.length_map, List.length_reverse, hpl, sizeLine_eq]; omega
      · rw [List.map_map, ← List.map_reverse]
        refine vals_map fun i hi' => ?_
        have hi2 : i < its.length := by rw [hl]; exact List.mem_range.mp (hp.mem_iff.mp (List.mem_reverse.mp hi'))
        obtain ⟨t, e⟩ := HT.ints_at hir (i := i) (by rw [List.length_reverse]; exact hi2)
        rw [e]
        exact ⟨t, rfl⟩
      · have h1 := ((List.reverse_perm p).trans hp).map (fun i => ns.reverse.getD i 0)
        have h2 : (List.range ns.length).map (fun i => ns.reverse.getD i 0) = ns.reverse := by
          have := getD_all ns.reverse 0
          rwa [List.length_reverse] at this
        rw [h2] at h1
        exact h1.trans (List.reverse_perm ns)
      · rw [List.pairwise_map, List.pairwise_reverse]
        refine hs.imp fun {a b} h => ?_
        have := of_decide_eq_false h.1
        omega
  rcases hq with hq | hq
  · obtain ⟨its, r', pl, hz⟩ := I1.list hq
    obtain ⟨o, ho, hc, n, hd⟩ := pl.isList
    exact main "list" o its n (.inl rfl) ho hc hd r'
  · obtain ⟨its, r', ⟨o, ho, hc, n, hd⟩, hz⟩ := I1.tuple hq
    exact main "tuple" o its n (.inr rfl) ho hc hd r'
theorem in_sortDn {K : PySem.W.Frag} {σ : St} {H : Hp} {Q : VK} (h : t σ H fun vs H1 => ∃ (l : Addr) (ns : List Int), vs = [.ref l] ∧ (SqL K H1 l (ns.map V.int) ∨ SqT K H1 l (ns.map V.int)) ∧ ns.length < 1000 ∧
  ∀ (d : Addr) (ms : List Int), H1 d = none → ms.Perm ns → ms.Pairwise (· ≥ ·) → Q (.ref d) (upd H1 d (.lst (ms.map V.int)))) : tSortDn K t σ H Q := h
end
end L2

namespace L2
open PySem PySem.Spec PyProof.Rows
noncomputable abbrev PR := Option (Nat × Nat)
structure HW where
  ps : List PR
  hd : PR
  mks : List Nat
  en : List Nat
  pt : Nat
noncomputable def figO (f : Nat) (o : PR) : Bool := match o with | some z => decide (z.1 = f) | none => false
noncomputable def isF (ps : List PR) (f p : Nat) : Bool := figO f (ps.getD p none)
noncomputable def goF (ps : List PR) (f e : Nat) (p : Nat) : Nat := if p < e ∧ isF ps f p = true then goF ps f e (p + 1) else p
termination_by e - p
theorem goF_go {ps : List PR} {f e p : Nat} (h1 : p < e) (h2 : isF ps f p = true) : goF ps f e p = goF ps f e (p + 1) := by
  conv => lhs; unfold goF
  rw [if_pos ⟨h1, h2⟩]
theorem goF_stop {ps : List PR} {f e p : Nat} (h : ¬ (p < e ∧ isF ps f p = true)) : goF ps f e p = p := by
  unfold goF
  rw [if_neg h]
theorem goF_facts {ps : List PR} {f e : Nat} (p : Nat) (h : p ≤ e) : p ≤ goF ps f e p ∧ goF ps f e p ≤ e ∧ (∀ q, p ≤ q → q < goF ps f e p → isF ps f q = true) ∧ (goF ps f e p < e → isF ps f (goF ps f e p) = false) := by
  induction n : e - p generalizing p with
  | zero =>
    have : ¬ p < e := by omega
    rw [goF_stop fun z => this z.1]
    exact ⟨Nat.le_refl _, h, fun q h1 h2 => absurd h2 (by omega), fun z => absurd z this⟩
  | succ n ih =>
    by_cases g : isF ps f p = true
    · rw [goF_go (by omega) g]
      obtain ⟨a, b, c, d⟩ := ih (p + 1) (by omega) (by omega)
      refine ⟨by omega, b, fun q h1 h2 => ?_, d⟩
      by_cases e : q = p
      · rw [e]; exact g
      · exact c q (by omega) h2
    · rw [goF_stop fun z => g z.2]
      refine ⟨Nat.le_refl _, h, fun q h1 h2 => absurd h2 (by omega), fun _ => ?_⟩
      cases z : isF ps f p with
      | true => exact absurd z g
      | false => rfl
noncomputable def HW.mark (st : HW) (f : Nat) : Nat := goF st.ps f (st.en.getD f 0) (st.mks.getD f 0)
noncomputable def HW.marked (st : HW) (f : Nat) : HW := { st with mks := st.mks.set f (st.mark f) }
noncomputable def HW.takeG (st : HW) : Nat → Nat → Option Nat × HW
  | 0, _ => (none, st)
  | n + 1, f => if st.mark f < st.en.getD f 0 then (some (st.mark f), { st.marked f with hd := st.ps.getD (st.mark f) none, ps := st.ps.set (st.mark f) none }) else (st.marked f).takeG n (f + 1)
noncomputable def HW.putG (st : HW) (z : Nat × Nat) : HW := { st with ps := st.ps.set (st.mark z.1) (some z), hd := st.ps.getD (st.mark z.1) none, mks := st.mks.set z.1 (st.mark z.1 + 1), pt := st.pt + 1 }
inductive Mv where
  | take (p : Nat)
  | lay (p : Nat)
  | change (p : Nat)
noncomputable def HW.step (st : HW) : Option Mv × HW :=
  match st.hd with
  | none => ((st.takeG st.en.length 0).1.map Mv.take, (st.takeG st.en.length 0).2)
  | some z => (some (match st.ps.getD (st.mark z.1) none with | none => Mv.lay (st.mark z.1) | some _ => Mv.change (st.mark z.1)), st.putG z)
noncomputable def fm (ps : List PR) : List (Nat × Nat) := ps.filterMap id
noncomputable def HW.all (st : HW) : List (Nat × Nat) := fm st.ps ++ st.hd.toList
noncomputable def inP (os : List Nat) (g p : Nat) : Bool := decide (lessN os g ≤ p) && decide (p < lessN os (g + 1))
structure HwOk (qs : List (Nat × Nat)) (b : Nat) (st : HW) : Prop where
  en : st.en = (List.range b).map fun f => lessN (qs.map Prod.fst) (f + 1)
  ml : st.mks.length = b
  lo : ∀ f, f < b → lessN (qs.map Prod.fst) f ≤ st.mks.getD f 0 ∧ st.mks.getD f 0 ≤ lessN (qs.map Prod.fst) (f + 1)
  fi : ∀ f, f < b → ∀ p, lessN (qs.map Prod.fst) f ≤ p → p < st.mks.getD f 0 → isF st.ps f p = true
  pl : st.ps.length = qs.length
  pe : st.all.Perm qs
theorem getD_set_same {α : Type} {xs : List α} {i : Nat} {x d : α} (h : i < xs.length) : (xs.set i x).getD i d = x := by
  rw [List.getD_eq_getElem?_getD, List.getElem?_set_self h]; rfl
theorem getD_set_ne {α : Type} {xs : List α} {i j : Nat} {x d : α} (h : i ≠ j) : (xs.set i x).getD j d = xs.getD j d := by
  rw [List.getD_eq_getElem?_getD, List.getElem?_set_ne h, List.getD_eq_getElem?_getD]
theorem fm_cons (o : PR) (ps : List PR) : fm (o :: ps) = o.toList ++ fm ps := by
  unfold fm
  cases o <;> rfl
theorem fm_set : ∀ (ps : List PR) (p : Nat) (o : PR), p < ps.length → (fm (ps.set p o) ++ (ps.getD p none).toList).Perm (fm ps ++ o.toList)
  | [], p, o, h => absurd h (Nat.not_lt_zero _)
  | x :: r, 0, o, h => by
    rw [List.set_cons_zero, fm_cons, fm_cons, show (x :: r).getD 0 none = x from rfl]
    refine List.perm_iff_count.mpr fun a => ?_
    simp only [List.count_append]; omega
  | x :: r, p + 1, o, h => by
    have ih := fm_set r p o (by simpa using h)
    rw [List.set_cons_succ, fm_cons, fm_cons, show (x :: r).getD (p + 1) none = r.getD p none from by simp [List.getD_eq_getElem?_getD]]
    rw [List.append_assoc, List.append_assoc]
    exact ih.append_left _
theorem fm_len_le : ∀ (ps : List PR), (fm ps).length ≤ ps.length
  | [] => Nat.le_refl _
  | o :: r => by
    have := fm_len_le r
    rw [fm_cons, List.length_append, List.length_cons]
    cases o <;> simp <;> omega
theorem fm_full : ∀ (ps : List PR), (fm ps).length = ps.length → ∀ p, p < ps.length → ps.getD p none ≠ none
  | [], _, p, h => absurd h (Nat.not_lt_zero _)
  | o :: r, h, p, hp => by
    have := fm_len_le r
    rw [fm_cons, List.length_append, List.length_cons] at h
    cases o with
    | none => simp at h; omega
    | some z =>
      match p with
      | 0 => intro e; cases e
      | p + 1 =>
        rw [show (some z :: r).getD (p + 1) none = r.getD p none from by simp [List.getD_eq_getElem?_getD]]
        exact fm_full r (by simp at h; omega) p (by simpa using hp)
theorem fm_one : ∀ (ps : List PR) (f : Nat), (∀ o ∈ ps, figO f o = true) → ((fm ps).map Prod.fst).count f = ps.length
  | [], _, _ => rfl
  | o :: r, f, h => by
    have ih := fm_one r f fun o ho => h o (List.mem_cons_of_mem _ ho)
    have ho := h o (List.mem_cons_self ..)
    cases o with
    | none => cases ho
    | some z =>
      have : z.1 = f := of_decide_eq_true ho
      rw [fm_cons]
      show ((z.1 :: (fm r).map Prod.fst)).count f = _
      rw [this, List.count_cons_self, ih]; rfl
theorem fm_seg {ps : List PR} {f a m : Nat} (h : ∀ p, a ≤ p → p < a + m → isF ps f p = true) (hl : a + m ≤ ps.length) : m ≤ ((fm ps).map Prod.fst).count f := by
  have h1 : ((ps.drop a).take m).Sublist ps := (List.take_sublist ..).trans (List.drop_sublist ..)
  have h2 : ((fm ((ps.drop a).take m)).map Prod.fst).Sublist ((fm ps).map Prod.fst) := (h1.filterMap id).map _
  have h3 := h2.count_le f
  have h4 := fm_one ((ps.drop a).take m) f fun o ho => by
    obtain ⟨i, hi, rfl⟩ := List.getElem_of_mem ho
    rw [List.length_take, List.length_drop] at hi
    have := h (a + i) (by omega) (by omega)
    unfold isF at this
    rw [List.getD_eq_getElem?_getD, List.getElem?_eq_getElem (by omega)] at this
    rw [List.getElem_take, List.getElem_drop]
    exact this
  rw [List.length_take, List.length_drop] at h4
  omega
theorem isF_set_ne {ps : List PR} {f p q : Nat} {o : PR} (h : p ≠ q) : isF (ps.set p o) f q = isF ps f q := by
  unfold isF; rw [getD_set_ne h]
section
variable {qs : List (Nat × Nat)} {b : Nat} {st : HW}
theorem HwOk.el (h : HwOk qs b st) : st.en.length = b := by rw [h.en]; simp
theorem HwOk.eg (h : HwOk qs b st) {f : Nat} (hf : f < b) : st.en.getD f 0 = lessN (qs.map Prod.fst) (f + 1) := by
  rw [h.en, List.getD_eq_getElem?_getD, List.getElem?_map, List.getElem?_range hf]; rfl
theorem HwOk.less (h : HwOk qs b st) (f : Nat) : lessN (qs.map Prod.fst) f ≤ st.ps.length := by
  have := lessN_le (qs.map Prod.fst) f
  rw [h.pl]; simpa using this
theorem HwOk.mk_facts (h : HwOk qs b st) {f : Nat} (hf : f < b) : st.mks.getD f 0 ≤ st.mark f ∧ st.mark f ≤ lessN (qs.map Prod.fst) (f + 1) ∧ (∀ p, lessN (qs.map Prod.fst) f ≤ p → p < st.mark f → isF st.ps f p = true) ∧ (st.mark f < lessN (qs.map Prod.fst) (f + 1) → isF st.ps f (st.mark f) = false) := by
  unfold HW.mark
  rw [h.eg hf]
  obtain ⟨a, b', c, d⟩ := goF_facts (ps := st.ps) (f := f) (e := lessN (qs.map Prod.fst) (f + 1)) (st.mks.getD f 0) (h.lo f hf).2
  refine ⟨a, b', fun p h1 h2 => ?_, d⟩
  by_cases g : p < st.mks.getD f 0
  · exact h.fi f hf p h1 g
  · exact c p (by omega) h2
theorem HwOk.marked (h : HwOk qs b st) {f : Nat} (hf : f < b) : HwOk qs b (st.marked f) := by
  obtain ⟨m1, m2, m3, m4⟩ := h.mk_facts hf
  refine ⟨h.en, by show (st.mks.set f _).length = b; rw [List.length_set]; exact h.ml, fun g hg => ?_, fun g hg p h1 h2 => ?_, h.pl, h.pe⟩
  · show lessN (qs.map Prod.fst) g ≤ (st.mks.set f (st.mark f)).getD g 0 ∧ (st.mks.set f (st.mark f)).getD g 0 ≤ _
    by_cases e : f = g
    · subst e
      rw [getD_set_same (by rw [h.ml]; exact hf)]
      exact ⟨Nat.le_trans (h.lo f hf).1 m1, m2⟩
    · rw [getD_set_ne e]; exact h.lo g hg
  · have h2 : p < (st.mks.set f (st.mark f)).getD g 0 := h2
    by_cases e : f = g
    · subst e
      rw [getD_set_same (by rw [h.ml]; exact hf)] at h2
      exact m3 p h1 h2
    · rw [getD_set_ne e] at h2
      exact h.fi g hg p h1 h2
theorem HwOk.full (h : HwOk qs b st) (hd : st.hd = none) : ∀ p, p < st.ps.length → st.ps.getD p none ≠ none := by
  have e := h.pe.length_eq
  unfold HW.all at e
  rw [hd] at e
  exact fm_full _ (by rw [h.pl]; simpa using e)
theorem inP_other {os : List Nat} {f g p : Nat} (h1 : lessN os f ≤ p) (h2 : p < lessN os (f + 1)) (hn : g ≠ f) : inP os g p = false := by
  unfold inP
  rcases Nat.lt_or_gt_of_ne hn with z | z
  · have := lessN_mono (os := os) (show g + 1 ≤ f from z)
    rw [decide_eq_false (by omega : ¬ p < lessN os (g + 1)), Bool.and_false]
  · have := lessN_mono (os := os) (show f + 1 ≤ g from z)
    rw [decide_eq_false (by omega : ¬ lessN os g ≤ p), Bool.false_and]
theorem inP_true {os : List Nat} {f p : Nat} (h1 : lessN os f ≤ p) (h2 : p < lessN os (f + 1)) : inP os f p = true := by
  unfold inP
  rw [decide_eq_true h1, decide_eq_true h2]; rfl
theorem takeG_spec (n : Nat) : ∀ (f : Nat) (st : HW), HwOk qs b st → st.hd = none → f + n = b → (∀ g, g < f → ∀ p, lessN (qs.map Prod.fst) g ≤ p → p < lessN (qs.map Prod.fst) (g + 1) → isF st.ps g p = true) →
    ((st.takeG n f).1 = none ∧ (st.takeG n f).2.ps = st.ps ∧ (st.takeG n f).2.hd = none ∧ (st.takeG n f).2.pt = st.pt ∧ HwOk qs b (st.takeG n f).2 ∧ ∀ g, g < b → ∀ p, lessN (qs.map Prod.fst) g ≤ p → p < lessN (qs.map Prod.fst) (g + 1) → isF st.ps g p = true) ∨
    (∃ p z, (st.takeG n f).1 = some p ∧ p < st.ps.length ∧ st.ps.getD p none = some z ∧ inP (qs.map Prod.fst) z.1 p = false ∧ (st.takeG n f).2.hd = some z ∧ (st.takeG n f).2.ps = st.ps.set p none ∧ (st.takeG n f).2.pt = st.pt ∧ HwOk qs b (st.takeG n f).2) := by
  induction n with
  | zero =>
    intro f st h hd hf hg
    exact .inl ⟨rfl, rfl, hd, rfl, h, fun g hgb => hg g (by omega)⟩
  | succ n ih =>
    intro f st h hd hf hg
    have hfb : f < b := by omega
    obtain ⟨m1, m2, m3, m4⟩ := h.mk_facts hfb
    have hls := h.less (f + 1)
    unfold HW.takeG
    by_cases c : st.mark f < st.en.getD f 0
    · rw [if_pos c]
      rw [h.eg hfb] at c
      have hF := m4 c
      have hlo : lessN (qs.map Prod.fst) f ≤ st.mark f := Nat.le_trans (h.lo f hfb).1 m1
      have hpl : st.mark f < st.ps.length := by omega
      cases hz : st.ps.getD (st.mark f) none with
      | none => exact absurd hz (h.full hd _ hpl)
      | some z =>
        have hne : z.1 ≠ f := fun e => by
          unfold isF at hF
          rw [hz] at hF
          exact absurd e (of_decide_eq_false hF)
        refine .inr ⟨st.mark f, z, rfl, hpl, hz, inP_other hlo c hne, rfl, rfl, rfl, ?_⟩
        have hm := h.marked hfb
        refine ⟨hm.en, hm.ml, hm.lo, fun g hgb p h1 h2 => ?_, by show (st.ps.set _ none).length = _; rw [List.length_set]; exact h.pl, ?_⟩
        · have key := hm.fi g hgb p h1 h2
          show isF (st.ps.set (st.mark f) none) g p = true
          rw [isF_set_ne]
          · exact key
          · intro e
            subst e
            have k2 : isF st.ps g (st.mark f) = true := key
            have hgf : g ≠ f := fun z' => by rw [z', hF] at k2; cases k2
            have := inP_other (os := qs.map Prod.fst) hlo c hgf
            have hup := (hm.lo g hgb).2
            rw [inP_true h1 (Nat.lt_of_lt_of_le h2 hup)] at this
            cases this
        · have k1 := fm_set st.ps (st.mark f) none hpl
          rw [hz] at k1
          have k2 := h.pe
          unfold HW.all at k2 ⊢
          rw [hd] at k2
          exact k1.trans k2
    · rw [if_neg c]
      rw [h.eg hfb] at c
      have hm : st.mark f = lessN (qs.map Prod.fst) (f + 1) := by omega
      rcases ih (f + 1) (st.marked f) (h.marked hfb) hd (by omega) (fun g hg' p h1 h2 => by
        by_cases e : g = f
        · subst e
          exact m3 p h1 (by omega)
        · exact hg g (by omega) p h1 h2) with r | r
      · exact .inl r
      · exact .inr r
theorem putG_spec {z : Nat × Nat} (h : HwOk qs b st) (hq : ∀ q ∈ qs, q.1 < b) (hd : st.hd = some z) :
    z.1 < b ∧ st.mark z.1 < st.ps.length ∧ inP (qs.map Prod.fst) z.1 (st.mark z.1) = true ∧ (∀ y, st.ps.getD (st.mark z.1) none = some y → inP (qs.map Prod.fst) y.1 (st.mark z.1) = false) ∧ HwOk qs b (st.putG z) := by
  have hzm : z ∈ qs := h.pe.mem_iff.mp (by unfold HW.all; rw [hd]; simp)
  have hzb := hq z hzm
  obtain ⟨m1, m2, m3, m4⟩ := h.mk_facts hzb
  have hls := h.less (z.1 + 1)
  have hlo : lessN (qs.map Prod.fst) z.1 ≤ st.mark z.1 := Nat.le_trans (h.lo z.1 hzb).1 m1
  have hlt : st.mark z.1 < lessN (qs.map Prod.fst) (z.1 + 1) := by
    apply Classical.byContradiction
    intro c
    have e : st.mark z.1 = lessN (qs.map Prod.fst) (z.1 + 1) := by omega
    have hsu := lessN_succ (qs.map Prod.fst) z.1
    have k1 := fm_seg (ps := st.ps) (f := z.1) (a := lessN (qs.map Prod.fst) z.1) (m := (qs.map Prod.fst).count z.1) (fun p h1 h2 => m3 p h1 (by omega)) (by omega)
    have k2 := (h.pe.map Prod.fst).count_eq z.1
    unfold HW.all at k2
    rw [hd, List.map_append, List.count_append] at k2
    simp at k2
    have k3 : (List.map Prod.fst (fm st.ps)).count z.1 + 1 = (qs.map Prod.fst).count z.1 := by
      rw [← k2]
    omega
  have hF := m4 hlt
  have hpl : st.mark z.1 < st.ps.length := by omega
  refine ⟨hzb, hpl, inP_true hlo hlt, fun y hy => inP_other hlo hlt fun e => ?_, ?_⟩
  · unfold isF at hF
    rw [hy] at hF
    exact absurd e (of_decide_eq_false hF)
  · refine ⟨h.en, by show (st.mks.set _ _).length = b; rw [List.length_set]; exact h.ml, fun g hg => ?_, fun g hg p h1 h2 => ?_, by show (st.ps.set _ _).length = _; rw [List.length_set]; exact h.pl, ?_⟩
    · show lessN (qs.map Prod.fst) g ≤ (st.mks.set z.1 (st.mark z.1 + 1)).getD g 0 ∧ (st.mks.set z.1 (st.mark z.1 + 1)).getD g 0 ≤ _
      by_cases e : z.1 = g
      · subst e
        rw [getD_set_same (by rw [h.ml]; exact hzb)]
        exact ⟨by omega, hlt⟩
      · rw [getD_set_ne e]; exact h.lo g hg
    · have h2 : p < (st.mks.set z.1 (st.mark z.1 + 1)).getD g 0 := h2
      show isF (st.ps.set (st.mark z.1) (some z)) g p = true
      by_cases e : z.1 = g
      · rw [← e] at h1 h2 ⊢
        rw [getD_set_same (by rw [h.ml]; exact hzb)] at h2
        by_cases e2 : st.mark z.1 = p
        · rw [← e2]
          unfold isF
          rw [getD_set_same hpl]
          exact decide_eq_true rfl
        · rw [isF_set_ne e2]
          exact m3 p h1 (by omega)
      · rw [getD_set_ne e] at h2
        have hup := (h.lo g hg).2
        have hne : st.mark z.1 ≠ p := fun e2 => by
          have := inP_other (os := qs.map Prod.fst) hlo hlt (fun z' => e z'.symm)
          rw [e2, inP_true h1 (Nat.lt_of_lt_of_le h2 hup)] at this
          cases this
        rw [isF_set_ne hne]
        exact h.fi g hg p h1 h2
    · have k1 := fm_set st.ps (st.mark z.1) (some z) hpl
      have k2 := h.pe
      unfold HW.all at k2 ⊢
      rw [hd] at k2
      exact k1.trans k2
end
noncomputable def bad (os : List Nat) (p : Nat) (o : PR) : Nat := match o with | some z => if inP os z.1 p = true then 0 else 1 | none => 0
noncomputable def misL (os : List Nat) : Nat → List PR → Nat
  | _, [] => 0
  | k, o :: r => bad os k o + misL os (k + 1) r
theorem misL_set (os : List Nat) : ∀ (k : Nat) (ps : List PR) (p : Nat) (o : PR), p < ps.length → misL os k (ps.set p o) + bad os (k + p) (ps.getD p none) = misL os k ps + bad os (k + p) o
  | k, [], p, o, h => absurd h (Nat.not_lt_zero _)
  | k, x :: r, 0, o, h => by
    simp only [List.set_cons_zero, misL, Nat.add_zero, show (x :: r).getD 0 none = x from rfl]; omega
  | k, x :: r, p + 1, o, h => by
    have ih := misL_set os (k + 1) r p o (by simpa using h)
    rw [List.set_cons_succ, misL, misL, show (x :: r).getD (p + 1) none = r.getD p none from by simp [List.getD_eq_getElem?_getD]]
    rw [show k + 1 + p = k + (p + 1) by omega] at ih
    omega
theorem bad_le (os : List Nat) (p : Nat) (o : PR) : bad os p o ≤ 1 := by
  unfold bad
  split
  · split <;> omega
  · omega
theorem misL_le (os : List Nat) : ∀ (k : Nat) (ps : List PR), misL os k ps ≤ ps.length
  | _, [] => Nat.le_refl _
  | k, o :: r => by
    have := misL_le os (k + 1) r
    have := bad_le os k o
    rw [misL, List.length_cons]; omega
theorem misL_zero (os : List Nat) : ∀ (k : Nat) (ps : List PR), (∀ p, p < ps.length → bad os (k + p) (ps.getD p none) = 0) → misL os k ps = 0
  | _, [], _ => rfl
  | k, o :: r, h => by
    have h0 := h 0 (by simp)
    have ih := misL_zero os (k + 1) r fun p hp => by
      have := h (p + 1) (by simpa using hp)
      rw [show (o :: r).getD (p + 1) none = r.getD p none from by simp [List.getD_eq_getElem?_getD]] at this
      rw [show k + 1 + p = k + (p + 1) by omega]; exact this
    rw [misL, ih]
    exact h0
noncomputable def HW.mis (os : List Nat) (st : HW) : Nat := misL os 0 st.ps + st.hd.toList.length
theorem place_part (os : List Nat) (b : Nat) (h : ∀ o ∈ os, o < b) {p : Nat} (hp : p < os.length) : ∃ f, f < b ∧ lessN os f ≤ p ∧ p < lessN os (f + 1) := by
  have hb : lessN os b = os.length := by
    unfold lessN
    rw [List.countP_eq_length]
    exact fun o ho => decide_eq_true (h o ho)
  have h0 : lessN os 0 = 0 := by
    unfold lessN
    rw [List.countP_eq_zero]
    intro o _
    simp
  clear h
  induction b with
  | zero => omega
  | succ b ih =>
    by_cases g : lessN os b ≤ p
    · exact ⟨b, Nat.lt_succ_self _, g, by omega⟩
    · have : ∀ c, lessN os c ≤ p ∨ ¬ lessN os c ≤ p := fun c => Classical.em _
      clear hb ih
      induction b with
      | zero => omega
      | succ b ih =>
        by_cases g2 : lessN os b ≤ p
        · exact ⟨b, by omega, g2, by omega⟩
        · obtain ⟨f, h1, h2⟩ := ih g2
          exact ⟨f, by omega, h2⟩
section
variable {qs : List (Nat × Nat)} {b : Nat} {st : HW}
theorem step_spec (h : HwOk qs b st) (hq : ∀ q ∈ qs, q.1 < b) :
    (st.hd = none ∧ st.step.1 = none ∧ st.step.2.ps = st.ps ∧ st.step.2.hd = none ∧ st.step.2.pt = st.pt ∧ HwOk qs b st.step.2 ∧ st.mis (qs.map Prod.fst) = 0 ∧ st.step.2.mis (qs.map Prod.fst) = 0 ∧ (∀ g, g < b → ∀ p, lessN (qs.map Prod.fst) g ≤ p → p < lessN (qs.map Prod.fst) (g + 1) → isF st.ps g p = true)) ∨
    (∃ p z, st.hd = none ∧ st.step.1 = some (.take p) ∧ p < st.ps.length ∧ st.ps.getD p none = some z ∧ inP (qs.map Prod.fst) z.1 p = false ∧ st.step.2.hd = some z ∧ st.step.2.ps = st.ps.set p none ∧ st.step.2.pt = st.pt ∧ HwOk qs b st.step.2 ∧ st.step.2.mis (qs.map Prod.fst) = st.mis (qs.map Prod.fst)) ∨
    (∃ p z, st.hd = some z ∧ p < st.ps.length ∧ inP (qs.map Prod.fst) z.1 p = true ∧ st.step.2.ps = st.ps.set p (some z) ∧ st.step.2.hd = st.ps.getD p none ∧ st.step.2.pt = st.pt + 1 ∧ HwOk qs b st.step.2 ∧ st.step.2.mis (qs.map Prod.fst) + 1 = st.mis (qs.map Prod.fst) ∧
      ((st.ps.getD p none = none ∧ st.step.1 = some (.lay p)) ∨ ∃ y, st.ps.getD p none = some y ∧ inP (qs.map Prod.fst) y.1 p = false ∧ st.step.1 = some (.change p))) := by
  cases hd : st.hd with
  | none =>
    have es : st.step = ((st.takeG st.en.length 0).1.map Mv.take, (st.takeG st.en.length 0).2) := by unfold HW.step; rw [hd]
    rw [es, h.el]
    rcases takeG_spec b 0 st h hd (by omega) (fun g hg => absurd hg (Nat.not_lt_zero _)) with ⟨r1, r2, r3, r4, r5, r6⟩ | ⟨p, z, r1, r2, r3, r4, r5, r6, r7, r8⟩
    · have hm : misL (qs.map Prod.fst) 0 st.ps = 0 := misL_zero _ _ _ fun p hp => by
        rw [Nat.zero_add]
        obtain ⟨f, f1, f2, f3⟩ := place_part (qs.map Prod.fst) b (fun o ho => by obtain ⟨q, hq', rfl⟩ := List.mem_map.mp ho; exact hq q hq') (p := p) (by rw [List.length_map, ← h.pl]; exact hp)
        have k := r6 f f1 p f2 f3
        unfold isF at k
        cases e : st.ps.getD p none with
        | none => rfl
        | some z =>
          rw [e] at k
          have : z.1 = f := of_decide_eq_true k
          unfold bad
          simp only
          rw [this, inP_true f2 f3, if_pos rfl]
      refine .inl ⟨rfl, by rw [r1]; rfl, r2, r3, r4, r5, ?_, ?_, r6⟩
      · unfold HW.mis; rw [hd, hm]; rfl
      · unfold HW.mis; rw [r2, r3, hm]; rfl
    · refine .inr (.inl ⟨p, z, rfl, by rw [r1]; rfl, r2, r3, r4, r5, r6, r7, r8, ?_⟩)
      have k := misL_set (qs.map Prod.fst) 0 st.ps p none r2
      rw [Nat.zero_add, r3] at k
      have kb : bad (qs.map Prod.fst) p (some z) = 1 := by unfold bad; simp only; rw [r4]; rfl
      rw [kb] at k
      unfold HW.mis
      rw [r5, r6, hd]
      show _ + 1 = _ + 0
      have k0 : bad (qs.map Prod.fst) p none = 0 := rfl
      omega
  | some z =>
    obtain ⟨h1, h2, h3, h4, h5⟩ := putG_spec h hq hd
    have es : st.step = (some (match st.ps.getD (st.mark z.1) none with | none => Mv.lay (st.mark z.1) | some _ => Mv.change (st.mark z.1)), st.putG z) := by unfold HW.step; rw [hd]
    rw [es]
    refine .inr (.inr ⟨st.mark z.1, z, rfl, h2, h3, rfl, rfl, rfl, h5, ?_, ?_⟩)
    · have k := misL_set (qs.map Prod.fst) 0 st.ps (st.mark z.1) (some z) h2
      rw [Nat.zero_add] at k
      have kb : bad (qs.map Prod.fst) (st.mark z.1) (some z) = 0 := by unfold bad; simp only; rw [h3]; rfl
      rw [kb] at k
      unfold HW.mis
      rw [hd]
      show misL (qs.map Prod.fst) 0 (st.ps.set (st.mark z.1) (some z)) + (st.ps.getD (st.mark z.1) none).toList.length + 1 = _ + 1
      cases e : st.ps.getD (st.mark z.1) none with
      | none =>
        rw [e] at k
        have : bad (qs.map Prod.fst) (st.mark z.1) none = 0 := rfl
        show _ + 0 + 1 = _
        omega
      | some y =>
        rw [e] at k
        have : bad (qs.map Prod.fst) (st.mark z.1) (some y) = 1 := by unfold bad; simp only; rw [h4 y e]; rfl
        show _ + 1 + 1 = _
        omega
    · cases e : st.ps.getD (st.mark z.1) none with
      | none => exact .inl ⟨rfl, rfl⟩
      | some y => exact .inr ⟨y, rfl, h4 y e, rfl⟩
end
end L2
namespace L2
open PySem PySem.Spec PyProof.Rows
noncomputable def rNotN : R2 := fun x y H Q => y = .non ∧ Q (.bl (!decide (x = .non))) H
theorem q_notN {X : Cx} : QOp X (compareOp .IsNot) rNotN := ⟨op_notN⟩
theorem in_notNo {H : Hp} {Q : VK} {x : V} (h : Q (.bl (!decide (x = .non))) H) : rNotN x .non H Q := ⟨rfl, h⟩
theorem putF_hit (f : Str) (v x : V) (r : List (Str × V)) : putF f v ((f, x) :: r) = (f, v) :: r := by rw [putF, if_pos rfl]
theorem putF_skip {f g : Str} (v x : V) (r : List (Str × V)) (h : ¬ g = f) : putF f v ((g, x) :: r) = (g, x) :: putF f v r := by rw [putF, if_neg h]
theorem fld_hit {f : Str} {v : V} {r : List (Str × V)} : List.lookup f ((f, v) :: r) = some v := by simp [List.lookup]
theorem fld_skip {f g : Str} {v : V} {r : List (Str × V)} (h : ¬ f = g) : List.lookup f ((g, v) :: r) = List.lookup f r := by
  have : (f == g) = false := by simpa using h
  simp [List.lookup, this]
noncomputable def PrV (H : Hp) (v : V) (o : PR) : Prop := match o with | none => v = .non | some z => ∃ q, v = .ref q ∧ H q = some (.tup [.int (z.1 : Nat), .int (z.2 : Nat)])
noncomputable def PrsAt (H : Hp) (vs : List V) (ps : List PR) : Prop := vs.length = ps.length ∧ ∀ (i : Nat) v o, vs[i]? = some v → ps[i]? = some o → PrV H v o
theorem PrV.same {H H1 : Hp} {v : V} {o : PR} (h : PrV H v o) (s : Same H H1) : PrV H1 v o := by
  cases o with
  | none => exact h
  | some z => obtain ⟨q, e, t⟩ := h; exact ⟨q, e, s _ _ t⟩
theorem PrsAt.same {H H1 : Hp} {vs : List V} {ps : List PR} (h : PrsAt H vs ps) (s : Same H H1) : PrsAt H1 vs ps := ⟨h.1, fun i v o a b => (h.2 i v o a b).same s⟩
theorem PrsAt.get {H : Hp} {vs : List V} {ps : List PR} (h : PrsAt H vs ps) {p : Nat} (hp : p < ps.length) : ∃ v, vs[p]? = some v ∧ PrV H v (ps.getD p none) := by
  have h1 : p < vs.length := by rw [h.1]; exact hp
  refine ⟨vs[p], List.getElem?_eq_getElem h1, h.2 p _ _ (List.getElem?_eq_getElem h1) ?_⟩
  rw [List.getD_eq_getElem?_getD, List.getElem?_eq_getElem hp]; rfl
theorem PrsAt.set {H : Hp} {vs : List V} {ps : List PR} (h : PrsAt H vs ps) {p : Nat} {v : V} {o : PR} (hv : PrV H v o) : PrsAt H (vs.set p v) (ps.set p o) := by
  refine ⟨by rw [List.length_set, List.length_set, h.1], fun i v' o' a b => ?_⟩
  by_cases e : p = i
  · subst e
    by_cases l : p < vs.length
    · rw [List.getElem?_set_self l] at a
      rw [List.getElem?_set_self (by rw [← h.1]; exact l)] at b
      cases a; cases b
      exact hv
    · rw [List.getElem?_eq_none (by rw [List.length_set]; omega)] at a; cases a
  · rw [List.getElem?_set_ne e] at a b
    exact h.2 i v' o' a b
theorem ne_hph : ¬ (("pairs" : Str) = "held") := by decide +kernel
theorem ne_hpm : ¬ (("pairs" : Str) = "marks") := by decide +kernel
theorem ne_hpe : ¬ (("pairs" : Str) = "ends") := by decide +kernel
theorem ne_hpp : ¬ (("pairs" : Str) = "many_puts") := by decide +kernel
theorem ne_hhm : ¬ (("held" : Str) = "marks") := by decide +kernel
theorem ne_hhe : ¬ (("held" : Str) = "ends") := by decide +kernel
theorem ne_hhp : ¬ (("held" : Str) = "many_puts") := by decide +kernel
theorem ne_hme : ¬ (("marks" : Str) = "ends") := by decide +kernel
theorem ne_hmp : ¬ (("marks" : Str) = "many_puts") := by decide +kernel
theorem ne_hep : ¬ (("ends" : Str) = "many_puts") := by decide +kernel
noncomputable def hwF (pa : Addr) (hv : V) (ma ea : Addr) (n : Int) : List (Str × V) := [("pairs", V.ref pa), ("held", hv), ("marks", V.ref ma), ("ends", V.ref ea), ("many_puts", V.int n)]
section
variable (pa : Addr) (hv v : V) (ma ea : Addr) (n m : Int)
theorem hwF_held : putF "held" v (hwF pa hv ma ea n) = hwF pa v ma ea n := by unfold hwF; rw [putF_skip _ _ _ ne_hph, putF_hit]
theorem hwF_puts : putF "many_puts" (.int m) (hwF pa hv ma ea n) = hwF pa hv ma ea m := by unfold hwF; rw [putF_skip _ _ _ ne_hpp, putF_skip _ _ _ ne_hhp, putF_skip _ _ _ ne_hmp, putF_skip _ _ _ ne_hep, putF_hit]
theorem hwF_new : putF "many_puts" (.int n) (putF "ends" (.ref ea) (putF "marks" (.ref ma) (putF "held" hv (putF "pairs" (.ref pa) [])))) = hwF pa hv ma ea n := by
  show putF "many_puts" (.int n) (putF "ends" (.ref ea) (putF "marks" (.ref ma) (putF "held" hv [("pairs", V.ref pa)]))) = _
  rw [putF_skip _ _ _ ne_hph]
  show putF "many_puts" (.int n) (putF "ends" (.ref ea) (putF "marks" (.ref ma) [("pairs", V.ref pa), ("held", hv)])) = _
  rw [putF_skip _ _ _ ne_hpm, putF_skip _ _ _ ne_hhm]
  show putF "many_puts" (.int n) (putF "ends" (.ref ea) [("pairs", V.ref pa), ("held", hv), ("marks", V.ref ma)]) = _
  rw [putF_skip _ _ _ ne_hpe, putF_skip _ _ _ ne_hhe, putF_skip _ _ _ ne_hme]
  show putF "many_puts" (.int n) [("pairs", V.ref pa), ("held", hv), ("marks", V.ref ma), ("ends", V.ref ea)] = _
  rw [putF_skip _ _ _ ne_hpp, putF_skip _ _ _ ne_hhp, putF_skip _ _ _ ne_hmp, putF_skip _ _ _ ne_hep]
  rfl
theorem hwF_at_pairs : (hwF pa hv ma ea n).lookup ("pairs" : Str) = some (.ref pa) := fld_hit
theorem hwF_at_held : (hwF pa hv ma ea n).lookup ("held" : Str) = some hv := by unfold hwF; rw [fld_skip (Ne.symm ne_hph), fld_hit]
theorem hwF_at_marks : (hwF pa hv ma ea n).lookup ("marks" : Str) = some (.ref ma) := by unfold hwF; rw [fld_skip (Ne.symm ne_hpm), fld_skip (Ne.symm ne_hhm), fld_hit]
theorem hwF_at_ends : (hwF pa hv ma ea n).lookup ("ends" : Str) = some (.ref ea) := by unfold hwF; rw [fld_skip (Ne.symm ne_hpe), fld_skip (Ne.symm ne_hhe), fld_skip (Ne.symm ne_hme), fld_hit]
theorem hwF_at_puts : (hwF pa hv ma ea n).lookup ("many_puts" : Str) = some (.int n) := by unfold hwF; rw [fld_skip (Ne.symm ne_hpp), fld_skip (Ne.symm ne_hhp), fld_skip (Ne.symm ne_hmp), fld_skip (Ne.symm ne_hep), fld_hit]
theorem hwF_no {f : Str} (h1 : ¬ f = "pairs") (h2 : ¬ f = "held") (h3 : ¬ f = "marks") (h4 : ¬ f = "ends") (h5 : ¬ f = "many_puts") : (hwF pa hv ma ea n).lookup f = none := by
  unfold hwF
  rw [fld_skip h1, fld_skip h2, fld_skip h3, fld_skip h4, fld_skip h5]; rfl
end
structure HwAt (C : Addr) (H : Hp) (w pa ma ea : Addr) (vs : List V) (hv : V) (st : HW) : Prop where
  ob : ∃ dx, H w = some (.ins C dx (hwF pa hv ma ea (st.pt : Nat)))
  tp : H pa = some (.lst vs)
  pv : PrsAt H vs st.ps
  hh : PrV H hv st.hd
  tm : H ma = some (.lst (NV st.mks))
  te : H ea = some (.lst (NV st.en))
  n1 : pa ≠ ma
  n2 : pa ≠ ea
  n3 : ma ≠ ea
noncomputable def KpH (w pa ma : Addr) (H H' : Hp) : Prop := ∀ b o, H b = some o → b ≠ w → b ≠ pa → b ≠ ma → H' b = some o
theorem KpH.refl (w pa ma : Addr) (H : Hp) : KpH w pa ma H H := fun _ _ e _ _ _ => e
theorem KpH.trans {w pa ma : Addr} {H H1 H2 : Hp} (a : KpH w pa ma H H1) (b : KpH w pa ma H1 H2) : KpH w pa ma H H2 := fun c o e x y z => b c o (a c o e x y z) x y z
theorem KpH.of {w pa ma : Addr} {H H1 : Hp} (s : Same H H1) : KpH w pa ma H H1 := fun c o e _ _ _ => s c o e
section
variable {C : Addr} {H H1 : Hp} {w pa ma ea : Addr} {vs : List V} {hv : V} {st : HW}
theorem HwAt.same (h : HwAt C H w pa ma ea vs hv st) (s : Same H H1) : HwAt C H1 w pa ma ea vs hv st := by
  obtain ⟨dx, e⟩ := h.ob
  exact ⟨⟨dx, s _ _ e⟩, s _ _ h.tp, h.pv.same s, h.hh.same s, s _ _ h.tm, s _ _ h.te, h.n1, h.n2, h.n3⟩
theorem HwAt.wp (h : HwAt C H w pa ma ea vs hv st) : w ≠ pa := by
  obtain ⟨dx, e⟩ := h.ob
  exact ne_of e h.tp (by intro z; cases z)
theorem HwAt.wm (h : HwAt C H w pa ma ea vs hv st) : w ≠ ma := by
  obtain ⟨dx, e⟩ := h.ob
  exact ne_of e h.tm (by intro z; cases z)
theorem HwAt.we (h : HwAt C H w pa ma ea vs hv st) : w ≠ ea := by
  obtain ⟨dx, e⟩ := h.ob
  exact ne_of e h.te (by intro z; cases z)
theorem KpH.tup (h : HwAt C H w pa ma ea vs hv st) (k : KpH w pa ma H H1) {q : Addr} {xs : List V} (t : H q = some (.tup xs)) : H1 q = some (.tup xs) := by
  obtain ⟨dx, e⟩ := h.ob
  exact k _ _ t (ne_of t e (by intro z; cases z)) (ne_of t h.tp (by intro z; cases z)) (ne_of t h.tm (by intro z; cases z))
theorem PrV.kp (h : HwAt C H w pa ma ea vs hv st) (k : KpH w pa ma H H1) {v : V} {o : PR} (p : PrV H v o) : PrV H1 v o := by
  cases o with
  | none => exact p
  | some z => obtain ⟨q, e, t⟩ := p; exact ⟨q, e, k.tup h t⟩
theorem PrsAt.kp (h : HwAt C H w pa ma ea vs hv st) (k : KpH w pa ma H H1) {us : List V} {ps : List PR} (p : PrsAt H us ps) : PrsAt H1 us ps := ⟨p.1, fun i v o a b => (p.2 i v o a b).kp h k⟩
theorem KpH.upM (h : HwAt C H w pa ma ea vs hv st) {o : HO} : KpH w pa ma H (upd H ma o) := fun b u e _ _ n => by rw [upd_ne n]; exact e
theorem KpH.upP (h : HwAt C H w pa ma ea vs hv st) {o : HO} : KpH w pa ma H (upd H pa o) := fun b u e _ n _ => by rw [upd_ne n]; exact e
theorem KpH.upW (h : HwAt C H w pa ma ea vs hv st) {o : HO} : KpH w pa ma H (upd H w o) := fun b u e n _ _ => by rw [upd_ne n]; exact e
theorem HwAt.setM (h : HwAt C H w pa ma ea vs hv st) (ms : List Nat) : HwAt C (upd H ma (.lst (NV ms))) w pa ma ea vs hv { st with mks := ms } := by
  obtain ⟨dx, e⟩ := h.ob
  exact ⟨⟨dx, by rw [upd_ne h.wm]; exact e⟩, by rw [upd_ne h.n1]; exact h.tp, h.pv.kp h (KpH.upM h), h.hh.kp h (KpH.upM h), upd_same, by rw [upd_ne (Ne.symm h.n3)]; exact h.te, h.n1, h.n2, h.n3⟩
theorem HwAt.setP (h : HwAt C H w pa ma ea vs hv st) {us : List V} {qs : List PR} (hu : PrsAt H us qs) : HwAt C (upd H pa (.lst us)) w pa ma ea us hv { st with ps := qs } := by
  obtain ⟨dx, e⟩ := h.ob
  exact ⟨⟨dx, by rw [upd_ne h.wp]; exact e⟩, upd_same, hu.kp h (KpH.upP h), h.hh.kp h (KpH.upP h), by rw [upd_ne (Ne.symm h.n1)]; exact h.tm, by rw [upd_ne (Ne.symm h.n2)]; exact h.te, h.n1, h.n2, h.n3⟩
theorem HwAt.setW (h : HwAt C H w pa ma ea vs hv st) {dx : Addr} {u : V} {o : PR} {n : Nat} (hu : PrV H u o) : HwAt C (upd H w (.ins C dx (hwF pa u ma ea (n : Nat)))) w pa ma ea vs u { st with hd := o, pt := n } :=
  ⟨⟨dx, upd_same⟩, by rw [upd_ne (Ne.symm h.wp)]; exact h.tp, h.pv.kp h (KpH.upW h), hu.kp h (KpH.upW h), by rw [upd_ne (Ne.symm h.wm)]; exact h.tm, by rw [upd_ne (Ne.symm h.we)]; exact h.te, h.n1, h.n2, h.n3⟩
end
noncomputable def hw0 (qs : List (Nat × Nat)) (b : Nat) : HW := ⟨qs.map some, none, (List.range b).map fun f => lessN (qs.map Prod.fst) f, (List.range b).map fun f => lessN (qs.map Prod.fst) (f + 1), 0⟩
theorem fm_some (qs : List (Nat × Nat)) : fm (qs.map some) = qs := by
  unfold fm
  rw [List.filterMap_map]
  exact List.filterMap_some
theorem hw0_ok (qs : List (Nat × Nat)) (b : Nat) : HwOk qs b (hw0 qs b) := by
  have hg : ∀ f, f < b → (hw0 qs b).mks.getD f 0 = lessN (qs.map Prod.fst) f := fun f hf => by
    show ((List.range b).map fun f => lessN (qs.map Prod.fst) f).getD f 0 = _
    rw [List.getD_eq_getElem?_getD, List.getElem?_map, List.getElem?_range hf]; rfl
  refine ⟨rfl, by simp [hw0], fun f hf => ?_, fun f hf p h1 h2 => ?_, by simp [hw0], ?_⟩
  · rw [hg f hf]
    exact ⟨Nat.le_refl _, lessN_mono (Nat.le_succ f)⟩
  · rw [hg f hf] at h2
    omega
  · show (fm (qs.map some) ++ []).Perm qs
    rw [fm_some, List.append_nil]
theorem PrV.th {H : Hp} {v : V} {o : PR} (h : PrV H v o) : Th H v := by
  cases o with
  | none => exact .inl (.inl h)
  | some z =>
    obtain ⟨q, rfl, t⟩ := h
    exact .inr ⟨q, _, rfl, t, by simp, by simp, fun x hx => by
      rcases List.mem_cons.mp hx with rfl | hx
      · exact .inr (.inr (.inl ⟨_, rfl⟩))
      · rw [List.mem_singleton.mp hx]; exact .inr (.inr (.inl ⟨_, rfl⟩))⟩
theorem PrV.copy {H : Hp} {v y : V} {o : PR} (h : PrV H v o) (e : ThE H v y) : PrV H y o := by
  cases o with
  | none =>
    have hv : v = .non := h
    rcases e with ⟨_, e⟩ | ⟨t, u, xs, e, _⟩
    · rw [e]; exact h
    · rw [hv] at e; cases e
  | some z =>
    obtain ⟨q, rfl, t⟩ := h
    rcases e with ⟨hs, e⟩ | ⟨t', u, xs, e, e2, h1, h2, _⟩
    · rcases hs with z | ⟨_, z⟩ | ⟨_, z⟩ | ⟨_, z⟩ <;> cases z
    · cases e
      rw [t] at h1
      cases h1
      exact ⟨u, e2, h2⟩
noncomputable def MvV (H : Hp) (v : V) : Option Mv → Prop
  | none => v = .non
  | some (.take p) => ∃ q, v = .ref q ∧ H q = some (.tup [.str "take", .int (p : Nat)])
  | some (.lay p) => ∃ q, v = .ref q ∧ H q = some (.tup [.str "lay", .int (p : Nat)])
  | some (.change p) => ∃ q, v = .ref q ∧ H q = some (.tup [.str "change", .int (p : Nat)])
structure HwB (st : HW) : Prop where
  ml : st.mks.length = st.en.length
  mb : ∀ f, f < st.en.length → st.mks.getD f 0 ≤ st.en.getD f 0 ∧ st.en.getD f 0 ≤ st.ps.length
theorem HwOk.bd {qs : List (Nat × Nat)} {b : Nat} {st : HW} (h : HwOk qs b st) : HwB st :=
  ⟨by rw [h.ml, h.el], fun f hf => by
    rw [h.el] at hf
    rw [h.eg hf]
    exact ⟨(h.lo f hf).2, h.less _⟩⟩
theorem HwB.marked {st : HW} (h : HwB st) {f : Nat} (hf : f < st.en.length) : HwB (st.marked f) := by
  refine ⟨by show (st.mks.set f _).length = _; rw [List.length_set]; exact h.ml, fun g hg => ?_⟩
  show (st.mks.set f (st.mark f)).getD g 0 ≤ _ ∧ _
  refine ⟨?_, (h.mb g hg).2⟩
  by_cases e : f = g
  · subst e
    rw [getD_set_same (by rw [h.ml]; exact hf)]
    exact (goF_facts _ (h.mb f hf).1).2.1
  · rw [getD_set_ne e]; exact (h.mb g hg).1
theorem getD_at {ns : List Nat} {f : Nat} (h : f < ns.length) : ns[f]? = some (ns.getD f 0) := by
  rw [List.getD_eq_getElem?_getD, List.getElem?_eq_getElem h]; rfl
theorem PrsAt.snoc {H : Hp} {vs : List V} {ps : List PR} {v : V} {o : PR} (h : PrsAt H vs ps) (hv : PrV H v o) : PrsAt H (vs ++ [v]) (ps ++ [o]) := by
  refine ⟨by rw [List.length_append, List.length_append, h.1]; rfl, fun i u x a b => ?_⟩
  by_cases l : i < vs.length
  · rw [List.getElem?_append_left l] at a
    rw [List.getElem?_append_left (by rw [← h.1]; exact l)] at b
    exact h.2 i u x a b
  · rw [List.getElem?_append_right (by omega)] at a
    rw [List.getElem?_append_right (by rw [← h.1]; omega), ← h.1] at b
    have hi : i - vs.length = 0 := by
      have := get_lt a
      simp at this; omega
    rw [hi] at a b
    cases a; cases b
    exact hv
noncomputable def PsT (H : Hp) (rs : List Addr) (qs : List (Nat × Nat)) : Prop := rs.length = qs.length ∧ ∀ (i : Nat) a z, rs[i]? = some a → qs[i]? = some z → H a = some (.tup [.int (z.1 : Nat), .int (z.2 : Nat)])
theorem PsT.same {H H1 : Hp} {rs : List Addr} {qs : List (Nat × Nat)} (h : PsT H rs qs) (s : Same H H1) : PsT H1 rs qs := ⟨h.1, fun i a z x y => s _ _ (h.2 i a z x y)⟩
theorem putF_len (f : Str) (v : V) : ∀ fs : List (Str × V), (putF f v fs).length ≤ fs.length + 1
  | [] => Nat.le_refl _
  | (g, x) :: r => by
    rw [putF]
    have := putF_len f v r
    split <;> simp <;> omega
end L2

namespace L2
open PySem PySem.Spec PyProof.Rows
noncomputable def prD (o : PR) : PyData := match o with | none => .none | some z => .tuple [.int (z.1 : Nat), .int (z.2 : Nat)]
theorem PsT.prs {H : Hp} {rs : List Addr} {qs : List (Nat × Nat)} (h : PsT H rs qs) : PrsAt H (rs.map V.ref) (qs.map some) := by
  refine ⟨by rw [List.length_map, List.length_map]; exact h.1, fun i v o e1 e2 => ?_⟩
  rw [List.getElem?_map] at e1 e2
  cases a : rs[i]? with
  | none => rw [a] at e1; cases e1
  | some r =>
    cases b : qs[i]? with
    | none => rw [b] at e2; cases e2
    | some z =>
      rw [a] at e1; rw [b] at e2
      cases e1; cases e2
      exact ⟨r, rfl, h.2 i r z a b⟩
noncomputable def Mv.pl : Mv → Nat
  | .take p => p
  | .lay p => p
  | .change p => p
noncomputable def Mv.wd : Mv → Str
  | .take _ => "take"
  | .lay _ => "lay"
  | .change _ => "change"
theorem MvV.some {H : Hp} {v : V} {m : Mv} (h : MvV H v (some m)) : ∃ q, v = .ref q ∧ H q = Option.some (.tup [.str m.wd, .int (m.pl : Nat)]) := by
  cases m <;> exact h
noncomputable def HW.mu (os : List Nat) (st : HW) : Nat := 2 * st.mis os - st.hd.toList.length
theorem mu_step {qs : List (Nat × Nat)} {b : Nat} {st : HW} (h : HwOk qs b st) (hq : ∀ q ∈ qs, q.1 < b) : st.step.1 = none ∨ st.step.2.mu (qs.map Prod.fst) + 1 ≤ st.mu (qs.map Prod.fst) := by
  have hl : ∀ o : PR, o.toList.length ≤ 1 := fun o => by cases o <;> simp
  rcases step_spec h hq with ⟨_, e, _⟩ | ⟨p, z, h1, _, _, _, _, h2, _, _, _, h3⟩ | ⟨p, z, h1, _, _, _, h2, _, _, h3, _⟩
  · exact .inl e
  · right
    unfold HW.mu
    have : st.step.2.mis (qs.map Prod.fst) ≥ 1 := by unfold HW.mis; rw [h2]; simp
    rw [h3] at this
    rw [h3, h1, h2]
    show 2 * _ - 1 + 1 ≤ 2 * _ - 0
    omega
  · right
    unfold HW.mu
    rw [h1]
    have := hl st.step.2.hd
    show _ ≤ 2 * _ - 1
    omega
theorem mu_begin (qs : List (Nat × Nat)) (b : Nat) : (hw0 qs b).mu (qs.map Prod.fst) ≤ 2 * qs.length := by
  unfold HW.mu HW.mis
  have := misL_le (qs.map Prod.fst) 0 (qs.map some)
  rw [List.length_map] at this
  show 2 * (misL (qs.map Prod.fst) 0 (qs.map some) + 0) - 0 ≤ _
  omega
end L2
namespace L2
open PySem PySem.Spec PyProof.Rows
end L2

namespace HT
open PySem PyProof.Rows PySem.W L2
section
open PySem.SeqAt
open PySem.AutoSeq1 (wpAny_loadPart')
open PySem.MeetsSeq PySem.MeetsSeq2 PySem.MeetsSeq3
end
section
variable {prog : Program} {w : World} {A : Around} {E : Value → Shared → Prop} {s : Shared}
end
end HT
namespace L2
open PySem PySem.Spec PyProof.Rows
section
variable {X : Cx}
end
end L2

namespace L2
open PySem PySem.Spec PyProof.Rows
noncomputable abbrev HP := List Nat × Nat
noncomputable def hlt (x y : HP) : Bool := HT.lt2 (castL x.1, [(x.2 : Int)]) (castL y.1, [(y.2 : Int)])
noncomputable def hd (L : List (List (List Nat))) (ms : List Nat) (i : Nat) : Option HP := ((L.getD i [])[ms.getD i 0]?).map fun r => (r, i)
end L2

namespace L2
open PySem PySem.Spec PyProof.Rows
section
variable {prog : Program} {w : World} {A : Around} {R : Result → Shared → Prop} {s : Shared} {scope : Scope}
end
section
variable {X : Cx} {N tgs frs : List Str} {ix : List Nat} {scope : Scope} {cl : List (Str × Addr)}
end
section
variable {K : PySem.W.Frag} {g g2 : TG} {wi2 : TI} {te : TE} {σ0 : St} {H : Hp} {R : List V → Hp → Prop}
end
end L2

namespace L2
open PySem PySem.Spec PyProof.Rows
inductive RMv where
  | take (p : Nat)
  | move (p q : Nat)
  | lay (p : Nat)
end L2

namespace L2
open PySem PySem.Spec PyProof.Rows
noncomputable def TupK (H H' : Hp) : Prop := ∀ b xs, H b = some (.tup xs) → H' b = some (.tup xs)
theorem TupK.of {H H1 : Hp} (s : Same H H1) : TupK H H1 := fun b xs e => s _ _ e
theorem TupK.st2 {H H1 : Hp} {p : Addr} (t : Tp2 H p) (s : St2 p H H1) : TupK H H1 := fun b xs e => by
  obtain ⟨a1, a2, h9, _⟩ := t
  exact s.keep _ _ e (ne_of e h9 (by intro c; cases c))
noncomputable def LfG (v : V) (d : PyData) : Prop := Leaf v d ∧ LeafE v d ∧ d.weight ≤ 100
noncomputable def Tg (H : Hp) (v : V) (d : PyData) : Prop := LfG v d ∨ ∃ t xs ds, v = .ref t ∧ d = .tuple ds ∧ H t = some (.tup xs) ∧ xs.length = ds.length ∧ 0 < xs.length ∧ xs.length ≤ 2 ∧ ∀ (i : Nat) u e, xs[i]? = some u → ds[i]? = some e → LfG u e
section
variable {H H1 : Hp} {v y : V} {d : PyData}
theorem LfG.sc (h : LfG v d) : Sc v := by
  rcases h.1 with ⟨e, _⟩ | ⟨b, e, _⟩ | ⟨i, e, _⟩ | ⟨y, e, _⟩
  · exact .inl e
  · exact .inr (.inl ⟨b, e⟩)
  · exact .inr (.inr (.inl ⟨i, e⟩))
  · exact .inr (.inr (.inr ⟨y, e⟩))
theorem LfG.non : LfG .non .none := ⟨.inl ⟨rfl, rfl⟩, .inl ⟨rfl, rfl⟩, by rw [PyData.weight]; omega⟩
theorem LfG.int {i : Int} (h : i.natAbs < 1000) : LfG (.int i) (.int i) := by
  refine ⟨.inr (.inr (.inl ⟨i, rfl, rfl, Nat.lt_trans h (by decide)⟩)), .inr (.inr (.inl ⟨i, rfl, rfl⟩)), ?_⟩
  rw [PyData.weight]
  split
  · omega
  · by_cases h0 : i.natAbs = 0
    · rw [h0]; have : Nat.log2 0 = 0 := by decide
      omega
    · have : i.natAbs < 2 ^ 10 := Nat.lt_trans h (by decide)
      have := (Nat.log2_lt h0).mpr this
      omega
theorem Tg.datM (h : Tg H v d) (n : Nat) : DatM (n + 1) H v d := by
  rcases h with h | ⟨t, xs, ds, rfl, rfl, ht, hl, h0, h2, hi⟩
  · exact DatM.leaf h.1
  · exact .inr (.inr ⟨t, xs, ds, rfl, rfl, ht, hl, fun i u e a b => DatM.leaf (hi i u e a b).1⟩)
theorem wall_le : ∀ {ds : List PyData} {c : Nat}, (∀ d ∈ ds, d.weight ≤ c) → PyData.weightAll ds ≤ (c + 1) * ds.length
  | [], c, _ => by rw [PyData.weightAll]; omega
  | d :: r, c, h => by
    have h1 := wall_le (ds := r) fun x hx => h x (List.mem_cons_of_mem _ hx)
    have h2 := h d (List.mem_cons_self ..)
    rw [PyData.weightAll, List.length_cons, Nat.mul_add]; omega
theorem Tg.weight (h : Tg H v d) : d.weight ≤ 250 := by
  rcases h with h | ⟨t, xs, ds, rfl, rfl, ht, hl, h0, h2, hi⟩
  · have := h.2.2; omega
  · rw [PyData.weight]
    have := wall_le (ds := ds) (c := 100) fun d hd => by
      obtain ⟨i, hi', rfl⟩ := List.getElem_of_mem hd
      exact (hi i _ _ (List.getElem?_eq_getElem (by omega)) (List.getElem?_eq_getElem hi')).2.2
    have h3 : 101 * ds.length ≤ 101 * 2 := Nat.mul_le_mul_left _ (by omega)
    omega
theorem Tg.copy (h : Tg H v d) (e : ThE H v y) : Tg H y d := by
  rcases e with ⟨hs, rfl⟩ | ⟨t, u, xs, rfl, rfl, ht, hu, _⟩
  · exact h
  · rcases h with h | ⟨t', xs', ds, e1, rfl, ht', r⟩
    · rcases h.sc with z | ⟨_, z⟩ | ⟨_, z⟩ | ⟨_, z⟩ <;> cases z
    · cases e1
      rw [ht] at ht'
      cases ht'
      exact .inr ⟨u, xs, ds, rfl, rfl, hu, r⟩
theorem Tg.strA (h : Tg H v d) : ∃ s, StrA H v s ∧ ∀ y, ThE H v y → StrA H y s := by
  rcases h with h | ⟨t, xs, ds, rfl, rfl, ht, hl, h0, h2, hi⟩
  · have e : ∃ s, StrA H v s := by
      rcases h.1 with ⟨e, _⟩ | ⟨b, e, _⟩ | ⟨i, e, _, hi⟩ | ⟨y, e, _⟩
      · rw [e]; exact ⟨_, .non⟩
      · rw [e]; exact ⟨_, .bl b⟩
      · rw [e]; exact ⟨_, .int i hi⟩
      · rw [e]; exact ⟨_, .str y⟩
    obtain ⟨s, hs⟩ := e
    refine ⟨s, hs, fun y hy => ?_⟩
    rcases hy with ⟨_, rfl⟩ | ⟨t, u, xs, e1, _⟩
    · exact hs
    · rw [e1] at h
      rcases h.sc with z | ⟨_, z⟩ | ⟨_, z⟩ | ⟨_, z⟩ <;> cases z
  · have h' : Tg H (.ref t) (.tuple ds) := .inr ⟨t, xs, ds, rfl, rfl, ht, hl, h0, h2, hi⟩
    have hw : (PyData.tuple ds).weight ≤ 2 ^ 19 := Nat.le_trans h'.weight (by decide)
    refine ⟨(PyData.tuple ds).shown, .dat (h'.datM 2) hw, fun y hy => ?_⟩
    have g := h'.copy hy
    rcases hy with ⟨hs, rfl⟩ | ⟨t1, u, xs1, e1, rfl, _⟩
    · rcases hs with z | ⟨_, z⟩ | ⟨_, z⟩ | ⟨_, z⟩ <;> cases z
    · exact .dat (g.datM 2) hw
noncomputable def Tgs (H : Hp) (vs : List V) (ds : List PyData) : Prop := vs.length = ds.length ∧ ∀ (i : Nat) v d, vs[i]? = some v → ds[i]? = some d → Tg H v d
variable {vs us rs : List V} {ds : List PyData}
theorem Tgs.weight (h : Tgs H vs ds) : PyData.weightAll ds ≤ 251 * vs.length := by
  rw [h.1]
  refine wall_le fun d hd => ?_
  obtain ⟨i, hi, rfl⟩ := List.getElem_of_mem hd
  have hv : i < vs.length := by rw [h.1]; exact hi
  exact (h.2 i _ _ (List.getElem?_eq_getElem hv) (List.getElem?_eq_getElem hi)).weight
theorem Tgs.lstM (h : Tgs H vs ds) {a : Addr} (ha : H a = some (.lst vs)) (n : Nat) : DatM (n + 2) H (.ref a) (.list ds) := .inr (.inl ⟨a, vs, ds, rfl, rfl, ha, h.1, fun i u e x y => (h.2 i u e x y).datM n⟩)
theorem Tgs.tupM (h : Tgs H vs ds) {a : Addr} (ha : H a = some (.tup vs)) (n : Nat) : DatM (n + 2) H (.ref a) (.tuple ds) := .inr (.inr ⟨a, vs, ds, rfl, rfl, ha, h.1, fun i u e x y => (h.2 i u e x y).datM n⟩)
theorem Tgs.strA (h : Tgs H vs ds) (hn : vs.length ≤ 200) {a : Addr} (ha : H a = some (.lst vs)) : StrA H (.ref a) (PyData.list ds).shown := by
  refine .dat (h.lstM ha 1) ?_
  rw [PyData.weight]
  have := h.weight
  have h2 : 251 * vs.length ≤ 251 * 200 := Nat.mul_le_mul_left _ hn
  have : (60000 : Nat) ≤ 2 ^ 19 := by decide
  omega
theorem ThE.non : ThE H .non .non := .inl ⟨.inl rfl, rfl⟩
end
section
variable (ta : Addr) (hv v : V) (pa : Addr) (n m : Int)
end
section
variable {C : Addr} {H H1 : Hp} {w ta pa : Addr} {ps : List Addr} {us : List V} {hv : V} {ms : List RMv} {d : Nat}
end
end L2

namespace L2
open PySem PySem.Spec PyProof.Rows
section
variable {X : Cx} {e : Expr} {es : List Expr} {t : TA} {pos p : Pos} {x : Str} {C f : Addr}
end
end L2

namespace HT
open PySem PySem.Spec PyProof.Rows PySem.W L2
section
variable {prog : Program} {w : World} {A : Around} {E : Value → Shared → Prop} {s : Shared}
end
end HT
namespace L2
open PySem PySem.Spec PyProof.Rows
section
variable {X : Cx}
end
noncomputable def stand (s : List V × V) : List V := (s.1 ++ [s.2]).filter (fun v => decide (v ≠ V.non))
end L2

namespace L2
open PySem PySem.Spec PyProof.Rows
noncomputable def turn (r : List Nat) : List Nat := r.take 1 ++ (r.drop 1).reverse
section
variable {H H1 : Hp} {v y z : V} {d e : Option (List Nat × Nat)}
variable {vs us rs : List V}
end
section
variable {C : Addr} {H H1 : Hp} {w ta pa : Addr} {ps : List Addr} {us : List V} {hv : V} {ms : List RMv} {d : Nat}
end
end L2

set_option maxHeartbeats 0
namespace Fs
open PySem PySem.Spec PyProof.Rows L2
local macro_rules
  | `(tactic| walk_at "fs_rd") => do
    let q ← ("in_seq in_xseq in_xof in_xif in_xdrop in_xret in_xcall in_xraise in_try in_fstr in_asg in_gsub in_ret in_drop in_next in_if in_tif in_test in_B in_not in_or in_and in_andV in_orV in_notV in_C in_op in_un in_I0 in_pow18 in_pow6 in_pow15 in_pow53 in_abs in_intB in_min in_max in_isiII in_isiIB in_U in_eqI in_neI in_for in_rng1 in_ilist in_itup in_cb in_cons in_nil in_call in_lst in_tup in_bl in_itrue in_nt in_nf in_comp in_par2 in_rev in_compF in_bm0 in_augS in_rev2 in_isiIS in_isiBB in_isiSB in_isiSS in_eqB in_neB in_isNo in_notNo in_lrng2 in_lrng1 in_eqS in_tru in_chain in_sl in_part in_nopart in_enumL in_enumT in_sortDn in_fld in_sfld in_sfldaug in_meth in_make in_zip in_zipT in_rngD in_gslA in_rngS in_rngO in_par3 in_rng2 in_cont in_bm in_ifalse".splitOn " ").foldrM (fun n (a : Lean.TSyntax `tactic) => `(tactic| first | (with_reducible refine $(Lean.mkIdent (Lean.Name.mkSimple n)) ?_) | $a:tactic)) (← `(tactic| fail))
    `(tactic| (repeat (first | $q:tactic | (with_reducible refine in_xset ?_; dsimp only [List.set]) | (with_reducible refine in_gname ?_; dsimp only [List.set]) | ((with_reducible show tVar _ _ _ _); refine ⟨_, rfl, ?_⟩) | (with_reducible refine in_I ?c ?_; (case c => first | (show (0 : Int) < _; omega) | exact cdivL (by omega) (by omega) | exact cdiv (by omega) (by omega) | exact cdivP (by omega) (by omega) (by omega) | exact cmulL (by omega) (by omega) | exact cmulR (by omega) (by omega) | exact cpow (by decide) (by decide) (by decide))) | (with_reducible refine in_ix' (by first | assumption | exact upd_same) ?_; refine ⟨_, rfl, ?_⟩) | (with_reducible refine in_ixT' (by first | assumption | exact upd_same) ?_; refine ⟨_, rfl, ?_⟩) | (with_reducible refine in_set' (by first | assumption | exact upd_same) ?_; refine ⟨_, rfl, ?_⟩; dsimp only [Int.reduceToNat, List.set]) | (with_reducible refine in_pair ?_; dsimp only [List.set]) | ((with_reducible show tAug _ _ _ _ _ _); refine ⟨_, rfl, ?_⟩))))
def top (i : Nat) : Stmt := PySem.Challenge.pw_figuresort_k31_steps_of_heap_walks.main.body.getD i (.Pass ⟨0, 0, 0, 0⟩)
noncomputable abbrev s_counts : Stmt := top 1
noncomputable abbrev s_begins : Stmt := top 2
noncomputable abbrev s_own_copy : Stmt := top 4
noncomputable abbrev s_HeapWalk___init__ : Stmt := inClass (top 6) 0
noncomputable abbrev s_HeapWalk_mark_of : Stmt := inClass (top 6) 1
noncomputable abbrev s_HeapWalk_stands : Stmt := inClass (top 6) 2
noncomputable abbrev s_HeapWalk_step : Stmt := inClass (top 6) 3
noncomputable abbrev s_HeapWalk_take_first : Stmt := inClass (top 6) 4
noncomputable abbrev s_HeapWalk_put_held : Stmt := inClass (top 6) 5
noncomputable abbrev s_HeapWalk_row : Stmt := inClass (top 6) 6
noncomputable abbrev s_HeapWalk_hand : Stmt := inClass (top 6) 7
noncomputable abbrev s_HeapWalk_puts : Stmt := inClass (top 6) 8
noncomputable abbrev s_tape : Stmt := top 8
noncomputable abbrev s_draw : Stmt := top 9
noncomputable abbrev s_many : Stmt := top 10
noncomputable abbrev s_pairs : Stmt := top 11
noncomputable abbrev s_base : Stmt := top 12
noncomputable abbrev s_part_begins : Stmt := top 13
noncomputable abbrev s_mark : Stmt := top 14
noncomputable abbrev s_next_move : Stmt := top 15
noncomputable abbrev s_state : Stmt := top 16
noncomputable abbrev s_told : Stmt := top 17
noncomputable abbrev s_spoil : Stmt := top 18
noncomputable abbrev s_right : Stmt := top 19
noncomputable abbrev s_law : Stmt := top 20
set_option genSizeOfSpec false in
set_option genInjectivity false in
structure Ad where
  f_counts : Addr
  d_counts : FuncData
  f_begins : Addr
  d_begins : FuncData
  f_own_copy : Addr
  d_own_copy : FuncData
  f_HeapWalk___init__ : Addr
  d_HeapWalk___init__ : FuncData
  f_HeapWalk_mark_of : Addr
  d_HeapWalk_mark_of : FuncData
  f_HeapWalk_stands : Addr
  d_HeapWalk_stands : FuncData
  f_HeapWalk_step : Addr
  d_HeapWalk_step : FuncData
  f_HeapWalk_take_first : Addr
  d_HeapWalk_take_first : FuncData
  f_HeapWalk_put_held : Addr
  d_HeapWalk_put_held : FuncData
  f_HeapWalk_row : Addr
  d_HeapWalk_row : FuncData
  f_HeapWalk_hand : Addr
  d_HeapWalk_hand : FuncData
  f_HeapWalk_puts : Addr
  d_HeapWalk_puts : FuncData
  f_tape : Addr
  d_tape : FuncData
  f_draw : Addr
  d_draw : FuncData
  f_many : Addr
  d_many : FuncData
  f_pairs : Addr
  d_pairs : FuncData
  f_base : Addr
  d_base : FuncData
  f_part_begins : Addr
  d_part_begins : FuncData
  f_mark : Addr
  d_mark : FuncData
  f_next_move : Addr
  d_next_move : FuncData
  f_state : Addr
  d_state : FuncData
  f_told : Addr
  d_told : FuncData
  f_spoil : Addr
  d_spoil : FuncData
  f_right : Addr
  d_right : FuncData
  f_law : Addr
  d_law : FuncData
  c_HeapWalk : Addr
structure Tx (K : PySem.W.Frag) (mg : Str → Option Value) (t : Ad) : Prop where
  m_counts : mg "counts" = some (.ref t.f_counts)
  F_counts : Fun K "counts" "counts" s_counts t.f_counts t.d_counts
  b_counts : Binds K t.d_counts ["row", "base"] []
  m_begins : mg "begins" = some (.ref t.f_begins)
  F_begins : Fun K "begins" "begins" s_begins t.f_begins t.d_begins
  b_begins : Binds K t.d_begins ["counts"] []
  m_own_copy : mg "own_copy" = some (.ref t.f_own_copy)
  F_own_copy : Fun K "own_copy" "own_copy" s_own_copy t.f_own_copy t.d_own_copy
  b_own_copy : Binds K t.d_own_copy ["thing"] []
  M_HeapWalk___init__ : Mk K t.c_HeapWalk t.f_HeapWalk___init__
  F_HeapWalk___init__ : Fun K "__init__" "HeapWalk.__init__" s_HeapWalk___init__ t.f_HeapWalk___init__ t.d_HeapWalk___init__
  b_HeapWalk___init__ : Binds K t.d_HeapWalk___init__ ["self", "row", "base"] []
  M_HeapWalk_mark_of : Meth K t.c_HeapWalk "mark_of" t.f_HeapWalk_mark_of
  F_HeapWalk_mark_of : Fun K "mark_of" "HeapWalk.mark_of" s_HeapWalk_mark_of t.f_HeapWalk_mark_of t.d_HeapWalk_mark_of
  b_HeapWalk_mark_of : Binds K t.d_HeapWalk_mark_of ["self", "figure"] []
  M_HeapWalk_stands : Meth K t.c_HeapWalk "stands" t.f_HeapWalk_stands
  F_HeapWalk_stands : Fun K "stands" "HeapWalk.stands" s_HeapWalk_stands t.f_HeapWalk_stands t.d_HeapWalk_stands
  b_HeapWalk_stands : Binds K t.d_HeapWalk_stands ["self", "figure", "place"] []
  M_HeapWalk_step : Meth K t.c_HeapWalk "step" t.f_HeapWalk_step
  F_HeapWalk_step : Fun K "step" "HeapWalk.step" s_HeapWalk_step t.f_HeapWalk_step t.d_HeapWalk_step
  b_HeapWalk_step : Binds K t.d_HeapWalk_step ["self"] []
  M_HeapWalk_take_first : Meth K t.c_HeapWalk "take_first" t.f_HeapWalk_take_first
  F_HeapWalk_take_first : Fun K "take_first" "HeapWalk.take_first" s_HeapWalk_take_first t.f_HeapWalk_take_first t.d_HeapWalk_take_first
  b_HeapWalk_take_first : Binds K t.d_HeapWalk_take_first ["self"] []
  M_HeapWalk_put_held : Meth K t.c_HeapWalk "put_held" t.f_HeapWalk_put_held
  F_HeapWalk_put_held : Fun K "put_held" "HeapWalk.put_held" s_HeapWalk_put_held t.f_HeapWalk_put_held t.d_HeapWalk_put_held
  b_HeapWalk_put_held : Binds K t.d_HeapWalk_put_held ["self"] []
  M_HeapWalk_row : Meth K t.c_HeapWalk "row" t.f_HeapWalk_row
  F_HeapWalk_row : Fun K "row" "HeapWalk.row" s_HeapWalk_row t.f_HeapWalk_row t.d_HeapWalk_row
  b_HeapWalk_row : Binds K t.d_HeapWalk_row ["self"] []
  M_HeapWalk_hand : Meth K t.c_HeapWalk "hand" t.f_HeapWalk_hand
  F_HeapWalk_hand : Fun K "hand" "HeapWalk.hand" s_HeapWalk_hand t.f_HeapWalk_hand t.d_HeapWalk_hand
  b_HeapWalk_hand : Binds K t.d_HeapWalk_hand ["self"] []
  M_HeapWalk_puts : Meth K t.c_HeapWalk "puts" t.f_HeapWalk_puts
  F_HeapWalk_puts : Fun K "puts" "HeapWalk.puts" s_HeapWalk_puts t.f_HeapWalk_puts t.d_HeapWalk_puts
  b_HeapWalk_puts : Binds K t.d_HeapWalk_puts ["self"] []
  m_tape : mg "_law_tape" = some (.ref t.f_tape)
  F_tape : Fun K "_law_tape" "_law_tape" s_tape t.f_tape t.d_tape
  b_tape : Binds K t.d_tape ["_law_script", "_law_k"] []
  m_draw : mg "_law_draw" = some (.ref t.f_draw)
  F_draw : Fun K "_law_draw" "_law_draw" s_draw t.f_draw t.d_draw
  b_draw : Binds K t.d_draw ["_law_tape_here", "_law_many_here"] []
  m_many : mg "_law_many" = some (.ref t.f_many)
  F_many : Fun K "_law_many" "_law_many" s_many t.f_many t.d_many
  b_many : Binds K t.d_many ["_law_tape_here", "_law_k"] []
  m_pairs : mg "_law_pairs" = some (.ref t.f_pairs)
  F_pairs : Fun K "_law_pairs" "_law_pairs" s_pairs t.f_pairs t.d_pairs
  b_pairs : Binds K t.d_pairs ["_law_tape_here", "_law_many_here", "_law_base_here"] []
  m_base : mg "_law_base" = some (.ref t.f_base)
  F_base : Fun K "_law_base" "_law_base" s_base t.f_base t.d_base
  b_base : Binds K t.d_base ["_law_tape_here"] []
  m_part_begins : mg "_law_part_begins" = some (.ref t.f_part_begins)
  F_part_begins : Fun K "_law_part_begins" "_law_part_begins" s_part_begins t.f_part_begins t.d_part_begins
  b_part_begins : Binds K t.d_part_begins ["_law_pairs_here", "_law_base_here"] []
  m_mark : mg "_law_mark" = some (.ref t.f_mark)
  F_mark : Fun K "_law_mark" "_law_mark" s_mark t.f_mark t.d_mark
  b_mark : Binds K t.d_mark ["_law_state_here", "_law_figure"] []
  m_next_move : mg "_law_next_move" = some (.ref t.f_next_move)
  F_next_move : Fun K "_law_next_move" "_law_next_move" s_next_move t.f_next_move t.d_next_move
  b_next_move : Binds K t.d_next_move ["_law_state_here"] []
  m_state : mg "_law_state" = some (.ref t.f_state)
  F_state : Fun K "_law_state" "_law_state" s_state t.f_state t.d_state
  b_state : Binds K t.d_state ["_law_pairs_here", "_law_base_here"] []
  m_told : mg "_law_told" = some (.ref t.f_told)
  F_told : Fun K "_law_told" "_law_told" s_told t.f_told t.d_told
  b_told : Binds K t.d_told ["_law_walk", "_law_state_here"] []
  m_spoil : mg "_law_spoil" = some (.ref t.f_spoil)
  F_spoil : Fun K "_law_spoil" "_law_spoil" s_spoil t.f_spoil t.d_spoil
  b_spoil : Binds K t.d_spoil ["_law_handed"] []
  m_right : mg "_law_right" = some (.ref t.f_right)
  F_right : Fun K "_law_right" "_law_right" s_right t.f_right t.d_right
  b_right : Binds K t.d_right ["_law_walk", "_law_pairs_here", "_law_base_here"] []
  m_law : mg "law" = some (.ref t.f_law)
  F_law : Fun K "law" "law" s_law t.f_law t.d_law
  b_law : Binds K t.d_law ["_law_script"] []
  z_abs : mg "abs" = none
  z_enumerate : mg "enumerate" = none
  z_int : mg "int" = none
  z_isinstance : mg "isinstance" = none
  z_len : mg "len" = none
  z_list : mg "list" = none
  z_min : mg "min" = none
  z_range : mg "range" = none
  z_sorted : mg "sorted" = none
  z_str : mg "str" = none
  z_tuple : mg "tuple" = none
  z_zip : mg "zip" = none
  mc_HeapWalk : mg "HeapWalk" = some (.ref t.c_HeapWalk)
  cl_HeapWalk : Cls K t.c_HeapWalk
  n_HeapWalk_pairs : NoAttr K t.c_HeapWalk "pairs"
  n_HeapWalk_held : NoAttr K t.c_HeapWalk "held"
  n_HeapWalk_marks : NoAttr K t.c_HeapWalk "marks"
  n_HeapWalk_ends : NoAttr K t.c_HeapWalk "ends"
  n_HeapWalk_many_puts : NoAttr K t.c_HeapWalk "many_puts"
theorem bt_abs : bootBuiltins "abs" = some (.builtin "abs") := by decide +kernel
theorem bt_enumerate : bootBuiltins "enumerate" = some (.type "enumerate") := by decide +kernel
theorem bt_int : bootBuiltins "int" = some (.type "int") := by decide +kernel
theorem bt_isinstance : bootBuiltins "isinstance" = some (.builtin "isinstance") := by decide +kernel
theorem bt_len : bootBuiltins "len" = some (.builtin "len") := by decide +kernel
theorem bt_list : bootBuiltins "list" = some (.type "list") := by decide +kernel
theorem bt_min : bootBuiltins "min" = some (.builtin "min") := by decide +kernel
theorem bt_range : bootBuiltins "range" = some (.type "range") := by decide +kernel
theorem bt_sorted : bootBuiltins "sorted" = some (.builtin "sorted") := by decide +kernel
theorem bt_str : bootBuiltins "str" = some (.type "str") := by decide +kernel
theorem bt_tuple : bootBuiltins "tuple" = some (.type "tuple") := by decide +kernel
theorem bt_zip : bootBuiltins "zip" = some (.type "zip") := by decide +kernel
theorem sc_counts : FnScope ["row", "base", "often", "figure"] ["row", "base"] (defScope s_counts) := ⟨rfl, rfl, rfl, by decide +kernel, rfl, by decide +kernel, by decide +kernel⟩
theorem sc_begins : FnScope ["counts", "lesser", "so_far", "many"] ["counts"] (defScope s_begins) := ⟨rfl, rfl, rfl, by decide +kernel, rfl, by decide +kernel, by decide +kernel⟩
theorem sc_own_copy : FnScope ["thing", "parts", "firsts", "part", "at"] ["thing"] (defScope s_own_copy) := ⟨rfl, rfl, rfl, by decide +kernel, rfl, by decide +kernel, by decide +kernel⟩
theorem sc_HeapWalk___init__ : FnScope ["self", "row", "base", "often"] ["self", "row", "base"] (defScope s_HeapWalk___init__) := ⟨rfl, rfl, rfl, by decide +kernel, rfl, by decide +kernel, by decide +kernel⟩
theorem sc_HeapWalk_mark_of : FnScope ["self", "figure", "place"] ["self", "figure"] (defScope s_HeapWalk_mark_of) := ⟨rfl, rfl, rfl, by decide +kernel, rfl, by decide +kernel, by decide +kernel⟩
theorem sc_HeapWalk_stands : FnScope ["self", "figure", "place", "pair"] ["self", "figure", "place"] (defScope s_HeapWalk_stands) := ⟨rfl, rfl, rfl, by decide +kernel, rfl, by decide +kernel, by decide +kernel⟩
theorem sc_HeapWalk_step : FnScope ["self"] ["self"] (defScope s_HeapWalk_step) := ⟨rfl, rfl, rfl, by decide +kernel, rfl, by decide +kernel, by decide +kernel⟩
theorem sc_HeapWalk_take_first : FnScope ["self", "figure", "place"] ["self"] (defScope s_HeapWalk_take_first) := ⟨rfl, rfl, rfl, by decide +kernel, rfl, by decide +kernel, by decide +kernel⟩
theorem sc_HeapWalk_put_held : FnScope ["self", "figure", "place", "there"] ["self"] (defScope s_HeapWalk_put_held) := ⟨rfl, rfl, rfl, by decide +kernel, rfl, by decide +kernel, by decide +kernel⟩
theorem sc_HeapWalk_row : FnScope ["self"] ["self"] (defScope s_HeapWalk_row) := ⟨rfl, rfl, rfl, by decide +kernel, rfl, by decide +kernel, by decide +kernel⟩
theorem sc_HeapWalk_hand : FnScope ["self"] ["self"] (defScope s_HeapWalk_hand) := ⟨rfl, rfl, rfl, by decide +kernel, rfl, by decide +kernel, by decide +kernel⟩
theorem sc_HeapWalk_puts : FnScope ["self"] ["self"] (defScope s_HeapWalk_puts) := ⟨rfl, rfl, rfl, by decide +kernel, rfl, by decide +kernel, by decide +kernel⟩
theorem sc_tape : FnScope ["_law_script", "_law_k", "_law_cell", "_law_digits"] ["_law_script", "_law_k"] (defScope s_tape) := ⟨rfl, rfl, rfl, by decide +kernel, rfl, by decide +kernel, by decide +kernel⟩
theorem sc_draw : FnScope ["_law_tape_here", "_law_many_here", "_law_found", "_law_once"] ["_law_tape_here", "_law_many_here"] (defScope s_draw) := ⟨rfl, rfl, rfl, by decide +kernel, rfl, by decide +kernel, by decide +kernel⟩
theorem sc_many : FnScope ["_law_tape_here", "_law_k"] ["_law_tape_here", "_law_k"] (defScope s_many) := ⟨rfl, rfl, rfl, by decide +kernel, rfl, by decide +kernel, by decide +kernel⟩
theorem sc_pairs : FnScope ["_law_tape_here", "_law_many_here", "_law_base_here", "_law_top", "_law_some", "_law_way", "_law_at"] ["_law_tape_here", "_law_many_here", "_law_base_here"] (defScope s_pairs) := ⟨rfl, rfl, rfl, by decide +kernel, rfl, by decide +kernel, by decide +kernel⟩
theorem sc_base : FnScope ["_law_tape_here"] ["_law_tape_here"] (defScope s_base) := ⟨rfl, rfl, rfl, by decide +kernel, rfl, by decide +kernel, by decide +kernel⟩
theorem sc_part_begins : FnScope ["_law_pairs_here", "_law_base_here", "_law_found", "_law_begin", "_law_figure", "_law_many_here"] ["_law_pairs_here", "_law_base_here"] (defScope s_part_begins) := ⟨rfl, rfl, rfl, by decide +kernel, rfl, by decide +kernel, by decide +kernel⟩
theorem sc_mark : FnScope ["_law_state_here", "_law_figure", "_law_places", "_law_held", "_law_marks", "_law_parts", "_law_laid", "_law_at"] ["_law_state_here", "_law_figure"] (defScope s_mark) := ⟨rfl, rfl, rfl, by decide +kernel, rfl, by decide +kernel, by decide +kernel⟩
theorem sc_next_move : FnScope ["_law_state_here", "_law_places", "_law_held", "_law_marks", "_law_parts", "_law_laid", "_law_figure", "_law_at", "_law_there"] ["_law_state_here"] (defScope s_next_move) := ⟨rfl, rfl, rfl, by decide +kernel, rfl, by decide +kernel, by decide +kernel⟩
theorem sc_state : FnScope ["_law_pairs_here", "_law_base_here", "_law_parts"] ["_law_pairs_here", "_law_base_here"] (defScope s_state) := ⟨rfl, rfl, rfl, by decide +kernel, rfl, by decide +kernel, by decide +kernel⟩
theorem sc_told : FnScope ["_law_walk", "_law_state_here", "_law_found"] ["_law_walk", "_law_state_here"] (defScope s_told) := ⟨rfl, rfl, rfl, by decide +kernel, rfl, by decide +kernel, by decide +kernel⟩
theorem sc_spoil : FnScope ["_law_handed", "_law_pair"] ["_law_handed"] (defScope s_spoil) := ⟨rfl, rfl, rfl, by decide +kernel, rfl, by decide +kernel, by decide +kernel⟩
theorem sc_right : FnScope ["_law_walk", "_law_pairs_here", "_law_base_here", "_law_state_here", "_law_turn", "_law_due"] ["_law_walk", "_law_pairs_here", "_law_base_here"] (defScope s_right) := ⟨rfl, rfl, rfl, by decide +kernel, rfl, by decide +kernel, by decide +kernel⟩
theorem sc_law : FnScope ["_law_script", "_law_k", "_law_tape_here", "_law_base_here", "_law_pairs_here", "_law_handed", "_law_kept", "_law_walk"] ["_law_script"] (defScope s_law) := ⟨rfl, rfl, rfl, by decide +kernel, rfl, by decide +kernel, by decide +kernel⟩
section
variable {P : Program} {w : World} {K : PySem.W.Frag} {mg : Str → Option Value} {base : Heap} {t : Ad}
theorem ok_draw (T : Tx K mg t) : FnOk P w K mg base CX0 1 t.f_draw t.d_draw ["_law_tape_here", "_law_many_here"] spDraw2 := by
  refine T.F_draw.okQ sc_draw (fun vs H Q E h => ?_) (fun cdv A outer s H vs Q E hr h => ?_)
  · obtain ⟨p, m, rfl, _⟩ := h
    rfl
  · obtain ⟨p, m, rfl, ⟨a, b, hp, ha, hb⟩, hm, hm2, k⟩ := h
    have fin : ∀ (x : Int) H', St2 p H H' → Q (.int (x % m)) H' := fun x H' S => by
      have := k (x % m).toNat H' (by rw [Int.toNat_of_nonneg (Int.emod_nonneg _ (by omega))]; exact Int.emod_lt_of_pos _ hm) S
      rw [Int.toNat_of_nonneg (Int.emod_nonneg _ (by omega))] at this
      exact this
    refine ⟨_, (qb_cons (qs_if (qt_cmpR q_gt (qe_ix (q_ixL (K := K)) (qv 0) qe_int) qe_int (nomark _)) (qb_cons (qs_set (i := 2) sc_draw.nd rfl (Or.inl rfl) (qe_op q_mod (qe_ix (q_ixL (K := K)) (qv 0) qe_int) (qv 1)))
      (qb_cons (qs_sub (qe_op q_fdivL (qe_ix (q_ixL (K := K)) (qv 0) qe_int) (qv 1)) (qv 0) qe_int)
      (qb_one (qs_ret (qv 2))))) qb_nil)
      (qb_cons (qs_sub (qe_op q_mod (qe_op q_add (qe_op q_mul (qe_ix (q_ixL (K := K)) (qv 0) qe_int) qe_int) qe_int) qe_int) (qv 0) qe_int)
      (qb_cons (qs_set (i := 3) sc_draw.nd rfl (Or.inl rfl) (qe_op q_mod (qe_op q_mul (qe_ix (q_ixL (K := K)) (qv 0) qe_int) (qe_op q_add (qe_op q_mod (qe_ix (q_ixL (K := K)) (qv 0) qe_int) qe_int) qe_int)) qe_int))
      (qb_one (qs_ret (qe_op q_mod (qe_op q_mod (qe_op q_mul (qv 3) (qe_op q_add (qe_op q_mod (qv 3) qe_int) qe_int)) qe_int) (qv 1))))))), ?_⟩
    rw [show L2.start ["_law_tape_here", "_law_many_here", "_law_found", "_law_once"] [V.ref p, V.int m] = [some (V.ref p), some (V.int m), none, none] from rfl]
    walk_at "fs_rd"
    refine in_split (fun h0 => ?_) (fun h0 => ?_)
    · walk_at "fs_rd"
      exact fin _ _ (Tp2.mk (Int.ediv_nonneg ha (by omega)) hb)
    · walk_at "fs_rd"
      exact fin _ _ (Tp2.mk ha (Int.emod_nonneg _ (by omega)))
theorem ok_tape (T : Tx K mg t) : FnOk P w K mg base CX0 1 t.f_tape t.d_tape ["_law_script", "_law_k"] (spTape2 K) := by
  refine T.F_tape.okQ sc_tape (fun vs H Q E h => ?_) (fun cdv A outer s H vs Q E hr h => ?_)
  · obtain ⟨a, ns, k, rfl, _⟩ := h
    rfl
  · obtain ⟨a, ns, k, rfl, hS, hk, q⟩ := h
    refine ⟨_, (qb_cons (qs_set (i := 2) sc_tape.nd rfl (Or.inl rfl) qe_int)
      (qb_cons (qs_if (qt_cmpR q_lt (qv 1) (qe_callB (qc_len (K := K)) (by rfl) T.z_len bt_len (qa_c (qv 0) qa_nil)) (nomark _)) (qb_one (qs_set (i := 2) sc_tape.nd rfl (Or.inl rfl) (qe_ix (q_ixL (K := K)) (qv 0) (qv 1)))) qb_nil)
      (qb_cons (qs_set (i := 3) sc_tape.nd rfl (Or.inl rfl) (qe_op q_mul (qe_callB qc_abs (by rfl) T.z_abs bt_abs (qa_c (qv 2) qa_nil)) (qe_callTy qc_int (by rfl) T.z_int bt_int (qa_c (qe_cmpR q_ge (qe_callB qc_abs (by rfl) T.z_abs bt_abs (qa_c (qv 2) qa_nil)) (qe_op q_pow qe_int qe_int) (nomark _)) qa_nil))))
      (qb_one (qs_ret (qe_lst (qa_c (qv 3) (qa_c (qe_op q_mod (qe_op q_mul (qe_op q_mod (qe_op q_add (qe_op q_add (qv 2) (qe_op q_mul qe_int (qv 1))) qe_int) qe_int) qe_int) qe_int) qa_nil)))))))), ?_⟩
    rw [show L2.start ["_law_script", "_law_k", "_law_cell", "_law_digits"] [V.ref a, V.int k] = [some (V.ref a), some (V.int k), none, none] from rfl]
    walk_at "fs_rd"
    refine in_lenL hS ?_
    walk_at "fs_rd"
    refine in_split (fun h0 => ?_) (fun h0 => ?_)
    · walk_at "fs_rd"
      have hlt : k.toNat < ns.length := by rw [List.length_map] at h0; omega
      have hget : atI (ns.map V.int) k = some (V.int ns[k.toNat]) := by
        have e : k = (k.toNat : Int) := by omega
        have := atI_nat (xs := ns.map V.int) (j := k.toNat) (v := V.int ns[k.toNat]) (by simp [hlt])
        rw [← e] at this; exact this
      refine in_ix hS hget ?_
      generalize ns[k.toNat] = cell
      walk_at "fs_rd"
      exact ⟨three (by simp), fun p hp => q p _ hp ((Same.refl H).new hp) ⟨_, _, upd_same, Int.mul_nonneg (by split <;> omega) (by (repeat' split) <;> omega), Int.emod_nonneg _ (by omega)⟩⟩
    · walk_at "fs_rd"
      exact ⟨three (by simp), fun p hp => q p _ hp ((Same.refl H).new hp) ⟨_, _, upd_same, Int.mul_nonneg (by split <;> omega) (by (repeat' split) <;> omega), Int.emod_nonneg _ (by omega)⟩⟩

noncomputable def spCounts : Sp := fun vs H Q _ => ∃ (a : Addr) (os : List Nat) (b : Nat), vs = [.ref a, .int b] ∧ (H a = some (.lst (NV os)) ∨ H a = some (.tup (NV os))) ∧ (∀ o ∈ os, o < b) ∧ os.length ≤ 200 ∧ b ≤ 64 ∧ ∀ (l : Addr) H', H l = none → Same H H' → H' l = some (.lst (NV (cnt os b))) → Q (.ref l) H'
theorem ok_counts (T : Tx K mg t) : FnOk P w K mg base CX0 1 t.f_counts t.d_counts ["row", "base"] spCounts := by
  refine T.F_counts.okQ sc_counts (fun vs H Q E h => ?_) (fun cdv A outer s H vs Q E hr h => ?_)
  · obtain ⟨a, os, b, rfl, _⟩ := h
    rfl
  · obtain ⟨a, os, b, rfl, ta, hob, hol, hb, k⟩ := h
    rcases ta with ta | ta
    · refine ⟨_, (qb_cons (qs_set (i := 2) sc_counts.nd rfl (Or.inl rfl) (qe_op q_rep (qe_lst (qa_c qe_int qa_nil)) (qv 1)))
      (qb_cons (qs_for PassesOwn.never rfl (qi_list (K := K) (qv 0)) (qg_name (i := 3) sc_counts.nd rfl (Or.inl rfl)) (qb_one (qs_augSL (K := K) (qv 2) (qv 3) qe_int)))
      (qb_one (qs_ret (qv 2))))), ?_⟩
      rw [show L2.start ["row", "base", "often", "figure"] [V.ref a, V.int b] = [some (V.ref a), some (V.int b), none, none] from rfl]
      walk_at "fs_rd"
      refine ⟨three (by simp), fun q0 hq0 => ?_⟩
      have s2 := (Same.refl H).new (o := .lst [V.int 0]) hq0
      have t0 : (upd H q0 (.lst [V.int 0])) q0 = some (.lst [V.int 0]) := upd_same
      generalize upd H q0 (.lst [V.int 0]) = H2 at s2 t0
      walk_at "fs_rd"
      refine ⟨q0, _, _, rfl, rfl, t0, by omega, by omega, three (by simp; omega), fun m hm => ?_⟩
      have efl : (List.replicate ((b : Nat) : Int).toNat [V.int 0]).flatten = NV (cnt [] b) := by
        show (List.replicate b [V.int 0]).flatten = _
        rw [List.flatten_replicate_singleton, NV, L2.cnt, List.map_map]
        apply List.ext_getElem (by simp)
        intro i h1 h2
        simp
      rw [efl]
      have hmn : H m = none := s2.free hm
      have s3 := s2.new (o := .lst (NV (cnt [] b))) hm
      have tm : (upd H2 m (.lst (NV (cnt [] b)))) m = some (.lst (NV (cnt [] b))) := upd_same
      generalize upd H2 m (.lst (NV (cnt [] b))) = H3 at s3 tm
      walk_at "fs_rd"
      refine ⟨a, rfl, ⟨_, SqL.of (s3 _ _ ta)⟩, for_list (a := a) (xs := NV os) (fun i σ H' => Same H H' ∧ H' m = some (.lst (NV (cnt (os.take i) b))) ∧ ∃ v, σ = [some (V.ref a), some (V.int b), some (V.ref m), v]) ⟨s3, tm, none, rfl⟩ (fun i σ H' _ h => SqL.of (h.1 _ _ ta)) ?_ ?_⟩
      · rintro i x σ H4 hx ⟨s4, tm4, v, rfl⟩
        obtain ⟨o, rfl, ho, hom, hi⟩ := map_get hx
        have hlt := hob o hom
        walk_at "fs_rd"
        refine ⟨m, _, _, _, rfl, rfl, SqL.of tm4, by omega, NV_get (cnt_get hlt), ?_⟩
        walk_at "fs_rd"
        refine ⟨_, _, rfl, rfl, ?_⟩
        refine in_set tm4 (ixN_of rfl (by rw [NV_len, cnt_len]; exact hlt)) ?_
        refine ⟨s4.own hmn, ?_, _, rfl⟩
        rw [upd_same, List.take_add_one, ho]
        show some (HO.lst ((NV (cnt (os.take i) b)).set o (V.int ((((os.take i).count o + 1 : Nat)) : Int)))) = some (HO.lst (NV (cnt (os.take i ++ [o]) b)))
        rw [NV_set, cnt_snoc hlt]
      · rintro σ H4 ⟨s4, tm4, v, rfl⟩
        rw [List.take_of_length_le (by rw [NV_len]; exact Nat.le_refl _)] at tm4
        walk_at "fs_rd"
        exact k m H4 hmn s4 tm4
    · refine ⟨_, (qb_cons (qs_set (i := 2) sc_counts.nd rfl (Or.inl rfl) (qe_op q_rep (qe_lst (qa_c qe_int qa_nil)) (qv 1)))
      (qb_cons (qs_for PassesOwn.never rfl (qi_tup (K := K) (qv 0)) (qg_name (i := 3) sc_counts.nd rfl (Or.inl rfl)) (qb_one (qs_augSL (K := K) (qv 2) (qv 3) qe_int)))
      (qb_one (qs_ret (qv 2))))), ?_⟩
      rw [show L2.start ["row", "base", "often", "figure"] [V.ref a, V.int b] = [some (V.ref a), some (V.int b), none, none] from rfl]
      walk_at "fs_rd"
      refine ⟨three (by simp), fun q0 hq0 => ?_⟩
      have s2 := (Same.refl H).new (o := .lst [V.int 0]) hq0
      have t0 : (upd H q0 (.lst [V.int 0])) q0 = some (.lst [V.int 0]) := upd_same
      generalize upd H q0 (.lst [V.int 0]) = H2 at s2 t0
      walk_at "fs_rd"
      refine ⟨q0, _, _, rfl, rfl, t0, by omega, by omega, three (by simp; omega), fun m hm => ?_⟩
      have efl : (List.replicate ((b : Nat) : Int).toNat [V.int 0]).flatten = NV (cnt [] b) := by
        show (List.replicate b [V.int 0]).flatten = _
        rw [List.flatten_replicate_singleton, NV, L2.cnt, List.map_map]
        apply List.ext_getElem (by simp)
        intro i h1 h2
        simp
      rw [efl]
      have hmn : H m = none := s2.free hm
      have s3 := s2.new (o := .lst (NV (cnt [] b))) hm
      have tm : (upd H2 m (.lst (NV (cnt [] b)))) m = some (.lst (NV (cnt [] b))) := upd_same
      generalize upd H2 m (.lst (NV (cnt [] b))) = H3 at s3 tm
      walk_at "fs_rd"
      refine ⟨a, rfl, ⟨_, SqT.of (s3 _ _ ta)⟩, for_tup (a := a) (xs := NV os) (fun i σ H' => Same H H' ∧ H' m = some (.lst (NV (cnt (os.take i) b))) ∧ ∃ v, σ = [some (V.ref a), some (V.int b), some (V.ref m), v]) ⟨s3, tm, none, rfl⟩ (fun i σ H' _ h => SqT.of (h.1 _ _ ta)) ?_ ?_⟩
      · rintro i x σ H4 hx ⟨s4, tm4, v, rfl⟩
        obtain ⟨o, rfl, ho, hom, hi⟩ := map_get hx
        have hlt := hob o hom
        walk_at "fs_rd"
        refine ⟨m, _, _, _, rfl, rfl, SqL.of tm4, by omega, NV_get (cnt_get hlt), ?_⟩
        walk_at "fs_rd"
        refine ⟨_, _, rfl, rfl, ?_⟩
        refine in_set tm4 (ixN_of rfl (by rw [NV_len, cnt_len]; exact hlt)) ?_
        refine ⟨s4.own hmn, ?_, _, rfl⟩
        rw [upd_same, List.take_add_one, ho]
        show some (HO.lst ((NV (cnt (os.take i) b)).set o (V.int ((((os.take i).count o + 1 : Nat)) : Int)))) = some (HO.lst (NV (cnt (os.take i ++ [o]) b)))
        rw [NV_set, cnt_snoc hlt]
      · rintro σ H4 ⟨s4, tm4, v, rfl⟩
        rw [List.take_of_length_le (by rw [NV_len]; exact Nat.le_refl _)] at tm4
        walk_at "fs_rd"
        exact k m H4 hmn s4 tm4
noncomputable def spBegins : Sp := fun vs H Q _ => ∃ (a : Addr) (cs : List Nat), vs = [.ref a] ∧ (H a = some (.lst (NV cs)) ∨ H a = some (.tup (NV cs))) ∧ cs.length ≤ 64 ∧ ∀ (l : Addr) H', H l = none → Same H H' → H' l = some (.lst (NV (begs cs))) → Q (.ref l) H'
theorem ok_begins (T : Tx K mg t) : FnOk P w K mg base CX0 1 t.f_begins t.d_begins ["counts"] spBegins := by
  refine T.F_begins.okQ sc_begins (fun vs H Q E h => ?_) (fun cdv A outer s H vs Q E hr h => ?_)
  · obtain ⟨a, cs, rfl, _⟩ := h
    rfl
  · obtain ⟨a, cs, rfl, ta, hcl, k⟩ := h
    rcases ta with ta | ta
    · refine ⟨_, (qb_cons (qs_set (i := 1) sc_begins.nd rfl (Or.inl rfl) (qe_lst qa_nil))
      (qb_cons (qs_set (i := 2) sc_begins.nd rfl (Or.inl rfl) qe_int)
      (qb_cons (qs_for PassesOwn.never rfl (qi_list (K := K) (qv 0)) (qg_name (i := 3) sc_begins.nd rfl (Or.inl rfl)) (qb_cons (qs_expr (qe_append (K := K) (qv 1) (qa_c (qv 2) qa_nil)))
      (qb_one (qs_aug (i := 2) sc_begins.nd rfl (Or.inl rfl) (qv 3) q_iadd))))
      (qb_one (qs_ret (qv 1)))))), ?_⟩
      rw [show L2.start ["counts", "lesser", "so_far", "many"] [V.ref a] = [some (V.ref a), none, none, none] from rfl]
      walk_at "fs_rd"
      refine ⟨three (by simp), fun l hl => ?_⟩
      have s1 := (Same.refl H).new (o := .lst []) hl
      have t1 : (upd H l (.lst [])) l = some (.lst (NV ((begs cs).take 0))) := upd_same
      generalize upd H l (.lst []) = H1 at s1 t1
      walk_at "fs_rd"
      refine ⟨a, rfl, ⟨_, SqL.of (s1 _ _ ta)⟩, for_list (a := a) (xs := NV cs) (fun i σ H' => Same H H' ∧ H' l = some (.lst (NV ((begs cs).take i))) ∧ ∃ v, σ = [some (V.ref a), some (V.ref l), some (V.int ((cs.take i).sum : Nat)), v]) ⟨s1, t1, none, rfl⟩ (fun i σ H' _ h => SqL.of (h.1 _ _ ta)) ?_ ?_⟩
      · rintro i x σ H2 hx ⟨s2, t2, v, rfl⟩
        obtain ⟨o, rfl, ho, hom, hi⟩ := map_get hx
        walk_at "fs_rd"
        refine ⟨ty_list t2, ?_⟩
        walk_at "fs_rd"
        refine in_append t2 (by rw [NV_len, List.length_take, begs_len]; exact small1000 (by omega)) ?_
        rw [NV_snoc, ← begs_take hi]
        have e : (((cs.take i).sum : Nat) : Int) + (o : Int) = ((cs.take (i + 1)).sum : Nat) := by rw [List.take_add_one, ho, List.sum_append]; simp
        walk_at "fs_rd"
        exact ⟨s2.own hl, upd_same, some (V.int (o : Nat)), by rw [← e]; rfl⟩
      · rintro σ H2 ⟨s2, t2, v, rfl⟩
        rw [List.take_of_length_le (by rw [NV_len, begs_len]; exact Nat.le_refl _)] at t2
        walk_at "fs_rd"
        exact k l H2 hl s2 t2
    · refine ⟨_, (qb_cons (qs_set (i := 1) sc_begins.nd rfl (Or.inl rfl) (qe_lst qa_nil))
      (qb_cons (qs_set (i := 2) sc_begins.nd rfl (Or.inl rfl) qe_int)
      (qb_cons (qs_for PassesOwn.never rfl (qi_tup (K := K) (qv 0)) (qg_name (i := 3) sc_begins.nd rfl (Or.inl rfl)) (qb_cons (qs_expr (qe_append (K := K) (qv 1) (qa_c (qv 2) qa_nil)))
      (qb_one (qs_aug (i := 2) sc_begins.nd rfl (Or.inl rfl) (qv 3) q_iadd))))
      (qb_one (qs_ret (qv 1)))))), ?_⟩
      rw [show L2.start ["counts", "lesser", "so_far", "many"] [V.ref a] = [some (V.ref a), none, none, none] from rfl]
      walk_at "fs_rd"
      refine ⟨three (by simp), fun l hl => ?_⟩
      have s1 := (Same.refl H).new (o := .lst []) hl
      have t1 : (upd H l (.lst [])) l = some (.lst (NV ((begs cs).take 0))) := upd_same
      generalize upd H l (.lst []) = H1 at s1 t1
      walk_at "fs_rd"
      refine ⟨a, rfl, ⟨_, SqT.of (s1 _ _ ta)⟩, for_tup (a := a) (xs := NV cs) (fun i σ H' => Same H H' ∧ H' l = some (.lst (NV ((begs cs).take i))) ∧ ∃ v, σ = [some (V.ref a), some (V.ref l), some (V.int ((cs.take i).sum : Nat)), v]) ⟨s1, t1, none, rfl⟩ (fun i σ H' _ h => SqT.of (h.1 _ _ ta)) ?_ ?_⟩
      · rintro i x σ H2 hx ⟨s2, t2, v, rfl⟩
        obtain ⟨o, rfl, ho, hom, hi⟩ := map_get hx
        walk_at "fs_rd"
        refine ⟨ty_list t2, ?_⟩
        walk_at "fs_rd"
        refine in_append t2 (by rw [NV_len, List.length_take, begs_len]; exact small1000 (by omega)) ?_
        rw [NV_snoc, ← begs_take hi]
        have e : (((cs.take i).sum : Nat) : Int) + (o : Int) = ((cs.take (i + 1)).sum : Nat) := by rw [List.take_add_one, ho, List.sum_append]; simp
        walk_at "fs_rd"
        exact ⟨s2.own hl, upd_same, some (V.int (o : Nat)), by rw [← e]; rfl⟩
      · rintro σ H2 ⟨s2, t2, v, rfl⟩
        rw [List.take_of_length_le (by rw [NV_len, begs_len]; exact Nat.le_refl _)] at t2
        walk_at "fs_rd"
        exact k l H2 hl s2 t2

noncomputable def lesF (os : List Nat) (b : Nat) : List Nat := (List.range b).map fun f => lessN os f
theorem les_len (os : List Nat) (b : Nat) : (lesF os b).length = b := by simp [lesF]
theorem les_get {os : List Nat} {b f : Nat} (h : f < b) : (lesF os b)[f]? = some (lessN os f) := by simp [lesF, h]
theorem les_take {os : List Nat} {b i : Nat} (h : i < b) : (lesF os b).take (i + 1) = (lesF os b).take i ++ [lessN os i] := by
  rw [List.take_add_one, les_get h]; rfl
theorem less_lenF (os : List Nat) (f : Nat) : (os.filter fun x => decide (x < f)).length = lessN os f := by
  rw [lessN, List.countP_eq_length_filter]
theorem begs_cnt (os : List Nat) (b : Nat) : begs (cnt os b) = lesF os b := by
  unfold begs lesF
  rw [cnt_len]
  apply List.map_congr_left
  intro f hf
  exact cnt_take_sum os b f (Nat.le_of_lt (List.mem_range.mp hf))
theorem perm_nat {ms : List Int} {os : List Nat} (h : ms.Perm (os.map fun x : Nat => (x : Int))) : ∃ ys : List Nat, ms = ys.map (fun x : Nat => (x : Int)) ∧ ys.Perm os := by
  have e : ms = (ms.map Int.toNat).map (fun x : Nat => (x : Int)) := by
    rw [List.map_map]
    refine (List.map_id ms).symm.trans (List.map_congr_left fun x hx => ?_)
    obtain ⟨y, _, rfl⟩ := List.mem_map.mp (h.mem_iff.mp hx)
    rfl
  refine ⟨_, e, ?_⟩
  have := h.map Int.toNat
  rw [List.map_map] at this
  exact this.trans (by rw [show (Int.toNat ∘ fun x : Nat => (x : Int)) = id from rfl, List.map_id])
theorem sorted_part {ys os : List Nat} (h : ys.Perm os) (hs : ys.Pairwise (· ≤ ·)) {c : Nat} : (ys.drop (lessN os c)).take (os.count c) = List.replicate (os.count c) c := by
  have e1 : lessN os c = ys.countP fun x => decide (x < c) := (h.countP_eq _).symm
  have e2 : os.count c = ys.count c := (h.count_eq c).symm
  rw [e1, e2]
  clear e1 e2 h
  induction ys with
  | nil => rfl
  | cons y ys ih =>
    obtain ⟨h1, h2⟩ := List.pairwise_cons.mp hs
    have ih := ih h2
    rcases Nat.lt_trichotomy y c with g | g | g
    · rw [List.countP_cons_of_pos (by simpa using g), List.count_cons_of_ne (by simpa using Nat.ne_of_lt g)]
      exact ih
    · subst g
      have e0 : ys.countP (fun x => decide (x < y)) = 0 := List.countP_eq_zero.mpr fun x hx => by have := h1 x hx; simp; omega
      rw [e0] at ih
      rw [List.countP_cons_of_neg (by simp), e0, List.count_cons_self, List.replicate_succ]
      show y :: (ys.take _) = _
      rw [← ih]; rfl
    · have e0 : ys.count c = 0 := List.count_eq_zero.mpr fun hx => by have := h1 c hx; omega
      rw [List.count_cons_of_ne (by simpa using Nat.ne_of_gt g), e0]; simp
theorem cut_last (os : List Nat) (x : Nat) : cutV (NV (os ++ [x])) none (some (-1)) = NV os := by
  unfold cutV
  rw [NV_len, HT.sIx_none, List.drop_zero]
  have : HT.sIx (os ++ [x]).length (os ++ [x]).length (some (-1)) = os.length := by
    simp [HT.sIx]
    omega
  rw [this, Nat.sub_zero, ← NV_snoc, List.take_left' (NV_len _)]

noncomputable def spMany27 : Sp := fun vs H Q _ => ∃ (p : Addr) (k : Int), vs = [.ref p, .int k] ∧ Tp2 H p ∧ ∀ (r : Nat) H', r ≤ 200 → St2 p H H' → Q (.int r) H'
theorem ok_many (T : Tx K mg t) : FnOk P w K mg base CX0 2 t.f_many t.d_many ["_law_tape_here", "_law_k"] spMany27 := by
  refine T.F_many.okQ sc_many (fun vs H Q E h => ?_) (fun cdv A outer s H vs Q E hr h => ?_)
  · obtain ⟨p, k, rfl, _⟩ := h
    rfl
  · obtain ⟨p, kk, rfl, hT, k⟩ := h
    refine ⟨_, (qb_cons (qs_if (QW.qt (qw_and (qt_cmpR q_eq (qv 1) qe_int (nomark _)) (qw_and1 (qt_cmpR q_eq (qe_call (ok_draw T) (hr.mono (by decide)) rfl T.m_draw T.F_draw.kp T.b_draw pass0 (qa_c (qv 0) (qa_c qe_int qa_nil))) qe_int (nomark _))))) (qb_one (qs_ret qe_int)) qb_nil)
      (qb_one (qs_ret (qe_ix (q_ixL (K := K)) (qe_lst (qa_c (qe_call (ok_draw T) (hr.mono (by decide)) rfl T.m_draw T.F_draw.kp T.b_draw pass0 (qa_c (qv 0) (qa_c qe_int qa_nil))) (qa_c (qe_op q_add qe_int (qe_call (ok_draw T) (hr.mono (by decide)) rfl T.m_draw T.F_draw.kp T.b_draw pass0 (qa_c (qv 0) (qa_c qe_int qa_nil)))) qa_nil))) (qe_callTy qc_int (by rfl) T.z_int bt_int (qa_c (qe_cmpR q_eq (qe_call (ok_draw T) (hr.mono (by decide)) rfl T.m_draw T.F_draw.kp T.b_draw pass0 (qa_c (qv 0) (qa_c qe_int qa_nil))) qe_int (nomark _)) qa_nil)))))), ?_⟩
    rw [show L2.start ["_law_tape_here", "_law_k"] [V.ref p, V.int kk] = [some (V.ref p), some (V.int kk)] from rfl]
    walk_at "fs_rd"
    apply via2 (α := Nat) (S := fun _ H3 => St2 p H H3)
    case hA =>
      intro key
      refine in_split (fun h1 => ?_) (fun h1 => ?_)
      · walk_at "fs_rd"
        refine ⟨p, 16, rfl, hT, by decide, by decide, fun r2 H3 a2 S3 => ?_⟩
        walk_at "fs_rd"
        refine in_split (fun h2 => ?_) (fun h2 => ?_)
        · walk_at "fs_rd"
          exact k 200 H3 (by omega) S3
        · walk_at "fs_rd"
          exact key r2 H3 S3
      · walk_at "fs_rd"
        exact key 0 H (St2.refl hT)
    case hB =>
      rintro _ H3 S3
      walk_at "fs_rd"
      refine ⟨p, 7, rfl, S3.tape, by decide, by decide, fun r1 H4 a1 S4 => ?_⟩
      walk_at "fs_rd"
      refine ⟨p, 6, rfl, S4.tape, by decide, by decide, fun r2 H5 a2 S5 => ?_⟩
      walk_at "fs_rd"
      refine ⟨three (by simp), fun q hq => ?_⟩
      have nq := S5.tape.ne hq
      have S6 := ((S3.trans S4).trans S5).new (o := .lst [V.int (r1 : Int), V.int (7 + (r2 : Int))]) hq
      have tq : (upd H5 q (.lst [V.int (r1 : Int), V.int (7 + (r2 : Int))])) q = some (.lst [V.int (r1 : Int), V.int (7 + (r2 : Int))]) := upd_same
      generalize upd H5 q (.lst [V.int (r1 : Int), V.int (7 + (r2 : Int))]) = H6 at S6 tq
      walk_at "fs_rd"
      refine ⟨p, 8, rfl, S6.tape, by decide, by decide, fun r3 H7 a3 S7 => ?_⟩
      walk_at "fs_rd"
      obtain ⟨v, e, hv⟩ := atI_mem (xs := [V.int (r1 : Int), V.int (7 + (r2 : Int))]) (r := if decide (V.int (r3 : Int) = V.int 0) = true then 1 else 0) (by split <;> omega) (by simp only [List.length_cons, List.length_nil]; split <;> omega)
      refine in_ix (SqL.of (S7.keep q _ tq nq)) e ?_
      have hv' : ∃ m : Nat, v = V.int m ∧ m ≤ 200 := by
        simp only [List.mem_cons, List.not_mem_nil, or_false] at hv
        rcases hv with rfl | rfl
        · exact ⟨r1, rfl, by omega⟩
        · exact ⟨7 + r2, by congr 1, by omega⟩
      obtain ⟨m, rfl, hm⟩ := hv'
      exact k m H7 hm (S6.trans S7)

noncomputable def spBase3 : Sp := fun vs H Q _ => ∃ (p : Addr), vs = [.ref p] ∧ Tp2 H p ∧ ∀ (b : Nat) H', 2 ≤ b → b ≤ 64 → St2 p H H' → Q (.int b) H'
theorem ok_base (T : Tx K mg t) : FnOk P w K mg base CX0 2 t.f_base t.d_base ["_law_tape_here"] spBase3 := by
  refine T.F_base.okQ sc_base (fun vs H Q E h => ?_) (fun cdv A outer s H vs Q E hr h => ?_)
  · obtain ⟨p, rfl, _⟩ := h
    rfl
  · obtain ⟨p, rfl, hT, k⟩ := h
    refine ⟨_, (qb_one (qs_ret (qe_ix (q_ixL (K := K)) (qe_lst (qa_c qe_int (qa_c qe_int (qa_c qe_int (qa_c qe_int (qa_c qe_int (qa_c (qe_op q_add qe_int (qe_call (ok_draw T) (hr.mono (by decide)) rfl T.m_draw T.F_draw.kp T.b_draw pass0 (qa_c (qv 0) (qa_c qe_int qa_nil)))) qa_nil))))))) (qe_call (ok_draw T) (hr.mono (by decide)) rfl T.m_draw T.F_draw.kp T.b_draw pass0 (qa_c (qv 0) (qa_c qe_int qa_nil)))))), ?_⟩
    rw [show L2.start ["_law_tape_here"] [V.ref p] = [some (V.ref p)] from rfl]
    walk_at "fs_rd"
    refine ⟨p, 63, rfl, hT, by decide, by decide, fun r1 H1 a1 S1 => ?_⟩
    walk_at "fs_rd"
    refine ⟨three (by simp), fun q hq => ?_⟩
    walk_at "fs_rd"
    refine ⟨p, 6, rfl, (S1.new hq).tape, by decide, by decide, fun r3 H4 a3 S4 => ?_⟩
    obtain ⟨v, e, hv⟩ := atI_mem (xs := [V.int 2, V.int 3, V.int 10, V.int 16, V.int 64, V.int (2 + (r1 : Int))]) (r := (r3 : Int)) (by omega) (by simp only [List.length_cons, List.length_nil]; omega)
    refine in_ix (SqL.of (S4.keep q _ upd_same (S1.tape.ne hq))) e ?_
    have S := (S1.new (o := .lst [V.int 2, V.int 3, V.int 10, V.int 16, V.int 64, V.int (2 + (r1 : Int))]) hq).trans S4
    simp only [List.mem_cons, List.not_mem_nil, or_false] at hv
    rcases hv with rfl | rfl | rfl | rfl | rfl | rfl
    · exact k 2 H4 (by omega) (by omega) S
    · exact k 3 H4 (by omega) (by omega) S
    · exact k 10 H4 (by omega) (by omega) S
    · exact k 16 H4 (by omega) (by omega) S
    · exact k 64 H4 (by omega) (by omega) S
    · exact k (2 + r1) H4 (by omega) (by omega) S

section
variable {K : PySem.W.Frag} {H : Hp} {Q : VK}
theorem in_slLA {a : Addr} {xs : List V} {lo hi : Option Int} (h1 : H a = some (.lst xs)) (h : ∀ p H', H p = none → Same H H' → H' p = some (.lst (cutV xs lo hi)) → Q (.ref p) H') : rSlL K (.ref a) lo hi H Q := ⟨a, xs, rfl, SqL.of h1, fun p hp => h p _ hp ((Same.refl H).new hp) upd_same⟩
theorem in_slL0 {a : Addr} {xs : List V} {lo hi : Option Int} (h1 : H a = some (.lst xs)) (h : ∀ p H', Same H H' → H' p = some (.lst (cutV xs lo hi)) → Q (.ref p) H') : rSlL K (.ref a) lo hi H Q := ⟨a, xs, rfl, SqL.of h1, fun p hp => h p _ ((Same.refl H).new hp) upd_same⟩
theorem in_slT0 {a : Addr} {xs : List V} {lo hi : Option Int} (h1 : H a = some (.tup xs)) (h : ∀ p H', Same H H' → H' p = some (.tup (cutV xs lo hi)) → Q (.ref p) H') : rSlTA (.ref a) lo hi H Q := ⟨a, xs, rfl, h1, h⟩
end

theorem in_isiTLf {K : PySem.W.Frag} {H : Hp} {Q : VK} {p : Addr} {xs : List V} (s : H p = some (.tup xs)) (h : Q (.bl false) H) : rIsi K [.ref p, .ty "list"] H Q := ⟨_, _, _, _, rfl, .tup s, rfl, h⟩

noncomputable def spCopy : Sp := fun vs H Q _ => ∃ x, vs = [x] ∧ Th H x ∧ ∀ y H', Same H H' → ThE H' x y → Q y H'
theorem ok_own_copy (T : Tx K mg t) : FnOk P w K mg base CX0 1 t.f_own_copy t.d_own_copy ["thing"] spCopy := by
  refine T.F_own_copy.okQ sc_own_copy (fun vs H Q E h => ?_) (fun cdv A outer s H vs Q E hr h => ?_)
  · obtain ⟨x, rfl, _⟩ := h
    rfl
  · obtain ⟨x, rfl, hx, k⟩ := h
    obtain ⟨xs, hxl, hxs, hxc⟩ : ∃ xs : List V, xs.length ≤ 2 ∧ (∀ z ∈ xs, Sc z) ∧ ((Sc x ∧ xs = []) ∨ ∃ t, x = .ref t ∧ H t = some (.tup xs) ∧ 0 < xs.length) := by
      rcases hx with h | ⟨t, xs, rfl, ht, h0, h2, hs⟩
      · exact ⟨[], Nat.zero_le _, (fun z hz => nomatch hz), .inl ⟨h, rfl⟩⟩
      · exact ⟨xs, h2, hs, .inr ⟨t, rfl, ht, h0⟩⟩
    refine ⟨_, (qb_cons (qs_set (i := 1) sc_own_copy.nd rfl (Or.inl rfl) (qe_lst (qa_c (qv 0) qa_nil)))
      (qb_cons (qs_set (i := 2) sc_own_copy.nd rfl (Or.inl rfl) (qe_lst qa_nil))
      (qb_cons (qs_while PassesOwn.never (qt_cmpR q_lt (qe_callB (qc_len (K := K)) (by rfl) T.z_len bt_len (qa_c (qv 2) qa_nil)) (qe_callB (qc_len (K := K)) (by rfl) T.z_len bt_len (qa_c (qv 1) qa_nil)) (nomark _)) (qb_cons (qs_set (i := 3) sc_own_copy.nd rfl (Or.inl rfl) (qe_ix (q_ixL (K := K)) (qv 1) (qe_callB (qc_len (K := K)) (by rfl) T.z_len bt_len (qa_c (qv 2) qa_nil))))
      (qb_cons (qs_expr (qe_append (K := K) (qv 2) (qa_c (qe_callB (qc_len (K := K)) (by rfl) T.z_len bt_len (qa_c (qv 1) qa_nil)) qa_nil)))
      (qb_one (qs_if (qt_val (qe_callB (qc_isiC (K := K)) (by rfl) T.z_isinstance bt_isinstance (qa_c (qv 3) (qa_c (qe_tup (qa_c (qe_bltn rfl T.z_list bt_list (v := .ty "list") rfl) (qa_c (qe_bltn rfl T.z_tuple bt_tuple (v := .ty "tuple") rfl) qa_nil))) qa_nil)))) (qb_one (qs_expr (qe_extendT (K := K) (qv 1) (qa_c (qv 3) qa_nil)))) qb_nil)))))
      (qb_cons (qs_for PassesOwn.never rfl (qi_rangeD rfl T.z_range (qa_c (qe_op q_sub (qe_callB (qc_len (K := K)) (by rfl) T.z_len bt_len (qa_c (qv 1) qa_nil)) qe_int) (qa_c (qe_un q_neg qe_int) (qa_c (qe_un q_neg qe_int) qa_nil)))) (qg_name (i := 4) sc_own_copy.nd rfl (Or.inl rfl)) (qb_cons (qs_set (i := 3) sc_own_copy.nd rfl (Or.inl rfl) (qe_ix (q_ixL (K := K)) (qv 1) (qv 4)))
      (qb_one (qs_if (qt_val (qe_callB (qc_isi (K := K)) (by rfl) T.z_isinstance bt_isinstance (qa_c (qv 3) (qa_c (qe_bltn rfl T.z_list bt_list (v := .ty "list") rfl) qa_nil)))) (qb_one (qs_sub (qe_slice (q_slL (K := K)) (qv 1) (qo_some (qe_ix (q_ixL (K := K)) (qv 2) (qv 4))) (qo_some (qe_op q_add (qe_ix (q_ixL (K := K)) (qv 2) (qv 4)) (qe_callB (qc_len (K := K)) (by rfl) T.z_len bt_len (qa_c (qv 3) qa_nil))))) (qv 1) (qv 4))) (qb_one (qs_if (qt_val (qe_callB (qc_isi (K := K)) (by rfl) T.z_isinstance bt_isinstance (qa_c (qv 3) (qa_c (qe_bltn rfl T.z_tuple bt_tuple (v := .ty "tuple") rfl) qa_nil)))) (qb_one (qs_sub (qe_callTy (qc_tuple (K := K)) (by rfl) T.z_tuple bt_tuple (qa_c (qe_slice (q_slL (K := K)) (qv 1) (qo_some (qe_ix (q_ixL (K := K)) (qv 2) (qv 4))) (qo_some (qe_op q_add (qe_ix (q_ixL (K := K)) (qv 2) (qv 4)) (qe_callB (qc_len (K := K)) (by rfl) T.z_len bt_len (qa_c (qv 3) qa_nil))))) qa_nil)) (qv 1) (qv 4))) qb_nil))))))
      (qb_one (qs_ret (qe_ix (q_ixL (K := K)) (qv 1) qe_int))))))), ?_⟩
    rw [show L2.start ["thing", "parts", "firsts", "part", "at"] [x] = [some (x), none, none, none, none] from rfl]
    walk_at "fs_rd"
    refine ⟨three (by simp), fun pl hpl => ?_⟩
    have s1 := (Same.refl H).new (o := .lst [x]) hpl
    have tp1 : (upd H pl (.lst [x])) pl = some (.lst [x]) := upd_same
    generalize upd H pl (.lst [x]) = H1 at s1 tp1
    walk_at "fs_rd"
    refine ⟨three (by simp), fun fl hfl => ?_⟩
    have hfn : H fl = none := s1.free hfl
    have hpf : pl ≠ fl := ne_of_none tp1 hfl
    have s2 := s1.new (o := .lst []) hfl
    have tp2 : (upd H1 fl (.lst [])) pl = some (.lst [x]) := by rw [upd_ne hpf]; exact tp1
    have tf2 : (upd H1 fl (.lst [])) fl = some (.lst (NV [])) := upd_same
    generalize upd H1 fl (.lst []) = H2 at s2 tp2 tf2
    walk_at "fs_rd"
    refine ⟨fun c σ H' => ∃ (fs : List Nat), c = 1 + xs.length - fs.length ∧ fs.length ≤ 1 + xs.length ∧ Same H H' ∧ H' fl = some (.lst (NV fs)) ∧ ((fs = [] ∧ H' pl = some (.lst [x])) ∨ (fs[0]? = some 1 ∧ H' pl = some (.lst (x :: xs)))) ∧ ∃ v3 v4, σ = [some x, some (V.ref pl), some (V.ref fl), v3, v4], ⟨_, [], rfl, by simp, s2, tf2, .inl ⟨rfl, tp2⟩, _, _, rfl⟩, ?_⟩
    rintro c σ H3 ⟨fs, rfl, hfs, s3, tf3, hcase, v3, v4, rfl⟩
    rcases hcase with ⟨rfl, tp3⟩ | ⟨hf0, tp3⟩
    · walk_at "fs_rd"
      refine in_lenL (SqL.of tf3) ?_
      walk_at "fs_rd"
      refine in_lenL (SqL.of tp3) ?_
      walk_at "fs_rd"
      refine in_pos (by show ((0 : Nat) : Int) < ((1 : Nat) : Int); decide) ?_
      refine ⟨_, fun _ _ z => z, ?_⟩
      walk_at "fs_rd"
      refine in_lenL (SqL.of tf3) ?_
      walk_at "fs_rd"
      refine ⟨ty_list tf3, ?_⟩
      walk_at "fs_rd"
      refine in_lenL (SqL.of tp3) ?_
      walk_at "fs_rd"
      refine in_append tf3 (small1000 (by simp [NV_len])) ?_
      have s4 := s3.own (o := .lst (NV [1])) hfn
      have tf4 : (upd H3 fl (.lst (NV [1]))) fl = some (.lst (NV [1])) := upd_same
      have tp4 : (upd H3 fl (.lst (NV [1]))) pl = some (.lst [x]) := by rw [upd_ne hpf]; exact tp3
      have eap : NV [] ++ [V.int (([x] : List V).length : Nat)] = NV [1] := rfl
      rw [eap]
      generalize upd H3 fl (.lst (NV [1])) = H4 at s4 tf4 tp4
      walk_at "fs_rd"
      refine ⟨three (by simp), fun tp htp => ?_⟩
      have s5 := s4.new (o := .tup [V.ty "list", V.ty "tuple"]) htp
      have ttp : (upd H4 tp (.tup [V.ty "list", V.ty "tuple"])) tp = some (.tup [V.ty "list", V.ty "tuple"]) := upd_same
      have tf5 : (upd H4 tp (.tup [V.ty "list", V.ty "tuple"])) fl = some (.lst (NV [1])) := by rw [upd_ne (ne_of_none tf4 htp)]; exact tf4
      have tp5 : (upd H4 tp (.tup [V.ty "list", V.ty "tuple"])) pl = some (.lst [x]) := by rw [upd_ne (ne_of_none tp4 htp)]; exact tp4
      generalize upd H4 tp (.tup [V.ty "list", V.ty "tuple"]) = H5 at s5 ttp tf5 tp5
      walk_at "fs_rd"
      rcases hxc with ⟨hsc, rfl⟩ | ⟨t, rfl, ht, h0⟩
      · refine in_isiC0 ttp hsc ?_
        walk_at "fs_rd"
        exact ⟨_, by simp, [1], rfl, by simp, s5, tf5, .inr ⟨rfl, tp5⟩, _, _, rfl⟩
      · refine in_isiCT (s5 _ _ ht) ttp ?_
        walk_at "fs_rd"
        refine ⟨ty_list tp5, ?_⟩
        walk_at "fs_rd"
        refine in_extendT tp5 (s5 _ _ ht) (three (by simp; omega)) ?_
        exact ⟨_, by simp, [1], rfl, by simp, s5.own hpl, by rw [upd_ne (Ne.symm hpf)]; exact tf5, .inr ⟨rfl, upd_same⟩, _, _, rfl⟩
    · have hf1 : 0 < fs.length := get_lt hf0
      walk_at "fs_rd"
      refine in_lenL (SqL.of tf3) ?_
      rw [NV_len]
      walk_at "fs_rd"
      refine in_lenL (SqL.of tp3) ?_
      rw [List.length_cons]
      walk_at "fs_rd"
      refine in_split (fun g => ?_) (fun g => ?_)
      · refine ⟨_, fun _ _ z => z, ?_⟩
        have hlt : fs.length < 1 + xs.length := by omega
        obtain ⟨i, hi⟩ : ∃ i, fs.length = i + 1 := ⟨fs.length - 1, by omega⟩
        have hix : i < xs.length := by omega
        have hget : (x :: xs)[fs.length]? = some xs[i] := by rw [hi, List.getElem?_cons_succ, List.getElem?_eq_getElem hix]
        walk_at "fs_rd"
        refine in_lenL (SqL.of tf3) ?_
        rw [NV_len]
        refine in_ix (SqL.of tp3) (v := xs[i]) (atI_nat hget) ?_
        have hsc := hxs _ (List.getElem_mem hix)
        generalize xs[i] = part at hsc
        walk_at "fs_rd"
        refine ⟨ty_list tf3, ?_⟩
        walk_at "fs_rd"
        refine in_lenL (SqL.of tp3) ?_
        rw [List.length_cons]
        walk_at "fs_rd"
        refine in_append tf3 (by rw [NV_len]; exact small1000 (by omega)) ?_
        rw [NV_snoc]
        have s4 := s3.own (o := .lst (NV (fs ++ [xs.length + 1]))) hfn
        have tf4 : (upd H3 fl (.lst (NV (fs ++ [xs.length + 1])))) fl = some (.lst (NV (fs ++ [xs.length + 1]))) := upd_same
        have tp4 : (upd H3 fl (.lst (NV (fs ++ [xs.length + 1])))) pl = some (.lst (x :: xs)) := by rw [upd_ne hpf]; exact tp3
        generalize upd H3 fl (.lst (NV (fs ++ [xs.length + 1]))) = H4 at s4 tf4 tp4
        walk_at "fs_rd"
        refine ⟨three (by simp), fun tp htp => ?_⟩
        have s5 := s4.new (o := .tup [V.ty "list", V.ty "tuple"]) htp
        have ttp : (upd H4 tp (.tup [V.ty "list", V.ty "tuple"])) tp = some (.tup [V.ty "list", V.ty "tuple"]) := upd_same
        have tf5 : (upd H4 tp (.tup [V.ty "list", V.ty "tuple"])) fl = some (.lst (NV (fs ++ [xs.length + 1]))) := by rw [upd_ne (ne_of_none tf4 htp)]; exact tf4
        have tp5 : (upd H4 tp (.tup [V.ty "list", V.ty "tuple"])) pl = some (.lst (x :: xs)) := by rw [upd_ne (ne_of_none tp4 htp)]; exact tp4
        generalize upd H4 tp (.tup [V.ty "list", V.ty "tuple"]) = H5 at s5 ttp tf5 tp5
        walk_at "fs_rd"
        refine in_isiC0 ttp hsc ?_
        walk_at "fs_rd"
        exact ⟨_, by rw [List.length_append, List.length_singleton]; omega, fs ++ [xs.length + 1], rfl, by rw [List.length_append, List.length_singleton]; omega, s5, tf5, .inr ⟨by rw [List.getElem?_append_left hf1]; exact hf0, tp5⟩, _, _, rfl⟩
      · have hfl2 : fs.length = 1 + xs.length := by omega
        walk_at "fs_rd"
        refine in_lenL (SqL.of tp3) ?_
        rw [List.length_cons]
        walk_at "fs_rd"
        refine ⟨xs.length + 1, rfl, by omega, for_gen (n := xs.length + 1) (fun j σ H' => Same H H' ∧ H' fl = some (.lst (NV fs)) ∧ (∃ y, H' pl = some (.lst (y :: xs)) ∧ (j < xs.length + 1 → y = x) ∧ (j = xs.length + 1 → ThE H' x y)) ∧ ∃ v3 v4, σ = [some x, some (V.ref pl), some (V.ref fl), v3, v4]) ⟨s3, tf3, ⟨x, tp3, fun _ => rfl, fun h => by omega⟩, _, _, rfl⟩ (fun i σ H' hi _ => hi) (fun σ H' _ => Nat.le_refl _) ?_ ?_⟩
        · rintro j x0 σ H4o H4 hj ⟨s4, tf4, ⟨y, tp4, hy1, hy2⟩, v3, v4, rfl⟩ ⟨rfl, rfl⟩
          have hyx := hy1 hj
          subst hyx
          by_cases hjm : j = xs.length
          · have e0 : xs.length + 1 - 1 - j = 0 := by omega
            rw [e0]
            walk_at "fs_rd"
            refine in_ix (SqL.of tp4) (v := y) (atI_nat (j := 0) rfl) ?_
            walk_at "fs_rd"
            rcases hxc with ⟨hsc, hxn⟩ | ⟨t, hyt, ht, h0⟩
            · refine in_isi0L hsc ?_
              walk_at "fs_rd"
              refine in_isi0T hsc ?_
              walk_at "fs_rd"
              exact ⟨s4, tf4, ⟨y, tp4, fun _ => rfl, fun _ => .inl ⟨hsc, rfl⟩⟩, _, _, rfl⟩
            · rw [hyt]
              have ht4 := s4 _ _ ht
              refine in_isiTLf ht4 ?_
              walk_at "fs_rd"
              refine in_isiTT ht4 ?_
              walk_at "fs_rd"
              refine in_ix (SqL.of tf4) (NV_at (i := 0) rfl hf0) ?_
              walk_at "fs_rd"
              refine ⟨_, rfl, ?_⟩
              walk_at "fs_rd"
              refine in_ix (SqL.of tf4) (NV_at (i := 0) rfl hf0) ?_
              walk_at "fs_rd"
              refine in_lenT (SqT.of ht4) ?_
              walk_at "fs_rd"
              refine ⟨_, rfl, ?_⟩
              refine ⟨pl, _, rfl, SqL.of tp4, fun z hz => ?_⟩
              have ecut : cutV (y :: xs) (some ((1 : Nat) : Int)) (some (((1 : Nat) : Int) + (xs.length : Nat))) = xs := by
                have e1 : ((1 : Nat) : Int) + (xs.length : Nat) = ((1 + xs.length : Nat) : Int) := by omega
                unfold cutV
                rw [e1, HT.sIx_nat, HT.sIx_nat, List.length_cons]
                have m1 : min 1 (xs.length + 1) = 1 := by omega
                have m2 : min (1 + xs.length) (xs.length + 1) = xs.length + 1 := by omega
                rw [m1, m2, List.drop_succ_cons, List.drop_zero, List.take_of_length_le (by omega)]
              rw [ecut]
              have s5 := s4.new (o := .lst xs) hz
              have tz : (upd H4 z (.lst xs)) z = some (.lst xs) := upd_same
              have tf5 : (upd H4 z (.lst xs)) fl = some (.lst (NV fs)) := by rw [upd_ne (ne_of_none tf4 hz)]; exact tf4
              have tp5 : (upd H4 z (.lst xs)) pl = some (.lst (y :: xs)) := by rw [upd_ne (ne_of_none tp4 hz)]; exact tp4
              generalize upd H4 z (.lst xs) = H5 at s5 tz tf5 tp5
              walk_at "fs_rd"
              refine in_tupleL (SqL.of tz) fun u hu => ?_
              have s6 := s5.new (o := .tup xs) hu
              have tu : (upd H5 u (.tup xs)) u = some (.tup xs) := upd_same
              have tf6 : (upd H5 u (.tup xs)) fl = some (.lst (NV fs)) := by rw [upd_ne (ne_of_none tf5 hu)]; exact tf5
              have tp6 : (upd H5 u (.tup xs)) pl = some (.lst (y :: xs)) := by rw [upd_ne (ne_of_none tp5 hu)]; exact tp5
              have hup : u ≠ pl := fun e => by rw [e, tp5] at hu; cases hu
              generalize upd H5 u (.tup xs) = H6 at s6 tu tf6 tp6
              walk_at "fs_rd"
              refine in_set tp6 (ixN_of (i := 0) rfl (by simp)) ?_
              have s7 := s6.own (o := .lst ((y :: xs).set 0 (V.ref u))) hpl
              refine ⟨s7, by rw [upd_ne (Ne.symm hpf)]; exact tf6, ⟨V.ref u, by rw [upd_same]; rfl, fun h => by omega, fun _ => .inr ⟨t, u, xs, rfl, rfl, s7 _ _ ht, by rw [upd_ne hup]; exact tu, h0, hxl, hxs⟩⟩, _, _, rfl⟩
          · obtain ⟨i, hi, hil⟩ : ∃ i, xs.length + 1 - 1 - j = i + 1 ∧ i < xs.length := ⟨xs.length - j - 1, by omega, by omega⟩
            rw [hi]
            have hsc := hxs _ (List.getElem_mem hil)
            walk_at "fs_rd"
            refine in_ix (SqL.of tp4) (v := xs[i]) (atI_nat (by rw [List.getElem?_cons_succ, List.getElem?_eq_getElem hil])) ?_
            generalize xs[i] = part at hsc
            walk_at "fs_rd"
            refine in_isi0L hsc ?_
            walk_at "fs_rd"
            refine in_isi0T hsc ?_
            walk_at "fs_rd"
            exact ⟨s4, tf4, ⟨y, tp4, fun _ => rfl, fun h => by omega⟩, _, _, rfl⟩
        · rintro σ H4 ⟨s4, tf4, ⟨y, tp4, hy1, hy2⟩, v3, v4, rfl⟩
          walk_at "fs_rd"
          refine in_ix (SqL.of tp4) (v := y) (atI_nat (j := 0) rfl) ?_
          exact k y H4 s4 (hy2 rfl)

noncomputable def spStands (C : Addr) : Sp := fun vs H Q _ => ∃ (w pa ma ea : Addr) (us : List V) (hv : V) (st : HW) (f p : Nat), vs = [.ref w, .int (f : Nat), .int (p : Nat)] ∧ HwAt C H w pa ma ea us hv st ∧ p < st.ps.length ∧ Q (.bl (isF st.ps f p)) H
theorem ok_HeapWalk_stands (T : Tx K mg t) : FnOk P w K mg base CX0 1 t.f_HeapWalk_stands t.d_HeapWalk_stands ["self", "figure", "place"] (spStands t.c_HeapWalk) := by
  refine T.F_HeapWalk_stands.okQ sc_HeapWalk_stands (fun vs H Q E h => ?_) (fun cdv A outer s H vs Q E hr h => ?_)
  · obtain ⟨w, pa, ma, ea, us, hv, st, f, p, rfl, _⟩ := h
    rfl
  · obtain ⟨w, pa, ma, ea, us, hv, st, f, p, rfl, W, hp, k⟩ := h
    obtain ⟨dx, ob⟩ := W.ob
    obtain ⟨v, hv1, hv2⟩ := W.pv.get hp
    unfold isF at k
    refine ⟨_, (qb_cons (qs_set (i := 3) sc_HeapWalk_stands.nd rfl (Or.inl rfl) (qe_ix (q_ixL (K := K)) (qe_fld (K := K) (qv 0)) (qv 2)))
      (qb_one (qs_ret (qe_and (qe_cmpR q_notN (qv 3) qe_non (nomark _)) (qe_one (qe_cmpR q_eq (qe_ix (q_ixT (K := K)) (qv 3) qe_int) (qv 1) (nomark _))))))), ?_⟩
    rw [show L2.start ["self", "figure", "place", "pair"] [V.ref w, V.int (f : Nat), V.int (p : Nat)] = [some (V.ref w), some (V.int (f : Nat)), some (V.int (p : Nat)), none] from rfl]
    walk_at "fs_rd"
    refine ⟨w, t.c_HeapWalk, dx, _, _, rfl, ob, T.cl_HeapWalk, T.n_HeapWalk_pairs, hwF_at_pairs _ _ _ _ _, ?_⟩
    walk_at "fs_rd"
    refine in_ix (SqL.of W.tp) (v := v) (atI_nat hv1) ?_
    cases e : st.ps.getD p none with
    | none =>
      rw [e] at hv2 k
      have hv3 : v = .non := hv2
      subst hv3
      walk_at "fs_rd"
      rw [decide_eq_true (rfl : V.non = V.non)]
      walk_at "fs_rd"
      exact k
    | some z =>
      rw [e] at hv2 k
      obtain ⟨q, rfl, tq⟩ := hv2
      walk_at "fs_rd"
      rw [decide_eq_false (show ¬ V.ref q = V.non from fun z => by cases z)]
      walk_at "fs_rd"
      have e2 : decide (V.int ((z.1 : Nat) : Int) = V.int ((f : Nat) : Int)) = decide (z.1 = f) := decide_eq_decide.mpr ⟨fun h => by cases h; rfl, fun h => by rw [h]⟩
      rw [e2]
      exact k
noncomputable def spMark (C : Addr) : Sp := fun vs H Q _ => ∃ (w pa ma ea : Addr) (us : List V) (hv : V) (st : HW) (f : Nat), vs = [.ref w, .int (f : Nat)] ∧ HwAt C H w pa ma ea us hv st ∧ HwB st ∧ f < st.en.length ∧
  ∀ H', HwAt C H' w pa ma ea us hv (st.marked f) → (∀ b o, H b = some o → b ≠ ma → H' b = some o) → Q (.int (st.mark f : Nat)) H'
theorem ok_HeapWalk_mark_of (T : Tx K mg t) : FnOk P w K mg base CX0 2 t.f_HeapWalk_mark_of t.d_HeapWalk_mark_of ["self", "figure"] (spMark t.c_HeapWalk) := by
  refine T.F_HeapWalk_mark_of.okQ sc_HeapWalk_mark_of (fun vs H Q E h => ?_) (fun cdv A outer s H vs Q E hr h => ?_)
  · obtain ⟨w, pa, ma, ea, us, hv, st, f, rfl, _⟩ := h
    rfl
  · obtain ⟨w, pa, ma, ea, us, hv, st, f, rfl, W, B, hf, k⟩ := h
    obtain ⟨dx, ob⟩ := W.ob
    have hfm : f < st.mks.length := by rw [B.ml]; exact hf
    obtain ⟨b1, b2⟩ := B.mb f hf
    refine ⟨_, (qb_cons (qs_set (i := 2) sc_HeapWalk_mark_of.nd rfl (Or.inl rfl) (qe_ix (q_ixL (K := K)) (qe_fld (K := K) (qv 0)) (qv 1)))
      (qb_cons (qs_while PassesOwn.never (QW.qt (qw_and (qt_cmpR q_lt (qv 2) (qe_ix (q_ixL (K := K)) (qe_fld (K := K) (qv 0)) (qv 1)) (nomark _)) (qw_and1 (qt_val (qe_meth (qv 0) T.cl_HeapWalk T.M_HeapWalk_stands (ok_HeapWalk_stands T) (hr.mono (by decide)) T.b_HeapWalk_stands pass0 (qa_c (qv 1) (qa_c (qv 2) qa_nil))))))) (qb_one (qs_aug (i := 2) sc_HeapWalk_mark_of.nd rfl (Or.inl rfl) qe_int q_iadd)))
      (qb_cons (qs_sub (qv 2) (qe_fld (K := K) (qv 0)) (qv 1))
      (qb_one (qs_ret (qv 2)))))), ?_⟩
    rw [show L2.start ["self", "figure", "place"] [V.ref w, V.int (f : Nat)] = [some (V.ref w), some (V.int (f : Nat)), none] from rfl]
    walk_at "fs_rd"
    refine ⟨w, t.c_HeapWalk, dx, _, _, rfl, ob, T.cl_HeapWalk, T.n_HeapWalk_marks, hwF_at_marks _ _ _ _ _, ?_⟩
    walk_at "fs_rd"
    refine in_ix (SqL.of W.tm) (v := V.int (st.mks.getD f 0 : Nat)) (atI_nat (by unfold NV; rw [List.getElem?_map, getD_at hfm]; rfl)) ?_
    walk_at "fs_rd"
    refine ⟨fun mm σ H' => ∃ p : Nat, mm = st.en.getD f 0 - p ∧ p ≤ st.en.getD f 0 ∧ H' = H ∧ goF st.ps f (st.en.getD f 0) p = st.mark f ∧ σ = [some (V.ref w), some (V.int (f : Nat)), some (V.int (p : Nat))], ⟨_, _, rfl, b1, rfl, rfl, rfl⟩, ?_⟩
    rintro mm σ H' ⟨p, rfl, hp, rfl, e1, rfl⟩
    have fin : st.mark f = p → Q (.int (p : Nat)) (upd H' ma (.lst (NV (st.mks.set f p)))) := fun e => by
      have := k _ (by have := W.setM (st.mks.set f (st.mark f)); exact this) (fun b o e n => by rw [upd_ne n]; exact e)
      rw [e] at this
      exact this
    walk_at "fs_rd"
    refine ⟨w, t.c_HeapWalk, dx, _, _, rfl, ob, T.cl_HeapWalk, T.n_HeapWalk_ends, hwF_at_ends _ _ _ _ _, ?_⟩
    walk_at "fs_rd"
    refine in_ix (SqL.of W.te) (v := V.int (st.en.getD f 0 : Nat)) (atI_nat (by unfold NV; rw [List.getElem?_map, getD_at hf]; rfl)) ?_
    walk_at "fs_rd"
    refine in_split (fun g => ?_) (fun g => ?_)
    · walk_at "fs_rd"
      refine ⟨w, dx, _, rfl, ob, hwF_no _ _ _ _ _ (by decide +kernel) (by decide +kernel) (by decide +kernel) (by decide +kernel) (by decide +kernel), ?_⟩
      walk_at "fs_rd"
      refine ⟨w, pa, ma, ea, us, hv, st, f, p, rfl, W, by omega, ?_⟩
      cases hF : isF st.ps f p with
      | true =>
        walk_at "fs_rd"
        refine ⟨_, fun _ _ z => z, ?_⟩
        walk_at "fs_rd"
        refine ⟨st.en.getD f 0 - (p + 1), by omega, p + 1, rfl, by omega, rfl, ?_, rfl⟩
        rw [← goF_go (by omega) hF]; exact e1
      | false =>
        rw [goF_stop (fun z => by rw [hF] at z; cases z.2)] at e1
        walk_at "fs_rd"
        refine ⟨w, t.c_HeapWalk, dx, _, _, rfl, ob, T.cl_HeapWalk, T.n_HeapWalk_marks, hwF_at_marks _ _ _ _ _, ?_⟩
        walk_at "fs_rd"
        refine in_set W.tm (j := f) (ixN_of rfl (by rw [NV_len]; exact hfm)) ?_
        rw [NV_set]
        walk_at "fs_rd"
        exact fin e1.symm
    · rw [goF_stop (fun z => by omega)] at e1
      walk_at "fs_rd"
      refine ⟨w, t.c_HeapWalk, dx, _, _, rfl, ob, T.cl_HeapWalk, T.n_HeapWalk_marks, hwF_at_marks _ _ _ _ _, ?_⟩
      walk_at "fs_rd"
      refine in_set W.tm (j := f) (ixN_of rfl (by rw [NV_len]; exact hfm)) ?_
      rw [NV_set]
      walk_at "fs_rd"
      exact fin e1.symm
noncomputable def spTakeF (C : Addr) : Sp := fun vs H Q _ => ∃ (w pa ma ea : Addr) (us : List V) (hv : V) (st : HW), vs = [.ref w] ∧ HwAt C H w pa ma ea us hv st ∧ HwB st ∧ st.en.length ≤ 64 ∧
  ∀ (v : V) (us' : List V) (hv' : V) H', HwAt C H' w pa ma ea us' hv' (st.takeG st.en.length 0).2 → KpH w pa ma H H' → MvV H' v ((st.takeG st.en.length 0).1.map Mv.take) → Q v H'
theorem ok_HeapWalk_take_first (T : Tx K mg t) : FnOk P w K mg base CX0 3 t.f_HeapWalk_take_first t.d_HeapWalk_take_first ["self"] (spTakeF t.c_HeapWalk) := by
  refine T.F_HeapWalk_take_first.okQ sc_HeapWalk_take_first (fun vs H Q E h => ?_) (fun cdv A outer s H vs Q E hr h => ?_)
  · obtain ⟨w, pa, ma, ea, us, hv, st, rfl, _⟩ := h
    rfl
  · obtain ⟨w, pa, ma, ea, us, hv, st, rfl, W, B, hn, k⟩ := h
    obtain ⟨dx, ob⟩ := W.ob
    refine ⟨_, (qb_cons (qs_for PassesOwn.never rfl (qi_range1 rfl T.z_range (qa_c (qe_callB (qc_len (K := K)) (by rfl) T.z_len bt_len (qa_c (qe_fld (K := K) (qv 0)) qa_nil)) qa_nil)) (qg_name (i := 1) sc_HeapWalk_take_first.nd rfl (Or.inl rfl)) (qb_cons (qs_set (i := 2) sc_HeapWalk_take_first.nd rfl (Or.inl rfl) (qe_meth (qv 0) T.cl_HeapWalk T.M_HeapWalk_mark_of (ok_HeapWalk_mark_of T) (hr.mono (by decide)) T.b_HeapWalk_mark_of pass0 (qa_c (qv 1) qa_nil)))
      (qb_one (qs_if (qt_cmpR q_lt (qv 2) (qe_ix (q_ixL (K := K)) (qe_fld (K := K) (qv 0)) (qv 1)) (nomark _)) (qb_cons (qs_fld (K := K) (qv 0) (qe_ix (q_ixL (K := K)) (qe_fld (K := K) (qv 0)) (qv 2)))
      (qb_cons (qs_sub qe_non (qe_fld (K := K) (qv 0)) (qv 2))
      (qb_one (qs_ret (qe_tup (qa_c qe_str (qa_c (qv 2) qa_nil))))))) qb_nil))))
      (qb_one (qs_ret qe_non))), ?_⟩
    rw [show L2.start ["self", "figure", "place"] [V.ref w] = [some (V.ref w), none, none] from rfl]
    walk_at "fs_rd"
    refine ⟨w, t.c_HeapWalk, dx, _, _, rfl, ob, T.cl_HeapWalk, T.n_HeapWalk_ends, hwF_at_ends _ _ _ _ _, ?_⟩
    walk_at "fs_rd"
    refine in_lenL (SqL.of W.te) ?_
    rw [NV_len]
    walk_at "fs_rd"
    refine ⟨st.en.length, rfl, by omega, by omega, for_range (n := st.en.length) (fun i σ H' => ∃ s1 : HW, HwAt t.c_HeapWalk H' w pa ma ea us hv s1 ∧ HwB s1 ∧ s1.en = st.en ∧ s1.takeG (st.en.length - i) i = st.takeG st.en.length 0 ∧ KpH w pa ma H H' ∧ ∃ v1 v2, σ = [some (V.ref w), v1, v2]) ⟨st, W, B, rfl, rfl, KpH.refl _ _ _ _, _, _, rfl⟩ ?_ ?_⟩
    · rintro i σ H1 hi ⟨s1, W1, B1, e1, eG, K1, v1, v2, rfl⟩
      have hi1 : i < s1.en.length := by rw [e1]; exact hi
      obtain ⟨dx1, ob1⟩ := W1.ob
      have ei : (0 : Int) + (i : Int) = ((i : Nat) : Int) := by omega
      walk_at "fs_rd"
      refine ⟨w, dx1, _, rfl, ob1, hwF_no _ _ _ _ _ (by decide +kernel) (by decide +kernel) (by decide +kernel) (by decide +kernel) (by decide +kernel), ?_⟩
      walk_at "fs_rd"
      refine ⟨w, pa, ma, ea, us, hv, s1, i, by rw [ei]; rfl, W1, B1, hi1, fun H2 W2 kp2 => ?_⟩
      have K2 : KpH w pa ma H H2 := fun b o e x y z => kp2 _ _ (K1 b o e x y z) z
      obtain ⟨dx2, ob2⟩ := W2.ob
      have hge : st.en.length - i = (st.en.length - (i + 1)) + 1 := by omega
      rw [hge, HW.takeG] at eG
      walk_at "fs_rd"
      refine ⟨w, t.c_HeapWalk, dx2, _, _, rfl, ob2, T.cl_HeapWalk, T.n_HeapWalk_ends, hwF_at_ends _ _ _ _ _, ?_⟩
      walk_at "fs_rd"
      refine in_ix (SqL.of W2.te) (v := V.int (s1.en.getD i 0 : Nat)) (by rw [ei]; exact atI_nat (by unfold NV; rw [List.getElem?_map]; show (s1.en[i]?).map _ = _; rw [getD_at hi1]; rfl)) ?_
      walk_at "fs_rd"
      refine in_split (fun g => ?_) (fun g => ?_)
      · have hg : s1.mark i < s1.en.getD i 0 := by omega
        rw [if_pos hg] at eG
        have hpl : s1.mark i < s1.ps.length := Nat.lt_of_lt_of_le hg (B1.mb i hi1).2
        obtain ⟨v, hv1, hv2⟩ := W2.pv.get (p := s1.mark i) hpl
        walk_at "fs_rd"
        refine ⟨w, t.c_HeapWalk, dx2, _, _, rfl, ob2, T.cl_HeapWalk, T.n_HeapWalk_pairs, hwF_at_pairs _ _ _ _ _, ?_⟩
        walk_at "fs_rd"
        refine in_ix (SqL.of W2.tp) (v := v) (atI_nat hv1) ?_
        walk_at "fs_rd"
        refine ⟨w, t.c_HeapWalk, dx2, _, rfl, ob2, T.cl_HeapWalk, T.n_HeapWalk_held, by show 5 < 1000; decide, ?_⟩
        rw [hwF_held]
        have W3 := W2.setW (dx := dx2) (n := (s1.marked i).pt) hv2
        have K3 := K2.trans (KpH.upW W2 (o := .ins t.c_HeapWalk dx2 (hwF pa v ma ea ((s1.marked i).pt : Nat))))
        generalize upd H2 w (.ins t.c_HeapWalk dx2 (hwF pa v ma ea ((s1.marked i).pt : Nat))) = H3 at W3 K3
        obtain ⟨dx3, ob3⟩ := W3.ob
        walk_at "fs_rd"
        refine ⟨w, t.c_HeapWalk, dx3, _, _, rfl, ob3, T.cl_HeapWalk, T.n_HeapWalk_pairs, hwF_at_pairs _ _ _ _ _, ?_⟩
        walk_at "fs_rd"
        refine in_set W3.tp (j := s1.mark i) (ixN_of rfl (by rw [W3.pv.1]; exact hpl)) ?_
        have W4 := W3.setP (W3.pv.set (p := s1.mark i) (v := .non) (o := none) rfl)
        have K4 := K3.trans (KpH.upP W3 (o := .lst (us.set (s1.mark i) .non)))
        generalize upd H3 pa (.lst (us.set (s1.mark i) .non)) = H4 at W4 K4
        walk_at "fs_rd"
        refine ⟨three (by simp), fun q hq => ?_⟩
        have s5 := (Same.refl H4).new (o := .tup [V.str "take", V.int (s1.mark i : Nat)]) hq
        refine k (.ref q) (us.set (s1.mark i) .non) v _ ?_ (K4.trans (KpH.of s5)) ?_
        · rw [← eG]
          exact W4.same s5
        · rw [← eG]
          exact ⟨q, rfl, upd_same⟩
      · have hg : ¬ s1.mark i < s1.en.getD i 0 := by omega
        rw [if_neg hg] at eG
        walk_at "fs_rd"
        exact ⟨s1.marked i, W2, B1.marked hi1, e1, eG, K2, _, _, rfl⟩
    · rintro σ H1 ⟨s1, W1, B1, e1, eG, K1, v1, v2, rfl⟩
      rw [Nat.sub_self, HW.takeG] at eG
      walk_at "fs_rd"
      exact k .non us hv H1 (by rw [← eG]; exact W1) K1 (by rw [← eG]; exact rfl)
noncomputable def spPutH (C : Addr) : Sp := fun vs H Q _ => ∃ (w pa ma ea : Addr) (us : List V) (hv : V) (st : HW) (z : Nat × Nat), vs = [.ref w] ∧ HwAt C H w pa ma ea us hv st ∧ HwB st ∧ st.hd = some z ∧ z.1 < st.en.length ∧ st.mark z.1 < st.ps.length ∧
  ∀ (v : V) (us' : List V) (hv' : V) H', HwAt C H' w pa ma ea us' hv' (st.putG z) → KpH w pa ma H H' → MvV H' v (some (match st.ps.getD (st.mark z.1) none with | none => Mv.lay (st.mark z.1) | some _ => Mv.change (st.mark z.1))) → Q v H'
theorem ok_HeapWalk_put_held (T : Tx K mg t) : FnOk P w K mg base CX0 3 t.f_HeapWalk_put_held t.d_HeapWalk_put_held ["self"] (spPutH t.c_HeapWalk) := by
  refine T.F_HeapWalk_put_held.okQ sc_HeapWalk_put_held (fun vs H Q E h => ?_) (fun cdv A outer s H vs Q E hr h => ?_)
  · obtain ⟨w, pa, ma, ea, us, hv, st, z, rfl, _⟩ := h
    rfl
  · obtain ⟨w, pa, ma, ea, us, hv, st, z, rfl, W, B, hz, hf, hpl, k⟩ := h
    obtain ⟨dx, ob⟩ := W.ob
    have hhv := W.hh
    rw [hz] at hhv
    obtain ⟨q0, rfl, tq0⟩ := hhv
    refine ⟨_, (qb_cons (qs_set (i := 1) sc_HeapWalk_put_held.nd rfl (Or.inl rfl) (qe_ix (q_ixT (K := K)) (qe_fld (K := K) (qv 0)) qe_int))
      (qb_cons (qs_set (i := 2) sc_HeapWalk_put_held.nd rfl (Or.inl rfl) (qe_meth (qv 0) T.cl_HeapWalk T.M_HeapWalk_mark_of (ok_HeapWalk_mark_of T) (hr.mono (by decide)) T.b_HeapWalk_mark_of pass0 (qa_c (qv 1) qa_nil)))
      (qb_cons (qs_set (i := 3) sc_HeapWalk_put_held.nd rfl (Or.inl rfl) (qe_ix (q_ixL (K := K)) (qe_fld (K := K) (qv 0)) (qv 2)))
      (qb_cons (qs_sub (qe_fld (K := K) (qv 0)) (qe_fld (K := K) (qv 0)) (qv 2))
      (qb_cons (qs_fld (K := K) (qv 0) (qv 3))
      (qb_cons (qs_augSL (K := K) (qe_fld (K := K) (qv 0)) (qv 1) qe_int)
      (qb_cons (qs_fldaug (K := K) (qv 0) qe_int q_iadd)
      (qb_cons (qs_if (qt_cmpR q_isN (qv 3) qe_non (nomark _)) (qb_one (qs_ret (qe_tup (qa_c qe_str (qa_c (qv 2) qa_nil))))) qb_nil)
      (qb_one (qs_ret (qe_tup (qa_c qe_str (qa_c (qv 2) qa_nil))))))))))))), ?_⟩
    rw [show L2.start ["self", "figure", "place", "there"] [V.ref w] = [some (V.ref w), none, none, none] from rfl]
    walk_at "fs_rd"
    refine ⟨w, t.c_HeapWalk, dx, _, _, rfl, ob, T.cl_HeapWalk, T.n_HeapWalk_held, hwF_at_held _ _ _ _ _, ?_⟩
    walk_at "fs_rd"
    refine ⟨w, dx, _, rfl, ob, hwF_no _ _ _ _ _ (by decide +kernel) (by decide +kernel) (by decide +kernel) (by decide +kernel) (by decide +kernel), ?_⟩
    walk_at "fs_rd"
    refine ⟨w, pa, ma, ea, us, .ref q0, st, z.1, rfl, W, B, hf, fun H2 W2 kp2 => ?_⟩
    have K2 : KpH w pa ma H H2 := fun b o e x y z => kp2 _ _ e z
    obtain ⟨dx2, ob2⟩ := W2.ob
    obtain ⟨v, hv1, hv2⟩ := W2.pv.get (p := st.mark z.1) hpl
    walk_at "fs_rd"
    refine ⟨w, t.c_HeapWalk, dx2, _, _, rfl, ob2, T.cl_HeapWalk, T.n_HeapWalk_pairs, hwF_at_pairs _ _ _ _ _, ?_⟩
    walk_at "fs_rd"
    refine in_ix (SqL.of W2.tp) (v := v) (atI_nat hv1) ?_
    walk_at "fs_rd"
    refine ⟨w, t.c_HeapWalk, dx2, _, _, rfl, ob2, T.cl_HeapWalk, T.n_HeapWalk_held, hwF_at_held _ _ _ _ _, ?_⟩
    walk_at "fs_rd"
    refine ⟨w, t.c_HeapWalk, dx2, _, _, rfl, ob2, T.cl_HeapWalk, T.n_HeapWalk_pairs, hwF_at_pairs _ _ _ _ _, ?_⟩
    walk_at "fs_rd"
    refine in_set W2.tp (j := st.mark z.1) (ixN_of rfl (by rw [W2.pv.1]; exact hpl)) ?_
    have hq2 : PrV H2 (.ref q0) (some z) := by have := W2.hh; rw [show (st.marked z.1).hd = some z from hz] at this; exact this
    have W3 := W2.setP (W2.pv.set (p := st.mark z.1) (v := .ref q0) (o := some z) hq2)
    have K3 := K2.trans (KpH.upP W2 (o := .lst (us.set (st.mark z.1) (.ref q0))))
    have hv3 : PrV (upd H2 pa (.lst (us.set (st.mark z.1) (.ref q0)))) v (st.ps.getD (st.mark z.1) none) := hv2.kp W2 (KpH.upP W2)
    generalize upd H2 pa (.lst (us.set (st.mark z.1) (.ref q0))) = H3 at W3 K3 hv3
    obtain ⟨dx3, ob3⟩ := W3.ob
    walk_at "fs_rd"
    refine ⟨w, t.c_HeapWalk, dx3, _, rfl, ob3, T.cl_HeapWalk, T.n_HeapWalk_held, by show 5 < 1000; decide, ?_⟩
    rw [hwF_held]
    have W4 := W3.setW (dx := dx3) (n := st.pt) hv3
    have K4 := K3.trans (KpH.upW W3 (o := .ins t.c_HeapWalk dx3 (hwF pa v ma ea (st.pt : Nat))))
    generalize eH4 : upd H3 w (.ins t.c_HeapWalk dx3 (hwF pa v ma ea (st.pt : Nat))) = H4 at W4 K4
    rw [show upd H3 w (.ins t.c_HeapWalk dx3 (hwF pa v ma ea (({ st.marked z.1 with ps := (st.marked z.1).ps.set (st.mark z.1) (some z) } : HW).pt : Nat))) = H4 from eH4]
    clear eH4
    obtain ⟨dx4, ob4⟩ := W4.ob
    have hfm : z.1 < (st.mks.set z.1 (st.mark z.1)).length := by rw [List.length_set, B.ml]; exact hf
    have hfm0 : z.1 < st.mks.length := by rw [B.ml]; exact hf
    walk_at "fs_rd"
    refine ⟨w, t.c_HeapWalk, dx4, _, _, rfl, ob4, T.cl_HeapWalk, T.n_HeapWalk_marks, hwF_at_marks _ _ _ _ _, ?_⟩
    walk_at "fs_rd"
    refine ⟨ma, _, _, _, rfl, rfl, SqL.of W4.tm, by omega, NV_get (o := st.mark z.1) (by show (st.mks.set z.1 (st.mark z.1))[z.1]? = _; rw [List.getElem?_set_self hfm0]), ?_⟩
    walk_at "fs_rd"
    refine ⟨_, _, rfl, rfl, ?_⟩
    refine in_set W4.tm (ixN_of rfl (by rw [NV_len]; exact hfm)) ?_
    dsimp only
    have eM : (NV (st.mks.set z.1 (st.mark z.1))).set z.1 (V.int ((st.mark z.1 : Int) + 1)) = NV (st.mks.set z.1 (st.mark z.1 + 1)) := by
      rw [show ((st.mark z.1 : Int) + 1) = ((st.mark z.1 + 1 : Nat) : Int) by omega, NV_set, List.set_set]
    have W5 := W4.setM (st.mks.set z.1 (st.mark z.1 + 1))
    have K5 := K4.trans (KpH.upM W4 (o := .lst (NV (st.mks.set z.1 (st.mark z.1 + 1)))))
    have eH5 : upd H4 ma (.lst ((NV (st.mks.set z.1 (st.mark z.1))).set z.1 (V.int ((st.mark z.1 : Int) + 1)))) = upd H4 ma (.lst (NV (st.mks.set z.1 (st.mark z.1 + 1)))) := by rw [eM]
    generalize upd H4 ma (.lst (NV (st.mks.set z.1 (st.mark z.1 + 1)))) = H5 at W5 K5 eH5
    rw [show upd H4 ma (.lst ((NV (st.marked z.1).mks).set z.1 (V.int ((st.mark z.1 : Int) + 1)))) = H5 from eH5]
    clear eH5
    obtain ⟨dx5, ob5⟩ := W5.ob
    walk_at "fs_rd"
    refine ⟨w, t.c_HeapWalk, dx5, _, _, rfl, ob5, T.cl_HeapWalk, T.n_HeapWalk_many_puts, hwF_at_puts _ _ _ _ _, ?_⟩
    walk_at "fs_rd"
    refine ⟨dx5, _, ob5, by show 5 < 1000; decide, ?_⟩
    rw [hwF_puts]
    have W6 := W5.setW (dx := dx5) (n := st.pt + 1) W5.hh
    have K6 := K5.trans (KpH.upW W5 (o := .ins t.c_HeapWalk dx5 (hwF pa v ma ea ((st.pt + 1 : Nat) : Int))))
    have eH6 : upd H5 w (.ins t.c_HeapWalk dx5 (hwF pa v ma ea ((st.pt : Int) + 1))) = upd H5 w (.ins t.c_HeapWalk dx5 (hwF pa v ma ea ((st.pt + 1 : Nat) : Int))) := by rw [show ((st.pt : Int) + 1) = ((st.pt + 1 : Nat) : Int) by omega]
    have hv6 := W6.hh
    generalize upd H5 w (.ins t.c_HeapWalk dx5 (hwF pa v ma ea ((st.pt + 1 : Nat) : Int))) = H6 at W6 K6 eH6 hv6
    have hv6' : PrV H6 v (st.ps.getD (st.mark z.1) none) := hv6
    have k6 : ∀ (u : V) H', Same H6 H' → MvV H' u (some (match st.ps.getD (st.mark z.1) none with | none => Mv.lay (st.mark z.1) | some _ => Mv.change (st.mark z.1))) → Q u H' := fun u H' s m => k u _ _ H' (W6.same s) (K6.trans (KpH.of s)) m
    rw [show upd H5 w _ = H6 from eH6]
    clear eH6 W5 W4 W3 W2 k
    cases e : st.ps.getD (st.mark z.1) none with
    | none =>
      rw [e] at hv6' k6
      have hv3 : v = .non := hv6'
      walk_at "fs_rd"
      rw [decide_eq_true hv3]
      walk_at "fs_rd"
      refine ⟨three (by simp), fun q hq => ?_⟩
      exact k6 _ _ ((Same.refl H6).new hq) ⟨q, rfl, upd_same⟩
    | some y =>
      rw [e] at hv6' k6
      obtain ⟨q1, hv3, _⟩ := hv6'
      walk_at "fs_rd"
      rw [decide_eq_false (show ¬ v = V.non from fun z => by rw [hv3] at z; cases z)]
      walk_at "fs_rd"
      refine ⟨three (by simp), fun q hq => ?_⟩
      exact k6 _ _ ((Same.refl H6).new hq) ⟨q, rfl, upd_same⟩

noncomputable def spStep (C : Addr) : Sp := fun vs H Q _ => ∃ (w pa ma ea : Addr) (us : List V) (hv : V) (st : HW) (qs : List (Nat × Nat)) (b : Nat), vs = [.ref w] ∧ HwAt C H w pa ma ea us hv st ∧ HwOk qs b st ∧ (∀ q ∈ qs, q.1 < b) ∧ b ≤ 64 ∧
  ∀ (v : V) (us' : List V) (hv' : V) H', HwAt C H' w pa ma ea us' hv' st.step.2 → KpH w pa ma H H' → MvV H' v st.step.1 → Q v H'
theorem ok_HeapWalk_step (T : Tx K mg t) : FnOk P w K mg base CX0 4 t.f_HeapWalk_step t.d_HeapWalk_step ["self"] (spStep t.c_HeapWalk) := by
  refine T.F_HeapWalk_step.okQ sc_HeapWalk_step (fun vs H Q E h => ?_) (fun cdv A outer s H vs Q E hr h => ?_)
  · obtain ⟨w, pa, ma, ea, us, hv, st, qs, b, rfl, _⟩ := h
    rfl
  · obtain ⟨w, pa, ma, ea, us, hv, st, qs, b, rfl, W, O, hq, hb, k⟩ := h
    obtain ⟨dx, ob⟩ := W.ob
    have hhv := W.hh
    refine ⟨_, (qb_cons (qs_if (qt_cmpR q_isN (qe_fld (K := K) (qv 0)) qe_non (nomark _)) (qb_one (qs_ret (qe_meth0 (qv 0) T.cl_HeapWalk T.M_HeapWalk_take_first (ok_HeapWalk_take_first T) (hr.mono (by decide)) T.b_HeapWalk_take_first pass0 ))) qb_nil)
      (qb_one (qs_ret (qe_meth0 (qv 0) T.cl_HeapWalk T.M_HeapWalk_put_held (ok_HeapWalk_put_held T) (hr.mono (by decide)) T.b_HeapWalk_put_held pass0 )))), ?_⟩
    rw [show L2.start ["self"] [V.ref w] = [some (V.ref w)] from rfl]
    walk_at "fs_rd"
    refine ⟨w, t.c_HeapWalk, dx, _, _, rfl, ob, T.cl_HeapWalk, T.n_HeapWalk_held, hwF_at_held _ _ _ _ _, ?_⟩
    cases e : st.hd with
    | none =>
      have es : st.step = ((st.takeG st.en.length 0).1.map Mv.take, (st.takeG st.en.length 0).2) := by unfold HW.step; rw [e]
      rw [es] at k
      rw [e] at hhv
      have hv3 : hv = .non := hhv
      walk_at "fs_rd"
      rw [decide_eq_true hv3]
      walk_at "fs_rd"
      refine ⟨w, dx, _, rfl, ob, hwF_no _ _ _ _ _ (by decide +kernel) (by decide +kernel) (by decide +kernel) (by decide +kernel) (by decide +kernel), ?_⟩
      exact ⟨w, pa, ma, ea, us, hv, st, rfl, W, O.bd, by rw [O.el]; exact hb, k⟩
    | some z =>
      have es : st.step = (some (match st.ps.getD (st.mark z.1) none with | none => Mv.lay (st.mark z.1) | some _ => Mv.change (st.mark z.1)), st.putG z) := by first | (unfold HW.step; rw [e]; done) | (unfold HW.step; rw [e]; rfl)
      rw [es] at k
      rw [e] at hhv
      obtain ⟨q1, hv3, _⟩ := hhv
      obtain ⟨h1, h2, _⟩ := putG_spec O hq e
      walk_at "fs_rd"
      rw [decide_eq_false (show ¬ hv = V.non from fun z => by rw [hv3] at z; cases z)]
      walk_at "fs_rd"
      refine ⟨w, dx, _, rfl, ob, hwF_no _ _ _ _ _ (by decide +kernel) (by decide +kernel) (by decide +kernel) (by decide +kernel) (by decide +kernel), ?_⟩
      exact ⟨w, pa, ma, ea, us, hv, st, z, rfl, W, O.bd, e, by rw [O.el]; exact h1, h2, k⟩
noncomputable def spPuts (C : Addr) : Sp := fun vs H Q _ => ∃ (w pa ma ea : Addr) (us : List V) (hv : V) (st : HW), vs = [.ref w] ∧ HwAt C H w pa ma ea us hv st ∧ Q (.int (st.pt : Nat)) H
theorem ok_HeapWalk_puts (T : Tx K mg t) : FnOk P w K mg base CX0 1 t.f_HeapWalk_puts t.d_HeapWalk_puts ["self"] (spPuts t.c_HeapWalk) := by
  refine T.F_HeapWalk_puts.okQ sc_HeapWalk_puts (fun vs H Q E h => ?_) (fun cdv A outer s H vs Q E hr h => ?_)
  · obtain ⟨w, pa, ma, ea, us, hv, st, rfl, _⟩ := h
    rfl
  · obtain ⟨w, pa, ma, ea, us, hv, st, rfl, W, k⟩ := h
    obtain ⟨dx, ob⟩ := W.ob
    refine ⟨_, (qb_one (qs_ret (qe_fld (K := K) (qv 0)))), ?_⟩
    rw [show L2.start ["self"] [V.ref w] = [some (V.ref w)] from rfl]
    walk_at "fs_rd"
    exact ⟨w, t.c_HeapWalk, dx, _, _, rfl, ob, T.cl_HeapWalk, T.n_HeapWalk_many_puts, hwF_at_puts _ _ _ _ _, k⟩
noncomputable def spHand (C : Addr) : Sp := fun vs H Q _ => ∃ (w pa ma ea : Addr) (us : List V) (hv : V) (st : HW), vs = [.ref w] ∧ HwAt C H w pa ma ea us hv st ∧ ∀ v H', Same H H' → PrV H' v st.hd → Q v H'
theorem ok_HeapWalk_hand (T : Tx K mg t) : FnOk P w K mg base CX0 2 t.f_HeapWalk_hand t.d_HeapWalk_hand ["self"] (spHand t.c_HeapWalk) := by
  refine T.F_HeapWalk_hand.okQ sc_HeapWalk_hand (fun vs H Q E h => ?_) (fun cdv A outer s H vs Q E hr h => ?_)
  · obtain ⟨w, pa, ma, ea, us, hv, st, rfl, _⟩ := h
    rfl
  · obtain ⟨w, pa, ma, ea, us, hv, st, rfl, W, k⟩ := h
    obtain ⟨dx, ob⟩ := W.ob
    refine ⟨_, (qb_one (qs_ret (qe_call (ok_own_copy T) (hr.mono (by decide)) rfl T.m_own_copy T.F_own_copy.kp T.b_own_copy pass0 (qa_c (qe_fld (K := K) (qv 0)) qa_nil)))), ?_⟩
    rw [show L2.start ["self"] [V.ref w] = [some (V.ref w)] from rfl]
    walk_at "fs_rd"
    refine ⟨w, t.c_HeapWalk, dx, _, _, rfl, ob, T.cl_HeapWalk, T.n_HeapWalk_held, hwF_at_held _ _ _ _ _, ?_⟩
    walk_at "fs_rd"
    exact ⟨hv, rfl, W.hh.th, fun y H1 s1 e => k y H1 s1 ((W.hh.same s1).copy e)⟩
noncomputable def spRowH (C : Addr) : Sp := fun vs H Q _ => ∃ (w pa ma ea : Addr) (us : List V) (hv : V) (st : HW), vs = [.ref w] ∧ HwAt C H w pa ma ea us hv st ∧ st.ps.length ≤ 200 ∧ ∀ (l : Addr) (ys : List V) H', H l = none → Same H H' → H' l = some (.lst ys) → PrsAt H' ys st.ps → Q (.ref l) H'
theorem ok_HeapWalk_row (T : Tx K mg t) : FnOk P w K mg base CX0 2 t.f_HeapWalk_row t.d_HeapWalk_row ["self"] (spRowH t.c_HeapWalk) := by
  refine T.F_HeapWalk_row.okQ sc_HeapWalk_row (fun vs H Q E h => ?_) (fun cdv A outer s H vs Q E hr h => ?_)
  · obtain ⟨w, pa, ma, ea, us, hv, st, rfl, _⟩ := h
    rfl
  · obtain ⟨w, pa, ma, ea, us, hv, st, rfl, W, hn, k⟩ := h
    obtain ⟨dx, ob⟩ := W.ob
    have hul : us.length = st.ps.length := W.pv.1
    refine ⟨_, (qb_one (qs_ret (qe_comp (N := ["pair"]) (tgs := ["pair"]) (frs := []) (ix := []) ⟨rfl, by decide +kernel, rfl, by decide +kernel, rfl, rfl, True.intro, True.intro, rfl⟩ rfl (qi_list (K := K) (qe_fld (K := K) (qv 0))) (fun _ _ _ _ => (qg_name (i := 0) (by show List.Nodup (["pair"] : List Str); decide +kernel) rfl (Or.inl rfl))) (fun _ _ _ _ => (qe_call (ok_own_copy T) (hr.mono (by decide)) rfl T.m_own_copy T.F_own_copy.kp T.b_own_copy pass0 (qa_c (qv 0) qa_nil)))))), ?_⟩
    rw [show L2.start ["self"] [V.ref w] = [some (V.ref w)] from rfl]
    walk_at "fs_rd"
    refine ⟨w, t.c_HeapWalk, dx, _, _, rfl, ob, T.cl_HeapWalk, T.n_HeapWalk_pairs, hwF_at_pairs _ _ _ _ _, ?_⟩
    walk_at "fs_rd"
    refine ⟨pa, rfl, ⟨_, SqL.of W.tp⟩, comp_lst (a := pa) (vs := us) (fun i ys σ H' => Same H H' ∧ PrsAt H' ys (st.ps.take i) ∧ i ≤ us.length ∧ ∃ v, σ = [v]) (small1000 (by omega)) (fun i ys σ H' h => by rw [h.2.1.1, List.length_take]; omega) (fun i ys σ H' h => SqL.of (h.1 _ _ W.tp)) ⟨Same.refl _, ⟨rfl, fun i v o a => by simp at a⟩, Nat.zero_le _, none, rfl⟩ ?_ ?_⟩
    · rintro i ys σ H1 x hx ⟨s1, P1, hi, v, rfl⟩
      have hil := get_lt hx
      have hio : i < st.ps.length := by omega
      have eo : st.ps[i]? = some st.ps[i] := List.getElem?_eq_getElem hio
      have hpx := (W.pv.2 i x _ hx eo).same s1
      walk_at "fs_rd"
      refine ⟨x, rfl, hpx.th, fun y H2 s2 e => ?_⟩
      refine Nx.mk hil ⟨s1.trans s2, ?_, hil, _, rfl⟩
      rw [List.take_add_one, eo]
      exact (P1.same s2).snoc ((hpx.same s2).copy e)
    · rintro ys σ H1 ⟨s1, P1, hi, v, rfl⟩ l hl
      rw [List.take_of_length_le (by omega)] at P1
      exact k l ys _ (s1.free hl) (s1.new hl) upd_same (P1.same ((Same.refl _).new hl))
noncomputable def PsL (H : Hp) (rs : List Addr) (qs : List (Nat × Nat)) : Prop := rs.length = qs.length ∧ ∀ (i : Nat) a z, rs[i]? = some a → qs[i]? = some z → H a = some (.lst [.int (z.1 : Nat), .int (z.2 : Nat)])
theorem psL_same {H H1 : Hp} {rs : List Addr} {qs : List (Nat × Nat)} (h : PsL H rs qs) (s : Same H H1) : PsL H1 rs qs := ⟨h.1, fun i a z x y => s _ _ (h.2 i a z x y)⟩
noncomputable def PrsF (H : Hp) (a : Addr) (rs : List Addr) (qs : List (Nat × Nat)) : Prop := (H a = some (.lst (rs.map V.ref)) ∧ PsT H rs qs) ∨ (H a = some (.tup (rs.map V.ref)) ∧ PsT H rs qs) ∨ (H a = some (.lst (rs.map V.ref)) ∧ PsL H rs qs)
theorem prsF_len {H : Hp} {a : Addr} {rs : List Addr} {qs : List (Nat × Nat)} (h : PrsF H a rs qs) : rs.length = qs.length := h.elim (fun h => h.2.1) fun h => h.elim (fun h => h.2.1) fun h => h.2.1
theorem prsF_same {H H1 : Hp} {a : Addr} {rs : List Addr} {qs : List (Nat × Nat)} (h : PrsF H a rs qs) (s : Same H H1) : PrsF H1 a rs qs := h.elim (fun h => .inl ⟨s _ _ h.1, h.2.same s⟩) fun h => h.elim (fun h => .inr (.inl ⟨s _ _ h.1, h.2.same s⟩)) fun h => .inr (.inr ⟨s _ _ h.1, psL_same h.2 s⟩)
noncomputable def spInitH (C : Addr) : Sp := fun vs H Q _ => ∃ (w dx a : Addr) (rs : List Addr) (qs : List (Nat × Nat)) (b : Nat), vs = [.ref w, .ref a, .int (b : Nat)] ∧ H w = some (.ins C dx []) ∧ PrsF H a rs qs ∧ qs.length ≤ 200 ∧ (∀ q ∈ qs, q.1 < b) ∧ b ≤ 64 ∧
  ∀ (pa ma ea : Addr) (us : List V) (H' : Hp), H pa = none → H ma = none → H ea = none → HwAt C H' w pa ma ea us .non (hw0 qs b) → (∀ b o, H b = some o → b ≠ w → H' b = some o) → Q .non H'
theorem fst_take {qs : List (Nat × Nat)} {i : Nat} {z : Nat × Nat} (h : qs[i]? = some z) : (qs.map Prod.fst).take (i + 1) = (qs.map Prod.fst).take i ++ [z.1] := by
  rw [List.take_add_one, List.getElem?_map, h]; rfl
theorem ends_take {os : List Nat} {b i : Nat} (h : i < b) : ((List.range b).map fun f => lessN os (f + 1)).take (i + 1) = ((List.range b).map fun f => lessN os (f + 1)).take i ++ [lessN os (i + 1)] := by
  rw [List.take_add_one, List.getElem?_map, List.getElem?_range h]; rfl
theorem ok_HeapWalk___init__ (T : Tx K mg t) : FnOk P w K mg base CX0 2 t.f_HeapWalk___init__ t.d_HeapWalk___init__ ["self", "row", "base"] (spInitH t.c_HeapWalk) := by
  refine T.F_HeapWalk___init__.okQ sc_HeapWalk___init__ (fun vs H Q E h => ?_) (fun cdv A outer s H vs Q E hr h => ?_)
  · obtain ⟨w, dx, a, rs, qs, b, rfl, _⟩ := h
    rfl
  · obtain ⟨w, dx, a, rs, qs, b, rfl, hw, hF, hn, hqb, hb, k⟩ := h
    have hrl : rs.length = qs.length := prsF_len hF
    apply via3 (α := Addr) (β := Addr) (S := fun pa oa H5 => Same H H5 ∧ H pa = none ∧ H5 oa = some (.lst (NV (cnt (qs.map Prod.fst) b))) ∧ ∃ ys, H5 pa = some (.lst ys) ∧ PrsAt H5 ys (qs.map some))
    case hA =>
      intro key
      rcases id hF with ⟨ta, R⟩ | ⟨ta, R⟩ | ⟨ta, R⟩
      · refine ⟨_, (qb_cons (qs_set (i := 3) sc_HeapWalk___init__.nd rfl (Or.inl rfl) (qe_call (ok_counts T) (hr.mono (by decide)) rfl T.m_counts T.F_counts.kp T.b_counts pass0 (qa_c (qe_comp (N := ["figure", "thing"]) (tgs := ["figure", "thing"]) (frs := []) (ix := []) ⟨rfl, by decide +kernel, rfl, by decide +kernel, rfl, rfl, True.intro, True.intro, rfl⟩ rfl (qi_list (K := K) (qv 1)) (fun _ _ _ _ => (qg_tup (K := K) (n := 2) rfl (qgs_cons (qg_name (i := 0) (by show List.Nodup (["figure", "thing"] : List Str); decide +kernel) rfl (Or.inl rfl)) (qgs_cons (qg_name (i := 1) (by show List.Nodup (["figure", "thing"] : List Str); decide +kernel) rfl (Or.inl rfl)) qgs_nil)))) (fun _ _ _ _ => (qv 0))) (qa_c (qv 2) qa_nil))))
      (qb_cons (qs_fld (K := K) (qv 0) (qe_comp (N := ["figure", "thing"]) (tgs := ["figure", "thing"]) (frs := []) (ix := []) ⟨rfl, by decide +kernel, rfl, by decide +kernel, rfl, rfl, True.intro, True.intro, rfl⟩ rfl (qi_list (K := K) (qv 1)) (fun _ _ _ _ => (qg_tup (K := K) (n := 2) rfl (qgs_cons (qg_name (i := 0) (by show List.Nodup (["figure", "thing"] : List Str); decide +kernel) rfl (Or.inl rfl)) (qgs_cons (qg_name (i := 1) (by show List.Nodup (["figure", "thing"] : List Str); decide +kernel) rfl (Or.inl rfl)) qgs_nil)))) (fun _ _ _ _ => (qe_tup (qa_c (qv 0) (qa_c (qe_call (ok_own_copy T) (hr.mono (by decide)) rfl T.m_own_copy T.F_own_copy.kp T.b_own_copy pass0 (qa_c (qv 1) qa_nil)) qa_nil))))))
      (qb_cons (qs_fld (K := K) (qv 0) qe_non)
      (qb_cons (qs_fld (K := K) (qv 0) (qe_call (ok_begins T) (hr.mono (by decide)) rfl T.m_begins T.F_begins.kp T.b_begins pass0 (qa_c (qv 3) qa_nil)))
      (qb_cons (qs_fld (K := K) (qv 0) (qe_comp (N := ["begin", "many"]) (tgs := ["begin", "many"]) (frs := []) (ix := []) ⟨rfl, by decide +kernel, rfl, by decide +kernel, rfl, rfl, True.intro, True.intro, rfl⟩ rfl (qi_zip (K := K) rfl T.z_zip (qa_c (qe_call (ok_begins T) (hr.mono (by decide)) rfl T.m_begins T.F_begins.kp T.b_begins pass0 (qa_c (qv 3) qa_nil)) (qa_c (qv 3) qa_nil))) (fun _ _ _ _ => (qg_tup (K := K) (n := 2) rfl (qgs_cons (qg_name (i := 0) (by show List.Nodup (["begin", "many"] : List Str); decide +kernel) rfl (Or.inl rfl)) (qgs_cons (qg_name (i := 1) (by show List.Nodup (["begin", "many"] : List Str); decide +kernel) rfl (Or.inl rfl)) qgs_nil)))) (fun _ _ _ _ => (qe_op q_add (qv 0) (qv 1)))))
      (qb_one (qs_fld (K := K) (qv 0) qe_int))))))), ?_⟩
        rw [show L2.start ["self", "row", "base", "often"] [V.ref w, V.ref a, V.int (b : Nat)] = [some (V.ref w), some (V.ref a), some (V.int (b : Nat)), none] from rfl]
        walk_at "fs_rd"
        refine ⟨a, rfl, ⟨_, SqL.of ta⟩, comp_lst (a := a) (vs := rs.map V.ref) (fun i ys σ H' => H = H' ∧ ys = NV ((qs.map Prod.fst).take i) ∧ i ≤ rs.length ∧ ∃ v v2, σ = [v, v2]) (by rw [List.length_map]; exact small1000 (by omega)) (fun i ys σ H' h => by rw [h.2.1, NV_len, List.length_take, List.length_map]; omega) (fun i ys σ H' h => by rw [← h.1]; exact SqL.of ta) ⟨rfl, rfl, Nat.zero_le _, none, none, rfl⟩ ?_ ?_⟩
        · rintro i ys σ H1 x hx ⟨rfl, rfl, hi, v, v2, rfl⟩
          have hil := get_lt hx
          obtain ⟨q, rfl, hq, _, hir⟩ := map_get hx
          have hiq : i < qs.length := by omega
          have eq : qs[i]? = some qs[i] := List.getElem?_eq_getElem hiq
          have tq := R.2 i q _ hq eq
          refine in_gtup2 tq ?_
          dsimp only [List.set]
          walk_at "fs_rd"
          refine Nx.mk hil ⟨rfl, ?_, by omega, _, _, rfl⟩
          rw [fst_take eq, ← NV_snoc]
        rintro ys σ H1 ⟨rfl, rfl, hi, v, v2, rfl⟩ f hf
        rw [List.take_of_length_le (by rw [List.length_map, List.length_map]; omega)]
        have s2 := (Same.refl H).new (o := .lst (NV (qs.map Prod.fst))) hf
        have tf : (upd H f (.lst (NV (qs.map Prod.fst)))) f = some (.lst (NV (qs.map Prod.fst))) := upd_same
        generalize upd H f (.lst (NV (qs.map Prod.fst))) = H2 at s2 tf
        walk_at "fs_rd"
        refine ⟨f, qs.map Prod.fst, b, rfl, .inl tf, fun o ho => by obtain ⟨q, hq, rfl⟩ := List.mem_map.mp ho; exact hqb q hq, by rw [List.length_map]; exact hn, hb, fun oa H3 hoa s3 toa => ?_⟩
        have s03 := s2.trans s3
        have ta3 := s03 _ _ ta
        have R3 := R.same s03
        walk_at "fs_rd"
        refine ⟨a, rfl, ⟨_, SqL.of ta3⟩, comp_lst (a := a) (vs := rs.map V.ref) (fun i ys σ H' => Same H3 H' ∧ PrsAt H' ys ((qs.map some).take i) ∧ i ≤ rs.length ∧ ∃ v v2, σ = [v, v2]) (by rw [List.length_map]; exact small1000 (by omega)) (fun i ys σ H' h => by rw [h.2.1.1, List.length_take, List.length_map]; omega) (fun i ys σ H' h => SqL.of (h.1 _ _ ta3)) ⟨Same.refl _, ⟨rfl, fun i v o a => by simp at a⟩, Nat.zero_le _, none, none, rfl⟩ ?_ ?_⟩
        · rintro i ys σ H4 x hx ⟨s4, P4, hi, v, v2, rfl⟩
          have hil := get_lt hx
          obtain ⟨q, rfl, hq, _, hir⟩ := map_get hx
          have hiq : i < qs.length := by omega
          have eq : qs[i]? = some qs[i] := List.getElem?_eq_getElem hiq
          have tq := (R3.same s4).2 i q _ hq eq
          refine in_gtup2 tq ?_
          dsimp only [List.set]
          walk_at "fs_rd"
          refine ⟨_, rfl, .inl (.inr (.inr (.inl ⟨_, rfl⟩))), fun y H5 s5 e => ?_⟩
          have ey : y = V.int ((qs[i].2 : Nat) : Int) := by
            rcases e with ⟨_, e⟩ | ⟨_, _, _, e, _⟩
            · exact e
            · cases e
          subst ey
          walk_at "fs_rd"
          refine ⟨three (by simp), fun q2 hq2 => ?_⟩
          refine Nx.mk hil ⟨(s4.trans s5).new hq2, ?_, by omega, _, _, rfl⟩
          rw [List.take_add_one, List.getElem?_map, eq]
          exact ((P4.same s5).same ((Same.refl _).new hq2)).snoc ⟨q2, rfl, upd_same⟩
        rintro ys σ H4 ⟨s4, P4, hi, v, v2, rfl⟩ pa hpa
        rw [List.take_of_length_le (by rw [List.length_map, List.length_map]; omega)] at P4
        have s5 := (Same.refl H4).new (o := .lst ys) hpa
        have tpa : (upd H4 pa (.lst ys)) pa = some (.lst ys) := upd_same
        have P5 := P4.same s5
        generalize upd H4 pa (.lst ys) = H5 at s5 tpa P5
        have s35 := s4.trans s5
        have hpa0 := (s03.trans s4).free hpa
        walk_at "fs_rd"
        exact key pa oa H5 ⟨s03.trans s35, hpa0, s35 _ _ toa, ys, tpa, P5⟩
      · refine ⟨_, (qb_cons (qs_set (i := 3) sc_HeapWalk___init__.nd rfl (Or.inl rfl) (qe_call (ok_counts T) (hr.mono (by decide)) rfl T.m_counts T.F_counts.kp T.b_counts pass0 (qa_c (qe_comp (N := ["figure", "thing"]) (tgs := ["figure", "thing"]) (frs := []) (ix := []) ⟨rfl, by decide +kernel, rfl, by decide +kernel, rfl, rfl, True.intro, True.intro, rfl⟩ rfl (qi_tup (K := K) (qv 1)) (fun _ _ _ _ => (qg_tup (K := K) (n := 2) rfl (qgs_cons (qg_name (i := 0) (by show List.Nodup (["figure", "thing"] : List Str); decide +kernel) rfl (Or.inl rfl)) (qgs_cons (qg_name (i := 1) (by show List.Nodup (["figure", "thing"] : List Str); decide +kernel) rfl (Or.inl rfl)) qgs_nil)))) (fun _ _ _ _ => (qv 0))) (qa_c (qv 2) qa_nil))))
      (qb_cons (qs_fld (K := K) (qv 0) (qe_comp (N := ["figure", "thing"]) (tgs := ["figure", "thing"]) (frs := []) (ix := []) ⟨rfl, by decide +kernel, rfl, by decide +kernel, rfl, rfl, True.intro, True.intro, rfl⟩ rfl (qi_tup (K := K) (qv 1)) (fun _ _ _ _ => (qg_tup (K := K) (n := 2) rfl (qgs_cons (qg_name (i := 0) (by show List.Nodup (["figure", "thing"] : List Str); decide +kernel) rfl (Or.inl rfl)) (qgs_cons (qg_name (i := 1) (by show List.Nodup (["figure", "thing"] : List Str); decide +kernel) rfl (Or.inl rfl)) qgs_nil)))) (fun _ _ _ _ => (qe_tup (qa_c (qv 0) (qa_c (qe_call (ok_own_copy T) (hr.mono (by decide)) rfl T.m_own_copy T.F_own_copy.kp T.b_own_copy pass0 (qa_c (qv 1) qa_nil)) qa_nil))))))
      (qb_cons (qs_fld (K := K) (qv 0) qe_non)
      (qb_cons (qs_fld (K := K) (qv 0) (qe_call (ok_begins T) (hr.mono (by decide)) rfl T.m_begins T.F_begins.kp T.b_begins pass0 (qa_c (qv 3) qa_nil)))
      (qb_cons (qs_fld (K := K) (qv 0) (qe_comp (N := ["begin", "many"]) (tgs := ["begin", "many"]) (frs := []) (ix := []) ⟨rfl, by decide +kernel, rfl, by decide +kernel, rfl, rfl, True.intro, True.intro, rfl⟩ rfl (qi_zip (K := K) rfl T.z_zip (qa_c (qe_call (ok_begins T) (hr.mono (by decide)) rfl T.m_begins T.F_begins.kp T.b_begins pass0 (qa_c (qv 3) qa_nil)) (qa_c (qv 3) qa_nil))) (fun _ _ _ _ => (qg_tup (K := K) (n := 2) rfl (qgs_cons (qg_name (i := 0) (by show List.Nodup (["begin", "many"] : List Str); decide +kernel) rfl (Or.inl rfl)) (qgs_cons (qg_name (i := 1) (by show List.Nodup (["begin", "many"] : List Str); decide +kernel) rfl (Or.inl rfl)) qgs_nil)))) (fun _ _ _ _ => (qe_op q_add (qv 0) (qv 1)))))
      (qb_one (qs_fld (K := K) (qv 0) qe_int))))))), ?_⟩
        rw [show L2.start ["self", "row", "base", "often"] [V.ref w, V.ref a, V.int (b : Nat)] = [some (V.ref w), some (V.ref a), some (V.int (b : Nat)), none] from rfl]
        walk_at "fs_rd"
        refine ⟨a, rfl, ⟨_, SqT.of ta⟩, comp_tupl (a := a) (vs := rs.map V.ref) (fun i ys σ H' => H = H' ∧ ys = NV ((qs.map Prod.fst).take i) ∧ i ≤ rs.length ∧ ∃ v v2, σ = [v, v2]) (by rw [List.length_map]; exact small1000 (by omega)) (fun i ys σ H' h => by rw [h.2.1, NV_len, List.length_take, List.length_map]; omega) (fun i ys σ H' h => by rw [← h.1]; exact SqT.of ta) ⟨rfl, rfl, Nat.zero_le _, none, none, rfl⟩ ?_ ?_⟩
        · rintro i ys σ H1 x hx ⟨rfl, rfl, hi, v, v2, rfl⟩
          have hil := get_lt hx
          obtain ⟨q, rfl, hq, _, hir⟩ := map_get hx
          have hiq : i < qs.length := by omega
          have eq : qs[i]? = some qs[i] := List.getElem?_eq_getElem hiq
          have tq := R.2 i q _ hq eq
          refine in_gtup2 tq ?_
          dsimp only [List.set]
          walk_at "fs_rd"
          refine Nx.mk hil ⟨rfl, ?_, by omega, _, _, rfl⟩
          rw [fst_take eq, ← NV_snoc]
        rintro ys σ H1 ⟨rfl, rfl, hi, v, v2, rfl⟩ f hf
        rw [List.take_of_length_le (by rw [List.length_map, List.length_map]; omega)]
        have s2 := (Same.refl H).new (o := .lst (NV (qs.map Prod.fst))) hf
        have tf : (upd H f (.lst (NV (qs.map Prod.fst)))) f = some (.lst (NV (qs.map Prod.fst))) := upd_same
        generalize upd H f (.lst (NV (qs.map Prod.fst))) = H2 at s2 tf
        walk_at "fs_rd"
        refine ⟨f, qs.map Prod.fst, b, rfl, .inl tf, fun o ho => by obtain ⟨q, hq, rfl⟩ := List.mem_map.mp ho; exact hqb q hq, by rw [List.length_map]; exact hn, hb, fun oa H3 hoa s3 toa => ?_⟩
        have s03 := s2.trans s3
        have ta3 := s03 _ _ ta
        have R3 := R.same s03
        walk_at "fs_rd"
        refine ⟨a, rfl, ⟨_, SqT.of ta3⟩, comp_tupl (a := a) (vs := rs.map V.ref) (fun i ys σ H' => Same H3 H' ∧ PrsAt H' ys ((qs.map some).take i) ∧ i ≤ rs.length ∧ ∃ v v2, σ = [v, v2]) (by rw [List.length_map]; exact small1000 (by omega)) (fun i ys σ H' h => by rw [h.2.1.1, List.length_take, List.length_map]; omega) (fun i ys σ H' h => SqT.of (h.1 _ _ ta3)) ⟨Same.refl _, ⟨rfl, fun i v o a => by simp at a⟩, Nat.zero_le _, none, none, rfl⟩ ?_ ?_⟩
        · rintro i ys σ H4 x hx ⟨s4, P4, hi, v, v2, rfl⟩
          have hil := get_lt hx
          obtain ⟨q, rfl, hq, _, hir⟩ := map_get hx
          have hiq : i < qs.length := by omega
          have eq : qs[i]? = some qs[i] := List.getElem?_eq_getElem hiq
          have tq := (R3.same s4).2 i q _ hq eq
          refine in_gtup2 tq ?_
          dsimp only [List.set]
          walk_at "fs_rd"
          refine ⟨_, rfl, .inl (.inr (.inr (.inl ⟨_, rfl⟩))), fun y H5 s5 e => ?_⟩
          have ey : y = V.int ((qs[i].2 : Nat) : Int) := by
            rcases e with ⟨_, e⟩ | ⟨_, _, _, e, _⟩
            · exact e
            · cases e
          subst ey
          walk_at "fs_rd"
          refine ⟨three (by simp), fun q2 hq2 => ?_⟩
          refine Nx.mk hil ⟨(s4.trans s5).new hq2, ?_, by omega, _, _, rfl⟩
          rw [List.take_add_one, List.getElem?_map, eq]
          exact ((P4.same s5).same ((Same.refl _).new hq2)).snoc ⟨q2, rfl, upd_same⟩
        rintro ys σ H4 ⟨s4, P4, hi, v, v2, rfl⟩ pa hpa
        rw [List.take_of_length_le (by rw [List.length_map, List.length_map]; omega)] at P4
        have s5 := (Same.refl H4).new (o := .lst ys) hpa
        have tpa : (upd H4 pa (.lst ys)) pa = some (.lst ys) := upd_same
        have P5 := P4.same s5
        generalize upd H4 pa (.lst ys) = H5 at s5 tpa P5
        have s35 := s4.trans s5
        have hpa0 := (s03.trans s4).free hpa
        walk_at "fs_rd"
        exact key pa oa H5 ⟨s03.trans s35, hpa0, s35 _ _ toa, ys, tpa, P5⟩
      · refine ⟨_, (qb_cons (qs_set (i := 3) sc_HeapWalk___init__.nd rfl (Or.inl rfl) (qe_call (ok_counts T) (hr.mono (by decide)) rfl T.m_counts T.F_counts.kp T.b_counts pass0 (qa_c (qe_comp (N := ["figure", "thing"]) (tgs := ["figure", "thing"]) (frs := []) (ix := []) ⟨rfl, by decide +kernel, rfl, by decide +kernel, rfl, rfl, True.intro, True.intro, rfl⟩ rfl (qi_list (K := K) (qv 1)) (fun _ _ _ _ => (qg_tupL (K := K) (n := 2) rfl (qgs_cons (qg_name (i := 0) (by show List.Nodup (["figure", "thing"] : List Str); decide +kernel) rfl (Or.inl rfl)) (qgs_cons (qg_name (i := 1) (by show List.Nodup (["figure", "thing"] : List Str); decide +kernel) rfl (Or.inl rfl)) qgs_nil)))) (fun _ _ _ _ => (qv 0))) (qa_c (qv 2) qa_nil))))
      (qb_cons (qs_fld (K := K) (qv 0) (qe_comp (N := ["figure", "thing"]) (tgs := ["figure", "thing"]) (frs := []) (ix := []) ⟨rfl, by decide +kernel, rfl, by decide +kernel, rfl, rfl, True.intro, True.intro, rfl⟩ rfl (qi_list (K := K) (qv 1)) (fun _ _ _ _ => (qg_tupL (K := K) (n := 2) rfl (qgs_cons (qg_name (i := 0) (by show List.Nodup (["figure", "thing"] : List Str); decide +kernel) rfl (Or.inl rfl)) (qgs_cons (qg_name (i := 1) (by show List.Nodup (["figure", "thing"] : List Str); decide +kernel) rfl (Or.inl rfl)) qgs_nil)))) (fun _ _ _ _ => (qe_tup (qa_c (qv 0) (qa_c (qe_call (ok_own_copy T) (hr.mono (by decide)) rfl T.m_own_copy T.F_own_copy.kp T.b_own_copy pass0 (qa_c (qv 1) qa_nil)) qa_nil))))))
      (qb_cons (qs_fld (K := K) (qv 0) qe_non)
      (qb_cons (qs_fld (K := K) (qv 0) (qe_call (ok_begins T) (hr.mono (by decide)) rfl T.m_begins T.F_begins.kp T.b_begins pass0 (qa_c (qv 3) qa_nil)))
      (qb_cons (qs_fld (K := K) (qv 0) (qe_comp (N := ["begin", "many"]) (tgs := ["begin", "many"]) (frs := []) (ix := []) ⟨rfl, by decide +kernel, rfl, by decide +kernel, rfl, rfl, True.intro, True.intro, rfl⟩ rfl (qi_zip (K := K) rfl T.z_zip (qa_c (qe_call (ok_begins T) (hr.mono (by decide)) rfl T.m_begins T.F_begins.kp T.b_begins pass0 (qa_c (qv 3) qa_nil)) (qa_c (qv 3) qa_nil))) (fun _ _ _ _ => (qg_tup (K := K) (n := 2) rfl (qgs_cons (qg_name (i := 0) (by show List.Nodup (["begin", "many"] : List Str); decide +kernel) rfl (Or.inl rfl)) (qgs_cons (qg_name (i := 1) (by show List.Nodup (["begin", "many"] : List Str); decide +kernel) rfl (Or.inl rfl)) qgs_nil)))) (fun _ _ _ _ => (qe_op q_add (qv 0) (qv 1)))))
      (qb_one (qs_fld (K := K) (qv 0) qe_int))))))), ?_⟩
        rw [show L2.start ["self", "row", "base", "often"] [V.ref w, V.ref a, V.int (b : Nat)] = [some (V.ref w), some (V.ref a), some (V.int (b : Nat)), none] from rfl]
        walk_at "fs_rd"
        refine ⟨a, rfl, ⟨_, SqL.of ta⟩, comp_lst (a := a) (vs := rs.map V.ref) (fun i ys σ H' => H = H' ∧ ys = NV ((qs.map Prod.fst).take i) ∧ i ≤ rs.length ∧ ∃ v v2, σ = [v, v2]) (by rw [List.length_map]; exact small1000 (by omega)) (fun i ys σ H' h => by rw [h.2.1, NV_len, List.length_take, List.length_map]; omega) (fun i ys σ H' h => by rw [← h.1]; exact SqL.of ta) ⟨rfl, rfl, Nat.zero_le _, none, none, rfl⟩ ?_ ?_⟩
        · rintro i ys σ H1 x hx ⟨rfl, rfl, hi, v, v2, rfl⟩
          have hil := get_lt hx
          obtain ⟨q, rfl, hq, _, hir⟩ := map_get hx
          have hiq : i < qs.length := by omega
          have eq : qs[i]? = some qs[i] := List.getElem?_eq_getElem hiq
          have tq := R.2 i q _ hq eq
          refine in_gtupL2 tq ?_
          dsimp only [List.set]
          walk_at "fs_rd"
          refine Nx.mk hil ⟨rfl, ?_, by omega, _, _, rfl⟩
          rw [fst_take eq, ← NV_snoc]
        rintro ys σ H1 ⟨rfl, rfl, hi, v, v2, rfl⟩ f hf
        rw [List.take_of_length_le (by rw [List.length_map, List.length_map]; omega)]
        have s2 := (Same.refl H).new (o := .lst (NV (qs.map Prod.fst))) hf
        have tf : (upd H f (.lst (NV (qs.map Prod.fst)))) f = some (.lst (NV (qs.map Prod.fst))) := upd_same
        generalize upd H f (.lst (NV (qs.map Prod.fst))) = H2 at s2 tf
        walk_at "fs_rd"
        refine ⟨f, qs.map Prod.fst, b, rfl, .inl tf, fun o ho => by obtain ⟨q, hq, rfl⟩ := List.mem_map.mp ho; exact hqb q hq, by rw [List.length_map]; exact hn, hb, fun oa H3 hoa s3 toa => ?_⟩
        have s03 := s2.trans s3
        have ta3 := s03 _ _ ta
        have R3 := psL_same R s03
        walk_at "fs_rd"
        refine ⟨a, rfl, ⟨_, SqL.of ta3⟩, comp_lst (a := a) (vs := rs.map V.ref) (fun i ys σ H' => Same H3 H' ∧ PrsAt H' ys ((qs.map some).take i) ∧ i ≤ rs.length ∧ ∃ v v2, σ = [v, v2]) (by rw [List.length_map]; exact small1000 (by omega)) (fun i ys σ H' h => by rw [h.2.1.1, List.length_take, List.length_map]; omega) (fun i ys σ H' h => SqL.of (h.1 _ _ ta3)) ⟨Same.refl _, ⟨rfl, fun i v o a => by simp at a⟩, Nat.zero_le _, none, none, rfl⟩ ?_ ?_⟩
        · rintro i ys σ H4 x hx ⟨s4, P4, hi, v, v2, rfl⟩
          have hil := get_lt hx
          obtain ⟨q, rfl, hq, _, hir⟩ := map_get hx
          have hiq : i < qs.length := by omega
          have eq : qs[i]? = some qs[i] := List.getElem?_eq_getElem hiq
          have tq := (psL_same R3 s4).2 i q _ hq eq
          refine in_gtupL2 tq ?_
          dsimp only [List.set]
          walk_at "fs_rd"
          refine ⟨_, rfl, .inl (.inr (.inr (.inl ⟨_, rfl⟩))), fun y H5 s5 e => ?_⟩
          have ey : y = V.int ((qs[i].2 : Nat) : Int) := by
            rcases e with ⟨_, e⟩ | ⟨_, _, _, e, _⟩
            · exact e
            · cases e
          subst ey
          walk_at "fs_rd"
          refine ⟨three (by simp), fun q2 hq2 => ?_⟩
          refine Nx.mk hil ⟨(s4.trans s5).new hq2, ?_, by omega, _, _, rfl⟩
          rw [List.take_add_one, List.getElem?_map, eq]
          exact ((P4.same s5).same ((Same.refl _).new hq2)).snoc ⟨q2, rfl, upd_same⟩
        rintro ys σ H4 ⟨s4, P4, hi, v, v2, rfl⟩ pa hpa
        rw [List.take_of_length_le (by rw [List.length_map, List.length_map]; omega)] at P4
        have s5 := (Same.refl H4).new (o := .lst ys) hpa
        have tpa : (upd H4 pa (.lst ys)) pa = some (.lst ys) := upd_same
        have P5 := P4.same s5
        generalize upd H4 pa (.lst ys) = H5 at s5 tpa P5
        have s35 := s4.trans s5
        have hpa0 := (s03.trans s4).free hpa
        walk_at "fs_rd"
        exact key pa oa H5 ⟨s03.trans s35, hpa0, s35 _ _ toa, ys, tpa, P5⟩
    case hB =>
    rintro pa oa H5 ⟨s05, hpa0, toa5, ys, tpa, P5⟩
    have hw5 := s05 _ _ hw
    have hwp : w ≠ pa := ne_of hw5 tpa (by intro z; cases z)
    refine ⟨w, t.c_HeapWalk, dx, _, rfl, hw5, T.cl_HeapWalk, T.n_HeapWalk_pairs, by show 0 < 1000; decide, ?_⟩
    have kp6 : ∀ c o, H5 c = some o → c ≠ w → (upd H5 w (.ins t.c_HeapWalk dx (putF "pairs" (.ref pa) []))) c = some o := fun c o e hc => by rw [upd_ne hc]; exact e
    have ob6 : (upd H5 w (.ins t.c_HeapWalk dx (putF "pairs" (.ref pa) []))) w = some (.ins t.c_HeapWalk dx (putF "pairs" (.ref pa) [])) := upd_same
    generalize upd H5 w (.ins t.c_HeapWalk dx (putF "pairs" (.ref pa) [])) = H6 at kp6 ob6
    walk_at "fs_rd"
    refine ⟨w, t.c_HeapWalk, dx, _, rfl, ob6, T.cl_HeapWalk, T.n_HeapWalk_held, by show 1 < 1000; decide, ?_⟩
    have kp7 : ∀ c o, H5 c = some o → c ≠ w → (upd H6 w (.ins t.c_HeapWalk dx (putF "held" .non (putF "pairs" (.ref pa) [])))) c = some o := fun c o e hc => by rw [upd_ne hc]; exact kp6 c o e hc
    have ob7 : (upd H6 w (.ins t.c_HeapWalk dx (putF "held" .non (putF "pairs" (.ref pa) [])))) w = some (.ins t.c_HeapWalk dx (putF "held" .non (putF "pairs" (.ref pa) []))) := upd_same
    generalize upd H6 w (.ins t.c_HeapWalk dx (putF "held" .non (putF "pairs" (.ref pa) []))) = H7 at kp7 ob7
    have hoaw : oa ≠ w := ne_of toa5 hw5 (by intro z; cases z)
    have toa7 := kp7 _ _ toa5 hoaw
    walk_at "fs_rd"
    refine ⟨oa, cnt (qs.map Prod.fst) b, rfl, .inl toa7, by rw [cnt_len]; exact hb, fun ma H8 hma s8 tma => ?_⟩
    rw [begs_cnt] at tma
    have ob8 := s8 _ _ ob7
    have hmaw : ma ≠ w := ne_of tma ob8 (by intro z; cases z)
    have hF1 := putF_len "pairs" (V.ref pa) []
    have hF2' := putF_len "held" V.non (putF "pairs" (V.ref pa) [])
    have hF2 : (putF "held" V.non (putF "pairs" (V.ref pa) [])).length < 1000 := by simp at hF1; omega
    have hF3' := putF_len "marks" (V.ref ma) (putF "held" V.non (putF "pairs" (V.ref pa) []))
    walk_at "fs_rd"
    refine ⟨w, t.c_HeapWalk, dx, _, rfl, ob8, T.cl_HeapWalk, T.n_HeapWalk_marks, hF2, ?_⟩
    generalize eF : putF "marks" (V.ref ma) (putF "held" V.non (putF "pairs" (V.ref pa) [])) = F3
    rw [eF] at hF3'
    have hF3 : F3.length < 999 := by simp at hF1; omega
    have kp9 : ∀ c o, H5 c = some o → c ≠ w → (upd H8 w (.ins t.c_HeapWalk dx F3)) c = some o := fun c o e hc => by rw [upd_ne hc]; exact s8 _ _ (kp7 c o e hc)
    have tma9 : (upd H8 w (.ins t.c_HeapWalk dx F3)) ma = some (.lst (NV (lesF (qs.map Prod.fst) b))) := by rw [upd_ne hmaw]; exact tma
    have ob9 : (upd H8 w (.ins t.c_HeapWalk dx F3)) w = some (.ins t.c_HeapWalk dx F3) := upd_same
    have toa9 := kp9 _ _ toa5 hoaw
    generalize upd H8 w (.ins t.c_HeapWalk dx F3) = H9 at kp9 tma9 ob9 toa9
    walk_at "fs_rd"
    refine ⟨oa, cnt (qs.map Prod.fst) b, rfl, .inl toa9, by rw [cnt_len]; exact hb, fun ba HA hba sA tba => ?_⟩
    rw [begs_cnt] at tba
    have toaA := sA _ _ toa9
    walk_at "fs_rd"
    refine ⟨ba, oa, rfl, ⟨_, SqL.of tba⟩, ⟨_, SqL.of toaA⟩, comp_gen (n := b) (fun i ys σ H' => Same HA H' ∧ ys = NV (((List.range b).map fun f => lessN (qs.map Prod.fst) (f + 1)).take i) ∧ i ≤ b ∧ ∃ v w, σ = [v, w]) (small1000 (by omega)) (fun i ys σ H' h => by rw [h.2.1, NV_len, List.length_take, List.length_map, List.length_range]; have := h.2.2.1; omega) ⟨Same.refl _, rfl, Nat.zero_le _, none, none, rfl⟩ ?_ ?_ ?_ ?_⟩
    · rintro i ys σ HB hi ⟨sB, _⟩
      exact ⟨_, _, V.int (lessN (qs.map Prod.fst) i : Nat), V.int ((qs.map Prod.fst).count i : Nat), SqL.of (sB _ _ tba), SqL.of (sB _ _ toaA), NV_get (les_get hi), NV_get (cnt_get hi)⟩
    · rintro ys σ HB ⟨sB, _⟩
      exact ⟨_, _, SqL.of (sB _ _ tba), SqL.of (sB _ _ toaA), .inl (by rw [NV_len, les_len]; exact Nat.le_refl _)⟩
    · rintro i x ys σ HB HC hi ⟨sB, rfl, _, v, w, rfl⟩ ⟨p, x1, y1, rfl, hp, rfl, hx1, hy1⟩
      have hx2 := hx1 _ (SqL.of (sB _ _ tba))
      have hy2 := hy1 _ (SqL.of (sB _ _ toaA))
      rw [NV_get (les_get hi)] at hx2
      rw [NV_get (cnt_get hi)] at hy2
      cases hx2; cases hy2
      refine in_gtup2 upd_same ?_
      dsimp only [List.set]
      walk_at "fs_rd"
      refine Nx.mk hi ⟨sB.new hp, ?_, hi, _, _, rfl⟩
      rw [ends_take hi, ← NV_snoc, lessN_succ]
      congr 2
    rintro ys σ HB ⟨sB, rfl, _, v, w', rfl⟩ ea hea
    rw [List.take_of_length_le (by simp)]
    have sC := sB.new (o := .lst (NV ((List.range b).map fun f => lessN (qs.map Prod.fst) (f + 1)))) hea
    have tea : (upd HB ea (.lst (NV ((List.range b).map fun f => lessN (qs.map Prod.fst) (f + 1))))) ea = some (.lst (NV ((List.range b).map fun f => lessN (qs.map Prod.fst) (f + 1)))) := upd_same
    generalize upd HB ea (.lst (NV ((List.range b).map fun f => lessN (qs.map Prod.fst) (f + 1)))) = HC at sC tea
    have s9C := sA.trans sC
    have obC := s9C _ _ ob9
    have heaw : ea ≠ w := ne_of tea obC (by intro z; cases z)
    walk_at "fs_rd"
    refine ⟨w, t.c_HeapWalk, dx, _, rfl, obC, T.cl_HeapWalk, T.n_HeapWalk_ends, by omega, ?_⟩
    generalize eF4 : putF "ends" (V.ref ea) F3 = F4
    have hF4 : F4.length < 1000 := by have := putF_len "ends" (V.ref ea) F3; rw [eF4] at this; omega
    have obD : (upd HC w (.ins t.c_HeapWalk dx F4)) w = some (.ins t.c_HeapWalk dx F4) := upd_same
    have kpD : ∀ c o, HC c = some o → c ≠ w → (upd HC w (.ins t.c_HeapWalk dx F4)) c = some o := fun c o e hc => by rw [upd_ne hc]; exact e
    generalize upd HC w (.ins t.c_HeapWalk dx F4) = HD at obD kpD
    walk_at "fs_rd"
    refine ⟨w, t.c_HeapWalk, dx, _, rfl, obD, T.cl_HeapWalk, T.n_HeapWalk_many_puts, hF4, ?_⟩
    rw [← eF4, ← eF, hwF_new]
    have kpE : ∀ c o, H5 c = some o → c ≠ w → (upd HD w (.ins t.c_HeapWalk dx (hwF pa .non ma ea 0))) c = some o := fun c o e hc => by rw [upd_ne hc]; exact kpD _ _ (s9C _ _ (kp9 c o e hc)) hc
    have hmaC := s9C _ _ tma9
    refine k pa ma ea ys _ hpa0 ?_ ?_ ⟨⟨dx, upd_same⟩, kpE _ _ tpa (Ne.symm hwp), ⟨P5.1, fun i v o x y => ?_⟩, rfl, by rw [upd_ne hmaw]; exact kpD _ _ hmaC hmaw, by rw [upd_ne heaw]; exact kpD _ _ tea heaw, ?_, ?_, ?_⟩ fun c o e hc => kpE c o (s05 _ _ e) hc
    · cases z : H ma with
      | none => rfl
      | some o =>
        rw [kp7 _ _ (s05 _ _ z) hmaw] at hma
        cases hma
    · cases z : H ea with
      | none => rfl
      | some o =>
        rw [sB _ _ (sA _ _ (kp9 _ _ (s05 _ _ z) heaw))] at hea
        cases hea
    · have z := P5.2 i v o x y
      cases o with
      | none => exact z
      | some y =>
        obtain ⟨q, e1, e2⟩ := z
        exact ⟨q, e1, kpE _ _ e2 (ne_of e2 hw5 (by intro z; cases z))⟩
    · exact fun z => by rw [← z, kp7 _ _ tpa (Ne.symm hwp)] at hma; cases hma
    · exact fun z => by rw [← z, sB _ _ (sA _ _ (kp9 _ _ tpa (Ne.symm hwp)))] at hea; cases hea
    · exact fun z => by rw [← z, sB _ _ (sA _ _ tma9)] at hea; cases hea

theorem PsT.snoc {H : Hp} {rs : List Addr} {qs : List (Nat × Nat)} {a : Addr} {z : Nat × Nat} (h : PsT H rs qs) (e : H a = some (.tup [.int (z.1 : Nat), .int (z.2 : Nat)])) : PsT H (rs ++ [a]) (qs ++ [z]) := by
  refine ⟨by rw [List.length_append, List.length_append, h.1]; rfl, fun i u x a' b => ?_⟩
  by_cases l : i < rs.length
  · rw [List.getElem?_append_left l] at a'
    rw [List.getElem?_append_left (by rw [← h.1]; exact l)] at b
    exact h.2 i u x a' b
  · rw [List.getElem?_append_right (by omega)] at a'
    rw [List.getElem?_append_right (by rw [← h.1]; omega), ← h.1] at b
    have hi : i - rs.length = 0 := by
      have := get_lt a'
      simp at this; omega
    rw [hi] at a' b
    cases a'; cases b
    exact e
theorem ps_snoc {H : Hp} {rs : List Addr} {qs : List (Nat × Nat)} {a : Addr} {z : Nat × Nat} (h : PsT H rs qs) (e : H a = some (.tup [.int (z.1 : Nat), .int (z.2 : Nat)])) : PsT H (rs ++ [a]) (qs ++ [z]) := Fs.PsT.snoc h e
noncomputable def spPairs : Sp := fun vs H Q _ => ∃ (p : Addr) (n b : Nat), vs = [.ref p, .int (n : Nat), .int (b : Nat)] ∧ Tp2 H p ∧ n ≤ 200 ∧ 2 ≤ b ∧ b ≤ 64 ∧ ∀ (l : Addr) (rs : List Addr) (fs : List Nat) H', H l = none → H' l = some (.lst (rs.map V.ref)) → PsT H' rs fs.zipIdx → fs.length = n → (∀ x ∈ fs, x < b) → l ≠ p → St2 p H H' → Q (.ref l) H'
theorem zip_take {fs : List Nat} {i x : Nat} (h : fs[i]? = some x) : fs.zipIdx.take (i + 1) = fs.zipIdx.take i ++ [(x, i)] := by
  rw [List.take_add_one, List.getElem?_zipIdx, h]; simp
theorem ok_pairs (T : Tx K mg t) : FnOk P w K mg base CX0 2 t.f_pairs t.d_pairs ["_law_tape_here", "_law_many_here", "_law_base_here"] spPairs := by
  refine T.F_pairs.okQ sc_pairs (fun vs H Q E h => ?_) (fun cdv A outer s H vs Q E hr h => ?_)
  · obtain ⟨p, n, b, rfl, _⟩ := h
    rfl
  · obtain ⟨p, n, b, rfl, hT, hn, hb, hb2, k⟩ := h
    refine ⟨_, (qb_cons (qs_set (i := 3) sc_pairs.nd rfl (Or.inr rfl) (qe_ix (q_ixL (K := K)) (qe_lst (qa_c (qv 2) (qa_c (qe_callB (qc_min rfl) (by rfl) T.z_min bt_min (qa_c (qv 2) (qa_c qe_int qa_nil))) qa_nil))) (qe_call (ok_draw T) (hr.mono (by decide)) rfl T.m_draw T.F_draw.kp T.b_draw pass0 (qa_c (qv 0) (qa_c qe_int qa_nil)))))
      (qb_cons (qs_setC (i := 4) (N := ["_law_k", "_law_tape_here", "_law_top"]) (tgs := ["_law_k"]) (frs := ["_law_tape_here", "_law_top"]) (ix := [0, 3])  sc_pairs.nd rfl (Or.inl rfl) ⟨rfl, by decide +kernel, rfl, by decide +kernel, rfl, rfl, ⟨⟨rfl, rfl, _, rfl, rfl⟩, ⟨rfl, rfl, _, rfl, rfl⟩, True.intro⟩, ⟨rfl, rfl, True.intro⟩, rfl⟩ rfl (qi_range1 rfl T.z_range (qa_c (qv 1) qa_nil)) (fun _ _ _ _ => (qg_name (i := 0) (by show List.Nodup (["_law_k", "_law_tape_here", "_law_top"] : List Str); decide +kernel) rfl (Or.inl rfl))) (fun _ _ _ _ => (qe_call (ok_draw T) (hr.mono (by decide)) rfl T.m_draw T.F_draw.kp T.b_draw pass0 (qa_c (qv 1) (qa_c (qv 2) qa_nil)))))
      (qb_cons (qs_set (i := 5) sc_pairs.nd rfl (Or.inl rfl) (qe_call (ok_draw T) (hr.mono (by decide)) rfl T.m_draw T.F_draw.kp T.b_draw pass0 (qa_c (qv 0) (qa_c qe_int qa_nil))))
      (qb_cons (qs_if (qt_cmpR q_lt (qv 5) qe_int (nomark _)) (qb_one (qs_set (i := 4) sc_pairs.nd rfl (Or.inl rfl) (qe_callB (qc_sortI (K := K)) (by rfl) T.z_sorted bt_sorted (qa_c (qv 4) qa_nil)))) qb_nil)
      (qb_cons (qs_if (QW.qt (qw_and (qt_cmpR q_eq (qv 5) qe_int (nomark _)) (qw_and1 (qt_cmpR q_gt (qv 1) qe_int (nomark _))))) (qb_cons (qs_set (i := 6) sc_pairs.nd rfl (Or.inl rfl) (qe_call (ok_draw T) (hr.mono (by decide)) rfl T.m_draw T.F_draw.kp T.b_draw pass0 (qa_c (qv 0) (qa_c (qv 1) qa_nil))))
      (qb_one (qs_set (i := 4) sc_pairs.nd rfl (Or.inl rfl) (qe_op q_cat (qe_slice (q_slL (K := K)) (qv 4) (qo_some (qv 6)) qo_none) (qe_slice (q_slL (K := K)) (qv 4) qo_none (qo_some (qv 6))))))) qb_nil)
      (qb_cons (qs_if (qt_cmpR q_eq (qv 5) qe_int (nomark _)) (qb_one (qs_set (i := 4) sc_pairs.nd rfl (Or.inl rfl) (qe_sortDn (K := K) rfl T.z_sorted (qa_c (qv 4) qa_nil)))) qb_nil)
      (qb_one (qs_ret (qe_comp (N := ["_law_k", "_law_figure"]) (tgs := ["_law_k", "_law_figure"]) (frs := []) (ix := []) ⟨rfl, by decide +kernel, rfl, by decide +kernel, rfl, rfl, True.intro, True.intro, rfl⟩ rfl (qi_enum_L (K := K) rfl T.z_enumerate (qa_c (qv 4) qa_nil)) (fun _ _ _ _ => (qg_tup (K := K) (n := 2) rfl (qgs_cons (qg_name (i := 0) (by show List.Nodup (["_law_k", "_law_figure"] : List Str); decide +kernel) rfl (Or.inl rfl)) (qgs_cons (qg_name (i := 1) (by show List.Nodup (["_law_k", "_law_figure"] : List Str); decide +kernel) rfl (Or.inl rfl)) qgs_nil)))) (fun _ _ _ _ => (qe_tup (qa_c (qv 1) (qa_c (qv 0) qa_nil))))))))))))), ?_⟩
    rw [show L2.start ["_law_tape_here", "_law_many_here", "_law_base_here", "_law_top", "_law_some", "_law_way", "_law_at"] [V.ref p, V.int (n : Nat), V.int (b : Nat)] = [some (V.ref p), some (V.int (n : Nat)), some (V.int (b : Nat)), none, none, none, none] from rfl]
    walk_at "fs_rd"
    refine ⟨three (by simp), fun q hq => ?_⟩
    have nq := hT.ne hq
    have S1 := (St2.refl hT).new (o := .lst [V.int (b : Nat), V.int (if (3 : Int) < (b : Int) then 3 else (b : Int))]) hq
    have tq : (upd H q (.lst [V.int (b : Nat), V.int (if (3 : Int) < (b : Int) then 3 else (b : Int))])) q = some (.lst [V.int (b : Nat), V.int (if (3 : Int) < (b : Int) then 3 else (b : Int))]) := upd_same
    generalize upd H q (.lst [V.int (b : Nat), V.int (if (3 : Int) < (b : Int) then 3 else (b : Int))]) = H1 at S1 tq
    walk_at "fs_rd"
    refine ⟨p, 2, rfl, S1.tape, by decide, by decide, fun r2 H2 c1 S2 => ?_⟩
    walk_at "fs_rd"
    obtain ⟨u, e, hu⟩ := atI_mem (xs := [V.int (b : Nat), V.int (if (3 : Int) < (b : Int) then 3 else (b : Int))]) (r := (r2 : Int)) (by omega) (by simp only [List.length_cons, List.length_nil]; omega)
    refine in_ix (SqL.of (S2.keep q _ tq nq)) e ?_
    have hu' : ∃ x : Nat, u = V.int x ∧ 0 < x ∧ x ≤ b := by
      simp only [List.mem_cons, List.not_mem_nil, or_false] at hu
      rcases hu with rfl | rfl
      · exact ⟨b, rfl, by omega, Nat.le_refl _⟩
      · by_cases g : (3 : Int) < (b : Int)
        · exact ⟨3, by rw [if_pos g]; rfl, by omega, by omega⟩
        · exact ⟨b, by rw [if_neg g], by omega, Nat.le_refl _⟩
    obtain ⟨tp, rfl, htp, htp2⟩ := hu'
    clear hu e
    have S02 := S1.trans S2
    clear S1 S2 tq
    walk_at "fs_rd"
    refine ⟨n, rfl, by omega, by omega, comp_rng (n := n) (fun i ys σ H5 => St2 p H H5 ∧ (∃ cs : List Nat, ys = NV cs ∧ cs.length = i ∧ ∀ x ∈ cs, x < b) ∧ ∃ v, σ = [v, some (V.ref p), some (V.int tp)]) (small1000 (by omega)) (fun i ys σ H5 h => by obtain ⟨_, ⟨cs, rfl, e, _⟩, _⟩ := h; rw [NV_len, e]) ⟨S02, ⟨[], rfl, rfl, fun x h => nomatch h⟩, none, rfl⟩ ?_ ?_⟩
    · rintro i' ys σ H5 hi' ⟨S5, ⟨cs, rfl, hcl, hcb⟩, v, rfl⟩
      walk_at "fs_rd"
      refine ⟨p, tp, rfl, S5.tape, by omega, by omega, fun r H6 c1 S6 => ?_⟩
      refine Nx.mk hi' ⟨S5.trans S6, ⟨cs ++ [r], NV_snoc _ _, by simp [hcl], fun y hy => ?_⟩, _, rfl⟩
      rcases List.mem_append.mp hy with h | h
      · exact hcb y h
      · rw [List.mem_singleton.mp h]; omega
    rintro ys σ H3 ⟨S3, ⟨cs, rfl, hcl, hcb⟩, v, rfl⟩ l0 hl0
    have nl0 := S3.tape.ne hl0
    have hln0 : H l0 = none := S3.free hl0
    have S4 := S3.new (o := .lst (NV cs)) hl0
    have tl0 : (upd H3 l0 (.lst (NV cs))) l0 = some (.lst (NV cs)) := upd_same
    generalize upd H3 l0 (.lst (NV cs)) = H4 at S4 tl0
    walk_at "fs_rd"
    refine ⟨p, 6, rfl, S4.tape, by decide, by decide, fun way H5 c1 S5 => ?_⟩
    have S05 := S4.trans S5
    have tl5 := S5.keep _ _ tl0 nl0
    walk_at "fs_rd"
    apply via2 (α := Addr) (S := fun u H' => St2 p H H' ∧ u ≠ p ∧ ∃ fs : List Nat, H' u = some (.lst (NV fs)) ∧ fs.length = n ∧ ∀ x ∈ fs, x < b)
    case hA =>
      intro key
      refine in_split (fun h0 => ?_) (fun h0 => ?_)
      · walk_at "fs_rd"
        refine ⟨l0, cs.map (fun x : Nat => (x : Int)), rfl, .inl (by rw [← NV_int]; exact SqL.of tl5), by rw [List.length_map]; omega, fun d1 m1 hd1 hm1 _ => ?_⟩
        obtain ⟨k1, rfl, hk1⟩ := perm_nat hm1
        rw [← NV_int]
        have S6 := S05.new (o := .lst (NV k1)) hd1
        have nd1 := S05.tape.ne hd1
        have td1 : (upd H5 d1 (.lst (NV k1))) d1 = some (.lst (NV k1)) := upd_same
        generalize upd H5 d1 (.lst (NV k1)) = H6 at S6 td1
        walk_at "fs_rd"
        exact key d1 H6 ⟨S6, nd1, k1, td1, by rw [hk1.length_eq]; exact hcl, fun x hx => hcb x (hk1.mem_iff.mp hx)⟩
      · walk_at "fs_rd"
        exact key l0 H5 ⟨S05, nl0, cs, tl5, hcl, hcb⟩
    case hB =>
    rintro u H6 ⟨S6, hup, fs, tu, hfl, hfb⟩
    apply via3 (α := Addr) (β := Option V) (S := fun u _ H' => St2 p H H' ∧ u ≠ p ∧ ∃ fs : List Nat, H' u = some (.lst (NV fs)) ∧ fs.length = n ∧ ∀ x ∈ fs, x < b)
    case hA =>
      intro key
      by_cases hw : V.int (way : Nat) = V.int 1
      · rw [decide_eq_true hw]
        walk_at "fs_rd"
        refine in_split (fun h1 => ?_) (fun h1 => ?_)
        · walk_at "fs_rd"
          refine ⟨p, n, rfl, S6.tape, by omega, by omega, fun at0 H7 d1 S7 => ?_⟩
          have tu7 := S7.keep _ _ tu hup
          have S07 := S6.trans S7
          walk_at "fs_rd"
          refine ⟨_, rfl, ?_⟩
          walk_at "fs_rd"
          refine in_slLA tu7 fun x1 H8 hx1 s8 tx1 => ?_
          rw [cut_dropN _ _ (by omega)] at tx1
          walk_at "fs_rd"
          refine ⟨_, rfl, ?_⟩
          refine in_slLA (s8 _ _ tu7) fun x2 H9 hx2 s9 tx2 => ?_
          rw [cut_takeN _ _ (by omega)] at tx2
          walk_at "fs_rd"
          refine ⟨x1, x2, _, _, rfl, rfl, s9 _ _ tx1, tx2, three (by rw [NV_len, NV_len, List.length_take, List.length_drop]; omega), fun x3 hx3 => ?_⟩
          rw [NV_app]
          have S09 : St2 p H H9 := ⟨fun c o e1 e2 => s9 _ _ (s8 _ _ (S07.keep c o e1 e2)), (S07.tape.same s8).same s9⟩
          have nx3 := S09.tape.ne hx3
          have SA := S09.new (o := .lst (NV (fs.drop at0 ++ fs.take at0))) hx3
          have tx3 : (upd H9 x3 (.lst (NV (fs.drop at0 ++ fs.take at0)))) x3 = some (.lst (NV (fs.drop at0 ++ fs.take at0))) := upd_same
          generalize upd H9 x3 (.lst (NV (fs.drop at0 ++ fs.take at0))) = HA at SA tx3
          walk_at "fs_rd"
          obtain ⟨v6, e6⟩ : ∃ v : Option V, v = some (V.int (at0 : Nat)) := ⟨_, rfl⟩
          rw [← e6]
          refine key x3 v6 HA ⟨SA, nx3, _, tx3, by rw [List.length_append, List.length_drop, List.length_take]; omega, fun x hx => ?_⟩
          rcases List.mem_append.mp hx with h | h
          · exact hfb x (List.mem_of_mem_drop h)
          · exact hfb x (List.mem_of_mem_take h)
        · walk_at "fs_rd"
          exact key u none H6 ⟨S6, hup, fs, tu, hfl, hfb⟩
      · rw [decide_eq_false hw]
        walk_at "fs_rd"
        exact key u none H6 ⟨S6, hup, fs, tu, hfl, hfb⟩
    case hB =>
    rintro u v6 H7 ⟨S7, hup, fs, tu, hfl, hfb⟩
    apply via2 (α := Addr) (S := fun u H' => St2 p H H' ∧ u ≠ p ∧ ∃ fs : List Nat, H' u = some (.lst (NV fs)) ∧ fs.length = n ∧ ∀ x ∈ fs, x < b)
    case hA =>
      intro key
      by_cases hw : V.int (way : Nat) = V.int 2
      · rw [decide_eq_true hw]
        walk_at "fs_rd"
        refine ⟨u, fs.map (fun x : Nat => (x : Int)), rfl, .inl (by rw [← NV_int]; exact SqL.of tu), by rw [List.length_map]; omega, fun d1 m1 hd1 hm1 _ => ?_⟩
        obtain ⟨k1, rfl, hk1⟩ := perm_nat hm1
        rw [← NV_int]
        have S8 := S7.new (o := .lst (NV k1)) hd1
        have nd1 := S7.tape.ne hd1
        have td1 : (upd H7 d1 (.lst (NV k1))) d1 = some (.lst (NV k1)) := upd_same
        generalize upd H7 d1 (.lst (NV k1)) = H8 at S8 td1
        walk_at "fs_rd"
        exact key d1 H8 ⟨S8, nd1, k1, td1, by rw [hk1.length_eq]; exact hfl, fun x hx => hfb x (hk1.mem_iff.mp hx)⟩
      · rw [decide_eq_false hw]
        walk_at "fs_rd"
        exact key u H7 ⟨S7, hup, fs, tu, hfl, hfb⟩
    case hB =>
    rintro u H8 ⟨S8, hup, fs, tu, hfl, hfb⟩
    walk_at "fs_rd"
    refine ⟨u, rfl, ⟨_, SqL.of tu⟩, comp_gen (n := fs.length) (fun i ys σ H' => Same H8 H' ∧ (∃ rs : List Addr, ys = rs.map V.ref ∧ rs.length = i ∧ PsT H' rs (fs.zipIdx.take i)) ∧ ∃ v w, σ = [v, w]) (small1000 (by omega)) (fun i ys σ H' h => by obtain ⟨_, ⟨ts, rfl, e, _⟩, _⟩ := h; rw [List.length_map, e]) ⟨Same.refl _, ⟨[], rfl, rfl, rfl, fun k t p h => by simp at h⟩, none, none, rfl⟩ ?_ ?_ ?_ ?_⟩
    · rintro i ys σ H2 hi ⟨s2, _⟩
      exact ⟨_, V.int (fs[i] : Nat), SqL.of (s2 _ _ tu), NV_get (by simp [hi])⟩
    · rintro ys σ H2 ⟨s2, _⟩
      exact ⟨_, SqL.of (s2 _ _ tu), NV_len _⟩
    · rintro i x ys σ H2 H3 hi ⟨s2, ⟨ts, rfl, hts, hT'⟩, v, w, rfl⟩ ⟨q, x1, rfl, hq, rfl, hx1⟩
      have ei : fs[i]? = some fs[i] := by simp [hi]
      have hx2 := hx1 _ (SqL.of (s2 _ _ tu))
      rw [NV_get ei] at hx2
      obtain rfl := Option.some.inj hx2
      refine in_gtup2 upd_same ?_
      dsimp only [List.set]
      have s3 := s2.new (o := .tup [V.int (i : Nat), V.int (fs[i] : Nat)]) hq
      have s23 := (Same.refl H2).new (o := .tup [V.int (i : Nat), V.int (fs[i] : Nat)]) hq
      generalize upd H2 q (.tup [V.int (i : Nat), V.int (fs[i] : Nat)]) = H3 at s3 s23
      walk_at "fs_rd"
      refine ⟨three (by simp), fun t ht => ?_⟩
      refine Nx.mk hi ⟨s3.new ht, ⟨ts ++ [t], by rw [List.map_append]; rfl, by simp [hts], ?_⟩, _, _, rfl⟩
      rw [zip_take ei]
      exact ps_snoc ((hT'.same s23).same ((Same.refl H3).new ht)) upd_same
    rintro ys σ H2 ⟨s2, ⟨ts, rfl, hts, hT'⟩, v, w, rfl⟩ l hl
    rw [List.take_of_length_le (by simp)] at hT'
    have S2 : St2 p H H2 := ⟨fun c o e1 e2 => s2 _ _ (S8.keep c o e1 e2), S8.tape.same s2⟩
    exact k l ts fs _ (S2.free hl) upd_same (hT'.same ((Same.refl H2).new hl)) hfl hfb (S2.tape.ne hl) (S2.new hl)
noncomputable def partsL (os : List Nat) (b : Nat) : List (Nat × Nat) := (List.range b).map fun f => (lessN os f, lessN os (f + 1))
theorem parts_get {os : List Nat} {b f : Nat} (h : f < b) : (partsL os b)[f]? = some (lessN os f, lessN os (f + 1)) := by simp [partsL, h]
theorem parts_len (os : List Nat) (b : Nat) : (partsL os b).length = b := by simp [partsL]
noncomputable def spPartB : Sp := fun vs H Q _ => ∃ (a : Addr) (rs : List Addr) (qs : List (Nat × Nat)) (b : Nat), vs = [.ref a, .int (b : Nat)] ∧ H a = some (.lst (rs.map V.ref)) ∧ PsT H rs qs ∧ qs.length ≤ 200 ∧ b ≤ 64 ∧ ∀ (l : Addr) (ts : List Addr) H', H l = none → Same H H' → H' l = some (.lst (ts.map V.ref)) → PsT H' ts (partsL (qs.map Prod.fst) b) → Q (.ref l) H'
theorem ok_part_begins (T : Tx K mg t) : FnOk P w K mg base CX0 1 t.f_part_begins t.d_part_begins ["_law_pairs_here", "_law_base_here"] spPartB := by
  refine T.F_part_begins.okQ sc_part_begins (fun vs H Q E h => ?_) (fun cdv A outer s H vs Q E hr h => ?_)
  · obtain ⟨a, rs, qs, b, rfl, _⟩ := h
    rfl
  · obtain ⟨a, rs, qs, b, rfl, ta, R, hn, hb, k⟩ := h
    have hrl : rs.length = qs.length := R.1
    refine ⟨_, (qb_cons (qs_set (i := 2) sc_part_begins.nd rfl (Or.inl rfl) (qe_lst qa_nil))
      (qb_cons (qs_set (i := 3) sc_part_begins.nd rfl (Or.inl rfl) qe_int)
      (qb_cons (qs_for PassesOwn.never rfl (qi_range1 rfl T.z_range (qa_c (qv 1) qa_nil)) (qg_name (i := 4) sc_part_begins.nd rfl (Or.inr rfl)) (qb_cons (qs_set (i := 5) sc_part_begins.nd rfl (Or.inl rfl) (qe_callB (qc_len (K := K)) (by rfl) T.z_len bt_len (qa_c (qe_compF (N := ["_law_pair", "_law_figure"]) (tgs := ["_law_pair"]) (frs := ["_law_figure"]) (ix := [4]) ⟨rfl, by decide +kernel, rfl, by decide +kernel, rfl, rfl, ⟨⟨rfl, rfl, _, rfl, rfl⟩, True.intro⟩, ⟨rfl, True.intro⟩, rfl⟩ rfl (qi_list (K := K) (qv 0)) (fun _ _ _ _ => (qg_name (i := 0) (by show List.Nodup (["_law_pair", "_law_figure"] : List Str); decide +kernel) rfl (Or.inl rfl))) (fun _ _ _ _ => (qv 0)) (fun _ _ _ _ => (qt_cmpR q_eq (qe_ix (q_ixT (K := K)) (qv 0) qe_int) (qv 1) (nomark _)))) qa_nil)))
      (qb_cons (qs_expr (qe_append (K := K) (qv 2) (qa_c (qe_tup (qa_c (qv 3) (qa_c (qe_op q_add (qv 3) (qv 5)) qa_nil))) qa_nil)))
      (qb_one (qs_set (i := 3) sc_part_begins.nd rfl (Or.inl rfl) (qe_op q_add (qv 3) (qv 5)))))))
      (qb_one (qs_ret (qv 2)))))), ?_⟩
    rw [show L2.start ["_law_pairs_here", "_law_base_here", "_law_found", "_law_begin", "_law_figure", "_law_many_here"] [V.ref a, V.int (b : Nat)] = [some (V.ref a), some (V.int (b : Nat)), none, none, none, none] from rfl]
    walk_at "fs_rd"
    refine ⟨three (by simp), fun l hl => ?_⟩
    have s1 := (Same.refl H).new (o := .lst []) hl
    have tl1 : (upd H l (.lst [])) l = some (.lst (([] : List Addr).map V.ref)) := upd_same
    generalize upd H l (.lst []) = H1 at s1 tl1
    have h0 : lessN (qs.map Prod.fst) 0 = 0 := by
      unfold lessN
      rw [List.countP_eq_zero]
      intro o _
      simp
    walk_at "fs_rd"
    refine ⟨b, rfl, by omega, by omega, for_range (n := b) (fun i σ H' => Same H H' ∧ (∃ ts : List Addr, H' l = some (.lst (ts.map V.ref)) ∧ ts.length = i ∧ PsT H' ts ((partsL (qs.map Prod.fst) b).take i)) ∧ ∃ v4 v5, σ = [some (V.ref a), some (V.int (b : Nat)), some (V.ref l), some (V.int ((lessN (qs.map Prod.fst) i : Nat) : Int)), v4, v5]) ⟨s1, ⟨[], tl1, rfl, rfl, fun i a z h => by simp at h⟩, _, _, by rw [h0]; rfl⟩ ?_ ?_⟩
    · rintro f σ H2 hf ⟨s2, ⟨ts, tl2, htl, hP⟩, v4, v5, rfl⟩
      have ta2 := s2 _ _ ta
      have R2 := R.same s2
      walk_at "fs_rd"
      refine ⟨a, rfl, ⟨_, SqL.of ta2⟩, compF_lst (a := a) (vs := rs.map V.ref) (fun i ys σ H' => H' = H2 ∧ ys.length = ((qs.map Prod.fst).take i).count f ∧ ∃ v, σ = [v, some (V.int (0 + (f : Int)))]) (by rw [List.length_map]; exact small1000 (by omega)) (fun i ys σ H' h => by rw [h.2.1]; exact Nat.le_trans List.count_le_length (by rw [List.length_take]; omega)) (fun i ys σ H' h => by rw [h.1]; exact SqL.of ta2) ⟨rfl, rfl, none, rfl⟩ ?_ ?_⟩
      · rintro i ys σ H3 x hx ⟨rfl, hyl, v, rfl⟩
        have hil := get_lt hx
        obtain ⟨q, rfl, hq, _, hir⟩ := map_get hx
        have hiq : i < qs.length := by omega
        have eq : qs[i]? = some qs[i] := List.getElem?_eq_getElem hiq
        have tq := R2.2 i q _ hq eq
        walk_at "fs_rd"
        by_cases g : qs[i].1 = f
        · have g2 : V.int ((qs[i].1 : Nat) : Int) = V.int (0 + (f : Int)) := by rw [g]; congr 1; omega
          rw [decide_eq_true g2]
          walk_at "fs_rd"
          refine Nx.mk hil ⟨rfl, ?_, _, rfl⟩
          rw [fst_take eq, List.count_append, List.length_append, hyl, g]; simp
        · have g2 : ¬ V.int ((qs[i].1 : Nat) : Int) = V.int (0 + (f : Int)) := fun z => by
            have := V.int.inj z
            exact g (by omega)
          rw [decide_eq_false g2]
          walk_at "fs_rd"
          refine Nx.mk hil ⟨rfl, ?_, _, rfl⟩
          rw [fst_take eq, List.count_append, hyl, List.count_singleton, if_neg (by simpa using g), Nat.add_zero]
      · rintro ys σ H3 ⟨rfl, hyl, v, rfl⟩ c hc
        rw [List.take_of_length_le (by rw [List.length_map, List.length_map]; omega)] at hyl
        have s3 := s2.new (o := .lst ys) hc
        have s23 := (Same.refl H3).new (o := .lst ys) hc
        have tc : (upd H3 c (.lst ys)) c = some (.lst ys) := upd_same
        have hlc : l ≠ c := ne_of_none tl2 hc
        have tl3 := s23 _ _ tl2
        generalize upd H3 c (.lst ys) = H4 at s3 s23 tc tl3
        walk_at "fs_rd"
        refine in_lenL (SqL.of tc) ?_
        rw [hyl]
        walk_at "fs_rd"
        refine ⟨ty_list tl3, ?_⟩
        have em : ((lessN (qs.map Prod.fst) f : Nat) : Int) + (((qs.map Prod.fst).count f : Nat) : Int) = ((lessN (qs.map Prod.fst) (f + 1) : Nat) : Int) := by rw [lessN_succ]; omega
        walk_at "fs_rd"
        rw [em]
        refine ⟨three (by simp), fun t ht => ?_⟩
        have s4 := s3.new (o := .tup [V.int ((lessN (qs.map Prod.fst) f : Nat) : Int), V.int ((lessN (qs.map Prod.fst) (f + 1) : Nat) : Int)]) ht
        have s34 := (Same.refl H4).new (o := .tup [V.int ((lessN (qs.map Prod.fst) f : Nat) : Int), V.int ((lessN (qs.map Prod.fst) (f + 1) : Nat) : Int)]) ht
        have tt : (upd H4 t (.tup [V.int ((lessN (qs.map Prod.fst) f : Nat) : Int), V.int ((lessN (qs.map Prod.fst) (f + 1) : Nat) : Int)])) t = some (.tup [V.int ((lessN (qs.map Prod.fst) f : Nat) : Int), V.int ((lessN (qs.map Prod.fst) (f + 1) : Nat) : Int)]) := upd_same
        generalize upd H4 t (.tup [V.int ((lessN (qs.map Prod.fst) f : Nat) : Int), V.int ((lessN (qs.map Prod.fst) (f + 1) : Nat) : Int)]) = H5 at s4 s34 tt
        have tl5 := s34 _ _ tl3
        walk_at "fs_rd"
        refine in_append tl5 (by rw [List.length_map, htl]; exact small1000 (by omega)) ?_
        walk_at "fs_rd"
        rw [em]
        have htl5 : t ≠ l := ne_of tt tl5 (by intro z; cases z)
        refine ⟨s4.own hl, ⟨ts ++ [t], by rw [upd_same, List.map_append]; rfl, by simp [htl], ?_⟩, _, _, rfl⟩
        have e2 : (partsL (qs.map Prod.fst) b).take (f + 1) = (partsL (qs.map Prod.fst) b).take f ++ [(lessN (qs.map Prod.fst) f, lessN (qs.map Prod.fst) (f + 1))] := by rw [List.take_add_one, parts_get hf]; rfl
        rw [e2]
        refine ps_snoc ⟨hP.1, fun i u z x y => ?_⟩ (by rw [upd_ne htl5]; exact tt)
        have z9 := s34 _ _ (s23 _ _ (hP.2 i u z x y))
        rw [upd_ne (ne_of z9 tl5 (by intro z; cases z))]; exact z9
    · rintro σ H2 ⟨s2, ⟨ts, tl2, htl, hP⟩, v4, v5, rfl⟩
      rw [List.take_of_length_le (by rw [parts_len]; exact Nat.le_refl _)] at hP
      walk_at "fs_rd"
      exact k l ts H2 hl s2 tl2 hP

--CUT
structure LwAt (H : Hp) (sa pl ml pt : Addr) (us : List V) (hv : V) (ts : List Addr) (os : List Nat) (b : Nat) (st : HW) : Prop where
  t0 : H sa = some (.lst [.ref pl, hv, .ref ml, .ref pt, .int (st.pt : Nat)])
  tp : H pl = some (.lst us)
  pv : PrsAt H us st.ps
  hh : PrV H hv st.hd
  tm : H ml = some (.lst (NV st.mks))
  tt : H pt = some (.lst (ts.map V.ref))
  pp : PsT H ts (partsL os b)
  en : st.en = (List.range b).map fun f => lessN os (f + 1)
  n1 : sa ≠ pl
  n2 : sa ≠ ml
  n3 : pl ≠ ml
  n4 : pt ≠ sa
  n5 : pt ≠ pl
  n6 : pt ≠ ml
section
variable {H H1 : Hp} {sa pl ml pt : Addr} {us : List V} {hv : V} {ts : List Addr} {os : List Nat} {b : Nat} {st : HW}
theorem LwAt.same (h : LwAt H sa pl ml pt us hv ts os b st) (s : Same H H1) : LwAt H1 sa pl ml pt us hv ts os b st :=
  ⟨s _ _ h.t0, s _ _ h.tp, h.pv.same s, h.hh.same s, s _ _ h.tm, s _ _ h.tt, h.pp.same s, h.en, h.n1, h.n2, h.n3, h.n4, h.n5, h.n6⟩
theorem LwAt.ktup (h : LwAt H sa pl ml pt us hv ts os b st) (k : KpH sa pl ml H H1) {q : Addr} {xs : List V} (t : H q = some (.tup xs)) : H1 q = some (.tup xs) :=
  k _ _ t (ne_of t h.t0 (by intro z; cases z)) (ne_of t h.tp (by intro z; cases z)) (ne_of t h.tm (by intro z; cases z))
theorem LwAt.kv (h : LwAt H sa pl ml pt us hv ts os b st) (k : KpH sa pl ml H H1) {v : V} {o : PR} (p : PrV H v o) : PrV H1 v o := by
  cases o with
  | none => exact p
  | some z => obtain ⟨q, e, t⟩ := p; exact ⟨q, e, h.ktup k t⟩
theorem LwAt.kvs (h : LwAt H sa pl ml pt us hv ts os b st) (k : KpH sa pl ml H H1) {ws : List V} {ps : List PR} (p : PrsAt H ws ps) : PrsAt H1 ws ps := ⟨p.1, fun i v o a c => h.kv k (p.2 i v o a c)⟩
theorem LwAt.kpp (h : LwAt H sa pl ml pt us hv ts os b st) (k : KpH sa pl ml H H1) : PsT H1 ts (partsL os b) := ⟨h.pp.1, fun i q z a c => h.ktup k (h.pp.2 i q z a c)⟩
theorem LwAt.upM (h : LwAt H sa pl ml pt us hv ts os b st) {o : HO} : KpH sa pl ml H (upd H ml o) := fun c u e _ _ n => by rw [upd_ne n]; exact e
theorem LwAt.upP (h : LwAt H sa pl ml pt us hv ts os b st) {o : HO} : KpH sa pl ml H (upd H pl o) := fun c u e _ n _ => by rw [upd_ne n]; exact e
theorem LwAt.upS (h : LwAt H sa pl ml pt us hv ts os b st) {o : HO} : KpH sa pl ml H (upd H sa o) := fun c u e n _ _ => by rw [upd_ne n]; exact e
theorem LwAt.setM (h : LwAt H sa pl ml pt us hv ts os b st) (ms : List Nat) : LwAt (upd H ml (.lst (NV ms))) sa pl ml pt us hv ts os b { st with mks := ms } :=
  ⟨by rw [upd_ne h.n2]; exact h.t0, by rw [upd_ne h.n3]; exact h.tp, h.kvs h.upM h.pv, h.kv h.upM h.hh, upd_same, by rw [upd_ne h.n6]; exact h.tt, h.kpp h.upM, h.en, h.n1, h.n2, h.n3, h.n4, h.n5, h.n6⟩
theorem LwAt.setP (h : LwAt H sa pl ml pt us hv ts os b st) {ws : List V} {ps : List PR} (hw : PrsAt H ws ps) : LwAt (upd H pl (.lst ws)) sa pl ml pt ws hv ts os b { st with ps := ps } :=
  ⟨by rw [upd_ne h.n1]; exact h.t0, upd_same, h.kvs h.upP hw, h.kv h.upP h.hh, by rw [upd_ne (Ne.symm h.n3)]; exact h.tm, by rw [upd_ne h.n5]; exact h.tt, h.kpp h.upP, h.en, h.n1, h.n2, h.n3, h.n4, h.n5, h.n6⟩
theorem LwAt.setS (h : LwAt H sa pl ml pt us hv ts os b st) {v : V} {o : PR} {n : Nat} (hw : PrV H v o) : LwAt (upd H sa (.lst [.ref pl, v, .ref ml, .ref pt, .int (n : Nat)])) sa pl ml pt us v ts os b { st with hd := o, pt := n } :=
  ⟨upd_same, by rw [upd_ne (Ne.symm h.n1)]; exact h.tp, h.kvs h.upS h.pv, h.kv h.upS hw, by rw [upd_ne (Ne.symm h.n2)]; exact h.tm, by rw [upd_ne h.n4]; exact h.tt, h.kpp h.upS, h.en, h.n1, h.n2, h.n3, h.n4, h.n5, h.n6⟩
theorem LwAt.eg (h : LwAt H sa pl ml pt us hv ts os b st) {f : Nat} (hf : f < b) : st.en.getD f 0 = lessN os (f + 1) := by
  rw [h.en, List.getD_eq_getElem?_getD, List.getElem?_map, List.getElem?_range hf]; rfl
theorem LwAt.el (h : LwAt H sa pl ml pt us hv ts os b st) : st.en.length = b := by rw [h.en]; simp
theorem LwAt.part (h : LwAt H sa pl ml pt us hv ts os b st) {f : Nat} (hf : f < b) : ∃ q, (ts.map V.ref)[f]? = some (V.ref q) ∧ H q = some (.tup [.int (lessN os f : Nat), .int (st.en.getD f 0 : Nat)]) := by
  have hl : f < ts.length := by rw [h.pp.1, parts_len]; exact hf
  refine ⟨ts[f], by rw [List.getElem?_map, List.getElem?_eq_getElem hl]; rfl, ?_⟩
  rw [h.eg hf]
  exact h.pp.2 f _ _ (List.getElem?_eq_getElem hl) (parts_get hf)
end
theorem in_gtupL5 {K : PySem.W.Frag} {σ : L2.St} {H : Hp} {i1 i2 i3 i4 i5 : Nat} {p : Addr} {x1 x2 x3 x4 x5 : V} {R : L2.St → Hp → Prop} (e : H p = some (.lst [x1, x2, x3, x4, x5])) (h : R (((((σ.set i1 (some x1)).set i2 (some x2)).set i3 (some x3)).set i4 (some x4)).set i5 (some x5)) H) :
    gTupL K 5 (gCons (gName i1) (gCons (gName i2) (gCons (gName i3) (gCons (gName i4) (gCons (gName i5) gNil))))) (.ref p) σ H R :=
  ⟨p, _, rfl, SqL.of e, rfl, _, _, rfl, _, _, rfl, _, _, rfl, _, _, rfl, _, _, rfl, rfl, h⟩
noncomputable def spMarkL : Sp := fun vs H Q _ => ∃ (sa pl ml pt : Addr) (us : List V) (hv : V) (ts : List Addr) (os : List Nat) (b : Nat) (st : HW) (f : Nat), vs = [.ref sa, .int (f : Nat)] ∧ LwAt H sa pl ml pt us hv ts os b st ∧ HwB st ∧ f < b ∧
  ∀ H', LwAt H' sa pl ml pt us hv ts os b (st.marked f) → (∀ c o, H c = some o → c ≠ ml → H' c = some o) → Q (.int (st.mark f : Nat)) H'
theorem ok_mark (T : Tx K mg t) : FnOk P w K mg base CX0 1 t.f_mark t.d_mark ["_law_state_here", "_law_figure"] spMarkL := by
  refine T.F_mark.okQ sc_mark (fun vs H Q E h => ?_) (fun cdv A outer s H vs Q E hr h => ?_)
  · obtain ⟨sa, pl, ml, pt, us, hv, ts, os, b, st, f, rfl, _⟩ := h
    rfl
  · obtain ⟨sa, pl, ml, pt, us, hv, ts, os, b, st, f, rfl, W, B, hf, k⟩ := h
    have hfe : f < st.en.length := by rw [W.el]; exact hf
    have hfm : f < st.mks.length := by rw [B.ml]; exact hfe
    obtain ⟨b1, b2⟩ := B.mb f hfe
    obtain ⟨qf, eqf, tqf⟩ := W.part hf
    refine ⟨_, (qb_cons (qs_asgT (qv 0) (qg_tupL (K := K) (n := 5) rfl (qgs_cons (qg_name (i := 2) sc_mark.nd rfl (Or.inl rfl)) (qgs_cons (qg_name (i := 3) sc_mark.nd rfl (Or.inl rfl)) (qgs_cons (qg_name (i := 4) sc_mark.nd rfl (Or.inl rfl)) (qgs_cons (qg_name (i := 5) sc_mark.nd rfl (Or.inl rfl)) (qgs_cons (qg_name (i := 6) sc_mark.nd rfl (Or.inl rfl)) qgs_nil)))))))
      (qb_cons (qs_set (i := 7) sc_mark.nd rfl (Or.inl rfl) (qe_ix (q_ixL (K := K)) (qv 4) (qv 1)))
      (qb_cons (qs_while PassesOwn.never (QW.qt (qw_and (qt_cmpR q_lt (qv 7) (qe_ix (q_ixT (K := K)) (qe_ix (q_ixL (K := K)) (qv 5) (qv 1)) qe_int) (nomark _)) (qw_and (qt_cmpR q_notN (qe_ix (q_ixL (K := K)) (qv 2) (qv 7)) qe_non (nomark _)) (qw_and1 (qt_cmpR q_eq (qe_ix (q_ixT (K := K)) (qe_ix (q_ixL (K := K)) (qv 2) (qv 7)) qe_int) (qv 1) (nomark _)))))) (qb_one (qs_set (i := 7) sc_mark.nd rfl (Or.inl rfl) (qe_op q_add (qv 7) qe_int))))
      (qb_cons (qs_sub (qv 7) (qv 4) (qv 1))
      (qb_one (qs_ret (qv 7))))))), ?_⟩
    rw [show L2.start ["_law_state_here", "_law_figure", "_law_places", "_law_held", "_law_marks", "_law_parts", "_law_laid", "_law_at"] [V.ref sa, V.int (f : Nat)] = [some (V.ref sa), some (V.int (f : Nat)), none, none, none, none, none, none] from rfl]
    walk_at "fs_rd"
    refine in_gtupL5 W.t0 ?_
    dsimp only [List.set]
    walk_at "fs_rd"
    refine in_ix (SqL.of W.tm) (v := V.int (st.mks.getD f 0 : Nat)) (atI_nat (NV_get (getD_at hfm))) ?_
    walk_at "fs_rd"
    refine ⟨fun mm σ H' => ∃ p : Nat, mm = st.en.getD f 0 - p ∧ p ≤ st.en.getD f 0 ∧ H = H' ∧ goF st.ps f (st.en.getD f 0) p = st.mark f ∧ σ = [some (V.ref sa), some (V.int (f : Nat)), some (V.ref pl), some hv, some (V.ref ml), some (V.ref pt), some (V.int (st.pt : Nat)), some (V.int (p : Nat))], ⟨_, _, rfl, b1, rfl, rfl, rfl⟩, ?_⟩
    rintro mm σ H' ⟨p, rfl, hp, rfl, e1, rfl⟩
    have fin : st.mark f = p → Q (.int (p : Nat)) (upd H ml (.lst (NV (st.mks.set f p)))) := fun e => by
      have := k _ (W.setM (st.mks.set f (st.mark f))) (fun c o e n => by rw [upd_ne n]; exact e)
      rw [e] at this
      exact this
    walk_at "fs_rd"
    refine in_ix (SqL.of W.tt) (v := V.ref qf) (atI_nat eqf) ?_
    walk_at "fs_rd"
    refine in_split (fun g => ?_) (fun g => ?_)
    · obtain ⟨v, hv1, hv2⟩ := W.pv.get (p := p) (by omega)
      walk_at "fs_rd"
      refine in_ix (SqL.of W.tp) (v := v) (atI_nat hv1) ?_
      have hF : isF st.ps f p = figO f (st.ps.getD p none) := rfl
      cases e : st.ps.getD p none with
      | none =>
        rw [e] at hv2 hF
        have hv3 : v = .non := hv2
        rw [goF_stop (fun z => by rw [hF] at z; cases z.2)] at e1
        walk_at "fs_rd"
        rw [decide_eq_true hv3]
        walk_at "fs_rd"
        refine in_set W.tm (j := f) (ixN_of rfl (by rw [NV_len]; exact hfm)) ?_
        rw [NV_set]
        walk_at "fs_rd"
        exact fin e1.symm
      | some z =>
        rw [e] at hv2 hF
        obtain ⟨q, ev, tq⟩ := hv2
        subst ev
        walk_at "fs_rd"
        rw [decide_eq_false (show ¬ V.ref q = V.non from fun z => by cases z)]
        walk_at "fs_rd"
        refine in_ix (SqL.of W.tp) (v := V.ref q) (atI_nat hv1) ?_
        walk_at "fs_rd"
        by_cases gz : z.1 = f
        · rw [decide_eq_true (show V.int ((z.1 : Nat) : Int) = V.int ((f : Nat) : Int) by rw [gz])]
          walk_at "fs_rd"
          refine ⟨_, fun _ _ z => z, ?_⟩
          walk_at "fs_rd"
          refine ⟨st.en.getD f 0 - (p + 1), by omega, p + 1, rfl, by omega, rfl, ?_, rfl⟩
          rw [← goF_go (by omega) (by rw [hF]; exact decide_eq_true gz)]; exact e1
        · rw [decide_eq_false (show ¬ V.int ((z.1 : Nat) : Int) = V.int ((f : Nat) : Int) from fun y => gz (by have := V.int.inj y; omega))]
          rw [goF_stop (fun y => by rw [hF] at y; exact gz (of_decide_eq_true y.2))] at e1
          walk_at "fs_rd"
          refine in_set W.tm (j := f) (ixN_of rfl (by rw [NV_len]; exact hfm)) ?_
          rw [NV_set]
          walk_at "fs_rd"
          exact fin e1.symm
    · rw [goF_stop (fun z => by omega)] at e1
      walk_at "fs_rd"
      refine in_set W.tm (j := f) (ixN_of rfl (by rw [NV_len]; exact hfm)) ?_
      rw [NV_set]
      walk_at "fs_rd"
      exact fin e1.symm

noncomputable def spNextL : Sp := fun vs H Q _ => ∃ (sa pl ml pt : Addr) (us : List V) (hv : V) (ts : List Addr) (os : List Nat) (b : Nat) (st : HW) (qs : List (Nat × Nat)), vs = [.ref sa] ∧ LwAt H sa pl ml pt us hv ts os b st ∧ HwOk qs b st ∧ (∀ q ∈ qs, q.1 < b) ∧ b ≤ 64 ∧
  ∀ (v : V) (us' : List V) (hv' : V) H', LwAt H' sa pl ml pt us' hv' ts os b st.step.2 → KpH sa pl ml H H' → MvV H' v st.step.1 → Q v H'
theorem ok_next_move (T : Tx K mg t) : FnOk P w K mg base CX0 2 t.f_next_move t.d_next_move ["_law_state_here"] spNextL := by
  refine T.F_next_move.okQ sc_next_move (fun vs H Q E h => ?_) (fun cdv A outer s H vs Q E hr h => ?_)
  · obtain ⟨sa, pl, ml, pt, us, hv, ts, os, b, st, qs, rfl, _⟩ := h
    rfl
  · obtain ⟨sa, pl, ml, pt, us, hv, ts, os, b, st, qs, rfl, W, O, hq, hb, k⟩ := h
    have hhv := W.hh
    have hel := W.el
    have htl : ts.length = b := by rw [W.pp.1, parts_len]
    refine ⟨_, (qb_cons (qs_asgT (qv 0) (qg_tupL (K := K) (n := 5) rfl (qgs_cons (qg_name (i := 1) sc_next_move.nd rfl (Or.inl rfl)) (qgs_cons (qg_name (i := 2) sc_next_move.nd rfl (Or.inl rfl)) (qgs_cons (qg_name (i := 3) sc_next_move.nd rfl (Or.inl rfl)) (qgs_cons (qg_name (i := 4) sc_next_move.nd rfl (Or.inl rfl)) (qgs_cons (qg_name (i := 5) sc_next_move.nd rfl (Or.inl rfl)) qgs_nil)))))))
      (qb_cons (qs_if (qt_cmpR q_isN (qv 2) qe_non (nomark _)) (qb_cons (qs_for PassesOwn.never rfl (qi_range1 rfl T.z_range (qa_c (qe_callB (qc_len (K := K)) (by rfl) T.z_len bt_len (qa_c (qv 4) qa_nil)) qa_nil)) (qg_name (i := 6) sc_next_move.nd rfl (Or.inl rfl)) (qb_cons (qs_set (i := 7) sc_next_move.nd rfl (Or.inl rfl) (qe_call (ok_mark T) (hr.mono (by decide)) rfl T.m_mark T.F_mark.kp T.b_mark pass0 (qa_c (qv 0) (qa_c (qv 6) qa_nil))))
      (qb_one (qs_if (qt_cmpR q_lt (qv 7) (qe_ix (q_ixT (K := K)) (qe_ix (q_ixL (K := K)) (qv 4) (qv 6)) qe_int) (nomark _)) (qb_cons (qs_sub (qe_ix (q_ixL (K := K)) (qv 1) (qv 7)) (qv 0) qe_int)
      (qb_cons (qs_sub qe_non (qv 1) (qv 7))
      (qb_one (qs_ret (qe_tup (qa_c qe_str (qa_c (qv 7) qa_nil))))))) qb_nil))))
      (qb_one (qs_ret qe_non))) qb_nil)
      (qb_cons (qs_set (i := 7) sc_next_move.nd rfl (Or.inl rfl) (qe_call (ok_mark T) (hr.mono (by decide)) rfl T.m_mark T.F_mark.kp T.b_mark pass0 (qa_c (qv 0) (qa_c (qe_ix (q_ixT (K := K)) (qv 2) qe_int) qa_nil))))
      (qb_cons (qs_set (i := 8) sc_next_move.nd rfl (Or.inl rfl) (qe_ix (q_ixL (K := K)) (qv 1) (qv 7)))
      (qb_cons (qs_sub (qv 2) (qv 1) (qv 7))
      (qb_cons (qs_sub (qv 8) (qv 0) qe_int)
      (qb_cons (qs_sub (qe_op q_add (qv 7) qe_int) (qv 3) (qe_ix (q_ixT (K := K)) (qv 2) qe_int))
      (qb_cons (qs_sub (qe_op q_add (qv 5) qe_int) (qv 0) qe_int)
      (qb_one (qs_ret (qe_tup (qa_c (qe_ix (q_ixL (K := K)) (qe_lst (qa_c qe_str (qa_c qe_str qa_nil))) (qe_callTy qc_int (by rfl) T.z_int bt_int (qa_c (qe_cmpR q_isN (qv 8) qe_non (nomark _)) qa_nil))) (qa_c (qv 7) qa_nil))))))))))))), ?_⟩
    rw [show L2.start ["_law_state_here", "_law_places", "_law_held", "_law_marks", "_law_parts", "_law_laid", "_law_figure", "_law_at", "_law_there"] [V.ref sa] = [some (V.ref sa), none, none, none, none, none, none, none, none] from rfl]
    walk_at "fs_rd"
    refine in_gtupL5 W.t0 ?_
    dsimp only [List.set]
    walk_at "fs_rd"
    cases e : st.hd with
    | none =>
      have es : st.step = ((st.takeG st.en.length 0).1.map Mv.take, (st.takeG st.en.length 0).2) := by unfold HW.step; rw [e]
      rw [es] at k
      rw [e] at hhv
      have hv3 : hv = .non := hhv
      rw [decide_eq_true hv3]
      walk_at "fs_rd"
      refine in_lenL (SqL.of W.tt) ?_
      rw [List.length_map, htl]
      walk_at "fs_rd"
      refine ⟨b, rfl, by omega, by omega, for_range (n := b) (fun i σ H' => ∃ s1 : HW, LwAt H' sa pl ml pt us hv ts os b s1 ∧ HwB s1 ∧ s1.en = st.en ∧ s1.takeG (b - i) i = st.takeG st.en.length 0 ∧ KpH sa pl ml H H' ∧ ∃ v6 v7 v8, σ = [some (V.ref sa), some (V.ref pl), some hv, some (V.ref ml), some (V.ref pt), some (V.int (st.pt : Nat)), v6, v7, v8]) ⟨st, W, O.bd, rfl, by rw [hel]; rfl, KpH.refl _ _ _ _, _, _, _, rfl⟩ ?_ ?_⟩
      · rintro i σ H1 hi ⟨s1, W1, B1, e1, eG, K1, v6, v7, v8, rfl⟩
        have hi1 : i < s1.en.length := by rw [e1, hel]; exact hi
        rw [Int.zero_add]
        walk_at "fs_rd"
        refine ⟨sa, pl, ml, pt, us, hv, ts, os, b, s1, i, rfl, W1, B1, hi, fun H2 W2 kp2 => ?_⟩
        have K2 : KpH sa pl ml H H2 := fun c o e x y z => kp2 _ _ (K1 c o e x y z) z
        obtain ⟨qf, eqf, tqf⟩ := W2.part hi
        have hge : b - i = (b - (i + 1)) + 1 := by omega
        rw [hge, HW.takeG] at eG
        have tqf' : H2 qf = some (.tup [.int (lessN os i : Nat), .int (s1.en.getD i 0 : Nat)]) := tqf
        walk_at "fs_rd"
        refine in_ix (SqL.of W2.tt) (v := V.ref qf) (atI_nat eqf) ?_
        walk_at "fs_rd"
        refine in_split (fun g => ?_) (fun g => ?_)
        · have hg : s1.mark i < s1.en.getD i 0 := by omega
          rw [if_pos hg] at eG
          have hpl : s1.mark i < s1.ps.length := Nat.lt_of_lt_of_le hg (B1.mb i hi1).2
          obtain ⟨v, hv1, hv2⟩ := W2.pv.get (p := s1.mark i) hpl
          walk_at "fs_rd"
          refine in_ix (SqL.of W2.tp) (v := v) (atI_nat hv1) ?_
          walk_at "fs_rd"
          refine in_set W2.t0 (j := 1) (ixN_of rfl (by simp)) ?_
          have W3 := W2.setS (n := (s1.marked i).pt) hv2
          have K3 := K2.trans (W2.upS (o := .lst [.ref pl, v, .ref ml, .ref pt, .int ((s1.marked i).pt : Nat)]))
          generalize eH3 : upd H2 sa (.lst [.ref pl, v, .ref ml, .ref pt, .int ((s1.marked i).pt : Nat)]) = H3 at W3 K3
          rw [show upd H2 sa (.lst ([V.ref pl, hv, V.ref ml, V.ref pt, V.int ((s1.marked i).pt : Nat)].set 1 v)) = H3 from eH3]
          clear eH3
          walk_at "fs_rd"
          refine in_set W3.tp (j := s1.mark i) (ixN_of rfl (by rw [W3.pv.1]; exact hpl)) ?_
          have W4 := W3.setP (W3.pv.set (p := s1.mark i) (v := .non) (o := none) rfl)
          have K4 := K3.trans (W3.upP (o := .lst (us.set (s1.mark i) .non)))
          generalize upd H3 pl (.lst (us.set (s1.mark i) .non)) = H4 at W4 K4
          walk_at "fs_rd"
          refine ⟨three (by simp), fun q hq => ?_⟩
          have s5 := (Same.refl H4).new (o := .tup [V.str "take", V.int (s1.mark i : Nat)]) hq
          refine k (.ref q) (us.set (s1.mark i) .non) v _ ?_ (K4.trans (KpH.of s5)) ?_
          · rw [← eG]
            exact W4.same s5
          · rw [← eG]
            exact ⟨q, rfl, upd_same⟩
        · have hg : ¬ s1.mark i < s1.en.getD i 0 := by omega
          rw [if_neg hg] at eG
          walk_at "fs_rd"
          exact ⟨s1.marked i, W2, B1.marked hi1, e1, eG, K2, _, _, _, rfl⟩
      · rintro σ H1 ⟨s1, W1, B1, e1, eG, K1, v6, v7, v8, rfl⟩
        rw [Nat.sub_self, HW.takeG] at eG
        walk_at "fs_rd"
        exact k .non us hv H1 (by rw [← eG]; exact W1) K1 (by rw [← eG]; exact rfl)
    | some z =>
      have es : st.step = (some (match st.ps.getD (st.mark z.1) none with | none => Mv.lay (st.mark z.1) | some _ => Mv.change (st.mark z.1)), st.putG z) := by first | (unfold HW.step; rw [e]; done) | (unfold HW.step; rw [e]; rfl)
      rw [es] at k
      rw [e] at hhv
      obtain ⟨q0, hv3, tq0⟩ := hhv
      obtain ⟨h1, h2, _⟩ := putG_spec O hq e
      have hfe : z.1 < st.en.length := by rw [hel]; exact h1
      have hfm0 : z.1 < st.mks.length := by rw [O.bd.ml]; exact hfe
      rw [decide_eq_false (show ¬ hv = V.non from fun z => by rw [hv3] at z; cases z)]
      subst hv3
      walk_at "fs_rd"
      refine ⟨sa, pl, ml, pt, us, .ref q0, ts, os, b, st, z.1, rfl, W, O.bd, h1, fun H2 W2 kp2 => ?_⟩
      have K2 : KpH sa pl ml H H2 := fun c o e x y z => kp2 _ _ e z
      obtain ⟨v, hv1, hv2⟩ := W2.pv.get (p := st.mark z.1) h2
      have tq2 := W.ktup K2 tq0
      walk_at "fs_rd"
      refine in_ix (SqL.of W2.tp) (v := v) (atI_nat hv1) ?_
      walk_at "fs_rd"
      refine in_set W2.tp (j := st.mark z.1) (ixN_of rfl (by rw [W2.pv.1]; exact h2)) ?_
      have hq2 : PrV H2 (.ref q0) (some z) := ⟨q0, rfl, tq2⟩
      have W3 := W2.setP (W2.pv.set (p := st.mark z.1) (v := .ref q0) (o := some z) hq2)
      have K3 := K2.trans (W2.upP (o := .lst (us.set (st.mark z.1) (.ref q0))))
      have hv3 : PrV (upd H2 pl (.lst (us.set (st.mark z.1) (.ref q0)))) v (st.ps.getD (st.mark z.1) none) := W2.kv W2.upP hv2
      have tq3 := W.ktup K3 tq0
      generalize upd H2 pl (.lst (us.set (st.mark z.1) (.ref q0))) = H3 at W3 K3 hv3 tq3
      walk_at "fs_rd"
      refine in_set W3.t0 (j := 1) (ixN_of rfl (by simp)) ?_
      have W4 := W3.setS (n := st.pt) hv3
      have K4 := K3.trans (W3.upS (o := .lst [.ref pl, v, .ref ml, .ref pt, .int (st.pt : Nat)]))
      have tq4 := W.ktup K4 tq0
      generalize eH4 : upd H3 sa (.lst [.ref pl, v, .ref ml, .ref pt, .int (st.pt : Nat)]) = H4 at W4 K4 tq4
      rw [show upd H3 sa (.lst ([V.ref pl, V.ref q0, V.ref ml, V.ref pt, V.int (({ st.marked z.1 with ps := (st.marked z.1).ps.set (st.mark z.1) (some z) } : HW).pt : Nat)].set 1 v)) = H4 from eH4]
      clear eH4
      have hv4 : PrV H4 v (st.ps.getD (st.mark z.1) none) := W4.hh
      walk_at "fs_rd"
      refine in_set W4.tm (j := z.1) (ixN_of rfl (by rw [NV_len]; show z.1 < (st.mks.set z.1 (st.mark z.1)).length; rw [List.length_set]; exact hfm0)) ?_
      have eM : (NV (st.mks.set z.1 (st.mark z.1))).set z.1 (V.int ((st.mark z.1 : Int) + 1)) = NV (st.mks.set z.1 (st.mark z.1 + 1)) := by
        rw [show ((st.mark z.1 : Int) + 1) = ((st.mark z.1 + 1 : Nat) : Int) by omega, NV_set, List.set_set]
      have W5 := W4.setM (st.mks.set z.1 (st.mark z.1 + 1))
      have K5 := K4.trans (W4.upM (o := .lst (NV (st.mks.set z.1 (st.mark z.1 + 1)))))
      have eH5 : upd H4 ml (.lst ((NV (st.mks.set z.1 (st.mark z.1))).set z.1 (V.int ((st.mark z.1 : Int) + 1)))) = upd H4 ml (.lst (NV (st.mks.set z.1 (st.mark z.1 + 1)))) := by rw [eM]
      generalize upd H4 ml (.lst (NV (st.mks.set z.1 (st.mark z.1 + 1)))) = H5 at W5 K5 eH5
      rw [show upd H4 ml (.lst ((NV (st.marked z.1).mks).set z.1 (V.int ((st.mark z.1 : Int) + 1)))) = H5 from eH5]
      clear eH5
      have hv5 : PrV H5 v (st.ps.getD (st.mark z.1) none) := W5.hh
      walk_at "fs_rd"
      refine in_set W5.t0 (j := 4) (ixN_of rfl (by simp)) ?_
      have W6 := W5.setS (n := st.pt + 1) hv5
      have K6 := K5.trans (W5.upS (o := .lst [.ref pl, v, .ref ml, .ref pt, .int ((st.pt + 1 : Nat) : Int)]))
      have eH6 : upd H5 sa (.lst ([V.ref pl, v, V.ref ml, V.ref pt, V.int (st.pt : Nat)].set 4 (V.int (((st.pt : Nat) : Int) + 1)))) = upd H5 sa (.lst [.ref pl, v, .ref ml, .ref pt, .int ((st.pt + 1 : Nat) : Int)]) := by
        rw [show (((st.pt : Nat) : Int) + 1) = ((st.pt + 1 : Nat) : Int) by omega]; rfl
      generalize upd H5 sa (.lst [.ref pl, v, .ref ml, .ref pt, .int ((st.pt + 1 : Nat) : Int)]) = H6 at W6 K6 eH6
      rw [show upd H5 sa (.lst ([V.ref pl, v, V.ref ml, V.ref pt, V.int (st.pt : Nat)].set 4 (V.int (((st.pt : Nat) : Int) + 1)))) = H6 from eH6]
      clear eH6
      have hv6 : PrV H6 v (st.ps.getD (st.mark z.1) none) := W6.hh
      walk_at "fs_rd"
      refine ⟨three (by simp), fun cl hcl => ?_⟩
      have s7 := (Same.refl H6).new (o := .lst [V.str (Str.ofString "change"), V.str (Str.ofString "lay")]) hcl
      have tcl : (upd H6 cl (.lst [V.str (Str.ofString "change"), V.str (Str.ofString "lay")])) cl = some (.lst [V.str (Str.ofString "change"), V.str (Str.ofString "lay")]) := upd_same
      generalize upd H6 cl (.lst [V.str (Str.ofString "change"), V.str (Str.ofString "lay")]) = H7 at s7 tcl
      have W7 := W6.same s7
      have K7 := K6.trans (KpH.of s7)
      have fin : ∀ (m : Mv) (x : Str), (match st.ps.getD (st.mark z.1) none with | none => Mv.lay (st.mark z.1) | some _ => Mv.change (st.mark z.1)) = m → (∀ Hx q, Hx q = some (.tup [V.str x, V.int (st.mark z.1 : Nat)]) → MvV Hx (.ref q) (some m)) → ∀ q, H7 q = none → Q (.ref q) (upd H7 q (.tup [V.str x, V.int (st.mark z.1 : Nat)])) := fun m x em hx q hq => by
        have s8 := (Same.refl H7).new (o := .tup [V.str x, V.int (st.mark z.1 : Nat)]) hq
        refine k (.ref q) (us.set (st.mark z.1) (.ref q0)) v _ (W7.same s8) (K7.trans (KpH.of s8)) ?_
        rw [em]
        exact hx _ _ upd_same
      walk_at "fs_rd"
      cases eo : st.ps.getD (st.mark z.1) none with
      | none =>
        rw [eo] at hv6
        have hv7 : v = .non := hv6
        rw [decide_eq_true hv7]
        walk_at "fs_rd"
        refine ⟨three (by simp), fun q hq => fin (Mv.lay (st.mark z.1)) "lay" (by rw [eo]) (fun Hx q e => ⟨q, rfl, e⟩) q hq⟩
      | some y =>
        rw [eo] at hv6
        obtain ⟨q9, hv7, _⟩ := hv6
        rw [decide_eq_false (show ¬ v = V.non from fun z => by rw [hv7] at z; cases z)]
        walk_at "fs_rd"
        refine ⟨three (by simp), fun q hq => fin (Mv.change (st.mark z.1)) "change" (by rw [eo]) (fun Hx q e => ⟨q, rfl, e⟩) q hq⟩

noncomputable def spStateL : Sp := fun vs H Q _ => ∃ (a : Addr) (rs : List Addr) (qs : List (Nat × Nat)) (b : Nat), vs = [.ref a, .int (b : Nat)] ∧ H a = some (.lst (rs.map V.ref)) ∧ PsT H rs qs ∧ qs.length ≤ 200 ∧ b ≤ 64 ∧
  ∀ (sa pl ml pt : Addr) (us : List V) (ts : List Addr) H', H sa = none → H pl = none → H ml = none → H pt = none → LwAt H' sa pl ml pt us .non ts (qs.map Prod.fst) b (hw0 qs b) → Same H H' → Q (.ref sa) H'
theorem ok_state (T : Tx K mg t) : FnOk P w K mg base CX0 2 t.f_state t.d_state ["_law_pairs_here", "_law_base_here"] spStateL := by
  refine T.F_state.okQ sc_state (fun vs H Q E h => ?_) (fun cdv A outer s H vs Q E hr h => ?_)
  · obtain ⟨a, rs, qs, b, rfl, _⟩ := h
    rfl
  · obtain ⟨a, rs, qs, b, rfl, ta, R, hn, hb, k⟩ := h
    refine ⟨_, (qb_cons (qs_set (i := 2) sc_state.nd rfl (Or.inl rfl) (qe_call (ok_part_begins T) (hr.mono (by decide)) rfl T.m_part_begins T.F_part_begins.kp T.b_part_begins pass0 (qa_c (qv 0) (qa_c (qv 1) qa_nil))))
      (qb_one (qs_ret (qe_lst (qa_c (qe_callTy (qc_list (K := K)) (by rfl) T.z_list bt_list (qa_c (qv 0) qa_nil)) (qa_c qe_non (qa_c (qe_comp (N := ["_law_part"]) (tgs := ["_law_part"]) (frs := []) (ix := []) ⟨rfl, by decide +kernel, rfl, by decide +kernel, rfl, rfl, True.intro, True.intro, rfl⟩ rfl (qi_list (K := K) (qv 2)) (fun _ _ _ _ => (qg_name (i := 0) (by show List.Nodup (["_law_part"] : List Str); decide +kernel) rfl (Or.inl rfl))) (fun _ _ _ _ => (qe_ix (q_ixT (K := K)) (qv 0) qe_int))) (qa_c (qv 2) (qa_c qe_int qa_nil))))))))), ?_⟩
    rw [show L2.start ["_law_pairs_here", "_law_base_here", "_law_parts"] [V.ref a, V.int (b : Nat)] = [some (V.ref a), some (V.int (b : Nat)), none] from rfl]
    walk_at "fs_rd"
    refine ⟨a, rs, qs, b, rfl, ta, R, hn, hb, fun l ts H1 hl s1 tl P => ?_⟩
    have htl : ts.length = b := by rw [P.1, parts_len]
    walk_at "fs_rd"
    refine ⟨a, rs.map V.ref, rfl, .inl (SqL.of (s1 _ _ ta)), fun pl hpl => ?_⟩
    have s2 := s1.new (o := .lst (rs.map V.ref)) hpl
    have s12 := (Same.refl H1).new (o := .lst (rs.map V.ref)) hpl
    have tp2 : (upd H1 pl (.lst (rs.map V.ref))) pl = some (.lst (rs.map V.ref)) := upd_same
    have hlp : l ≠ pl := ne_of_none tl hpl
    generalize upd H1 pl (.lst (rs.map V.ref)) = H2 at s2 s12 tp2
    have tl2 := s12 _ _ tl
    have P2 := P.same s12
    walk_at "fs_rd"
    refine ⟨l, rfl, ⟨_, SqL.of tl2⟩, comp_lst (a := l) (vs := ts.map V.ref) (fun i ys σ H' => H' = H2 ∧ ys = NV (((List.range b).map fun f => lessN (qs.map Prod.fst) f).take i) ∧ i ≤ ts.length ∧ ∃ v, σ = [v]) (by rw [List.length_map, htl]; exact small1000 (by omega)) (fun i ys σ H' h => by rw [h.2.1, NV_len, List.length_take, List.length_map, List.length_range]; have := h.2.2.1; omega) (fun i ys σ H' h => by rw [h.1]; exact SqL.of tl2) ⟨rfl, rfl, Nat.zero_le _, none, rfl⟩ ?_ ?_⟩
    · rintro i ys σ H' x hx ⟨rfl, rfl, hi, v, rfl⟩
      have hil := get_lt hx
      obtain ⟨q, rfl, hq, _, hiq⟩ := map_get hx
      have hib : i < b := by omega
      have tq := P2.2 i q _ hq (parts_get hib)
      have tq' : H' q = some (.tup [.int (lessN (qs.map Prod.fst) i : Nat), .int (lessN (qs.map Prod.fst) (i + 1) : Nat)]) := tq
      walk_at "fs_rd"
      refine Nx.mk hil ⟨rfl, ?_, hiq, _, rfl⟩
      rw [List.take_add_one, List.getElem?_map, List.getElem?_range hib, NV_snoc]; rfl
    · rintro ys σ H' ⟨rfl, rfl, hi, v, rfl⟩ ml hml
      rw [List.take_of_length_le (by rw [List.length_map, List.length_range, List.length_map]; omega)]
      have s3 := (Same.refl H').new (o := .lst (NV ((List.range b).map fun f => lessN (qs.map Prod.fst) f))) hml
      have tm3 : (upd H' ml (.lst (NV ((List.range b).map fun f => lessN (qs.map Prod.fst) f)))) ml = some (.lst (NV ((List.range b).map fun f => lessN (qs.map Prod.fst) f))) := upd_same
      have hpm : pl ≠ ml := ne_of_none tp2 hml
      have hlm : l ≠ ml := ne_of_none tl2 hml
      generalize upd H' ml (.lst (NV ((List.range b).map fun f => lessN (qs.map Prod.fst) f))) = H3 at s3 tm3
      walk_at "fs_rd"
      refine ⟨three (by simp), fun sa hsa => ?_⟩
      have s4 := (Same.refl H3).new (o := .lst [V.ref pl, V.non, V.ref ml, V.ref l, V.int 0]) hsa
      have t4 : (upd H3 sa (.lst [V.ref pl, V.non, V.ref ml, V.ref l, V.int 0])) sa = some (.lst [V.ref pl, V.non, V.ref ml, V.ref l, V.int 0]) := upd_same
      have h1 := ne_of_none (s3 _ _ tp2) hsa
      have h2 := ne_of_none tm3 hsa
      have h3 := ne_of_none (s3 _ _ tl2) hsa
      generalize upd H3 sa (.lst [V.ref pl, V.non, V.ref ml, V.ref l, V.int 0]) = H4 at s4 t4
      have s34 := s3.trans s4
      exact k sa pl ml l (rs.map V.ref) ts H4 (s2.free (s3.free hsa)) (s1.free hpl) (s2.free hml) hl ⟨t4, s34 _ _ tp2, (R.same (s2.trans s34)).prs, rfl, s4 _ _ tm3, s34 _ _ tl2, P2.same s34, rfl, Ne.symm h1, Ne.symm h2, hpm, h3, hlp, hlm⟩ (s2.trans s34)
theorem prv_tg {H : Hp} {v : V} {o : PR} (h : PrV H v o) (hb : ∀ z, o = some z → z.1 < 1000 ∧ z.2 < 1000) : Tg H v (prD o) := by
  cases o with
  | none =>
    have : v = .non := h
    rw [this]; exact .inl LfG.non
  | some z =>
    obtain ⟨q, rfl, t⟩ := h
    obtain ⟨b1, b2⟩ := hb z rfl
    refine .inr ⟨q, _, [.int (z.1 : Nat), .int (z.2 : Nat)], rfl, rfl, t, rfl, by simp, by simp, fun j u e a b => ?_⟩
    match j, a, b with
    | 0, a, b => cases a; cases b; exact LfG.int (by rw [Int.natAbs_natCast]; exact b1)
    | 1, a, b => cases a; cases b; exact LfG.int (by rw [Int.natAbs_natCast]; exact b2)
    | j + 2, a, b => cases a
theorem prv_the {H : Hp} {v v' : V} {o : PR} (h : PrV H v o) (h' : PrV H v' o) : ThE H v v' := by
  cases o with
  | none =>
    have e1 : v = .non := h
    have e2 : v' = .non := h'
    rw [e1, e2]; exact ThE.non
  | some z =>
    obtain ⟨q, rfl, t⟩ := h
    obtain ⟨q', rfl, t'⟩ := h'
    exact .inr ⟨q, q', _, rfl, rfl, t, t', by simp, by simp, fun x hx => by
      simp only [List.mem_cons, List.not_mem_nil, or_false] at hx
      rcases hx with rfl | rfl <;> exact .inr (.inr (.inl ⟨_, rfl⟩))⟩
noncomputable def Sml (st : HW) : Prop := (∀ o ∈ st.ps, ∀ z, o = some z → z.1 < 1000 ∧ z.2 < 1000) ∧ ∀ z, st.hd = some z → z.1 < 1000 ∧ z.2 < 1000
theorem sml_of {qs : List (Nat × Nat)} {b : Nat} {st : HW} (O : HwOk qs b st) (h : ∀ q ∈ qs, q.1 < 1000 ∧ q.2 < 1000) : Sml st := by
  refine ⟨fun o ho z e => h z (O.pe.mem_iff.mp ?_), fun z e => h z (O.pe.mem_iff.mp ?_)⟩
  · unfold HW.all fm
    exact List.mem_append_left _ (List.mem_filterMap.mpr ⟨o, ho, e⟩)
  · unfold HW.all
    rw [e]; simp
theorem prs_tgs {H : Hp} {us : List V} {ps : List PR} (h : PrsAt H us ps) (hb : ∀ o ∈ ps, ∀ z, o = some z → z.1 < 1000 ∧ z.2 < 1000) : Tgs H us (ps.map prD) := by
  refine ⟨by rw [List.length_map]; exact h.1, fun i v d a b => ?_⟩
  rw [List.getElem?_map] at b
  obtain ⟨o, ho, rfl⟩ := Option.map_eq_some_iff.mp b
  exact prv_tg (h.2 i v o a ho) (hb o (List.mem_of_getElem? ho))
theorem in_neS {x y : Str} {H : Hp} {Q : VK} (h : Q (.bl (!decide (V.str x = V.str y))) H) : rNe (.str x) (.str y) H Q := ⟨rfl, h⟩
theorem in_eqS {x y : Str} {H : Hp} {Q : VK} (h : Q (.bl (decide (V.str x = V.str y))) H) : rEq (.str x) (.str y) H Q := ⟨rfl, h⟩
noncomputable def spToldL (C : Addr) : Sp := fun vs H Q _ => ∃ (w pa ma ea sa pl ml pt : Addr) (us us' : List V) (hv hv' : V) (ts : List Addr) (os : List Nat) (b : Nat) (st : HW), vs = [.ref w, .ref sa] ∧ HwAt C H w pa ma ea us hv st ∧ LwAt H sa pl ml pt us' hv' ts os b st ∧ Sml st ∧ st.ps.length ≤ 200 ∧ ∀ H', Same H H' → Q (.bl true) H'
theorem ok_told (T : Tx K mg t) : FnOk P w K mg base CX0 3 t.f_told t.d_told ["_law_walk", "_law_state_here"] (spToldL t.c_HeapWalk) := by
  refine T.F_told.okQ sc_told (fun vs H Q E h => ?_) (fun cdv A outer s H vs Q E hr h => ?_)
  · obtain ⟨w, pa, ma, ea, sa, pl, ml, pt, us, us', hv, hv', ts, os, b, st, rfl, _⟩ := h
    rfl
  · obtain ⟨w, pa, ma, ea, sa, pl, ml, pt, us, us', hv, hv', ts, os, b, st, rfl, W, L, hS, hn, k⟩ := h
    obtain ⟨dx, ob⟩ := W.ob
    have hno : ∀ (pa : Addr) (hv : V) (ma ea : Addr) (m : Int), (hwF pa hv ma ea m).lookup ("row" : Str) = none ∧ (hwF pa hv ma ea m).lookup ("hand" : Str) = none ∧ (hwF pa hv ma ea m).lookup ("puts" : Str) = none := fun pa hv ma ea m => ⟨hwF_no _ _ _ _ _ (by decide +kernel) (by decide +kernel) (by decide +kernel) (by decide +kernel) (by decide +kernel), hwF_no _ _ _ _ _ (by decide +kernel) (by decide +kernel) (by decide +kernel) (by decide +kernel) (by decide +kernel), hwF_no _ _ _ _ _ (by decide +kernel) (by decide +kernel) (by decide +kernel) (by decide +kernel) (by decide +kernel)⟩
    refine ⟨_, (qb_cons (qs_set (i := 2) sc_told.nd rfl (Or.inl rfl) (qe_meth0 (qv 0) T.cl_HeapWalk T.M_HeapWalk_row (ok_HeapWalk_row T) (hr.mono (by decide)) T.b_HeapWalk_row pass0 ))
      (qb_cons (qs_if (QW.qt (qw_or (qt_not (qt_val (qe_callB (qc_isi (K := K)) (by rfl) T.z_isinstance bt_isinstance (qa_c (qv 2) (qa_c (qe_bltn rfl T.z_list bt_list (v := .ty "list") rfl) qa_nil))))) (qw_or1 (qt_cmpR q_ne (qe_callTy (qc_strA hr.gd hr.units) (by rfl) T.z_str bt_str (qa_c (qv 2) qa_nil)) (qe_callTy (qc_strA hr.gd hr.units) (by rfl) T.z_str bt_str (qa_c (qe_ix (q_ixL (K := K)) (qv 1) qe_int) qa_nil)) (nomark _))))) (qb_one (qs_ret qe_bl)) qb_nil)
      (qb_one (qs_ret (qe_and (qe_cmpR q_eq (qe_callTy (qc_strA hr.gd hr.units) (by rfl) T.z_str bt_str (qa_c (qe_meth0 (qv 0) T.cl_HeapWalk T.M_HeapWalk_hand (ok_HeapWalk_hand T) (hr.mono (by decide)) T.b_HeapWalk_hand pass0 ) qa_nil)) (qe_callTy (qc_strA hr.gd hr.units) (by rfl) T.z_str bt_str (qa_c (qe_ix (q_ixL (K := K)) (qv 1) qe_int) qa_nil)) (nomark _)) (qe_one (qe_cmpR q_eq (qe_meth0 (qv 0) T.cl_HeapWalk T.M_HeapWalk_puts (ok_HeapWalk_puts T) (hr.mono (by decide)) T.b_HeapWalk_puts pass0 ) (qe_ix (q_ixL (K := K)) (qv 1) qe_int) (nomark _)))))))), ?_⟩
    rw [show L2.start ["_law_walk", "_law_state_here", "_law_found"] [V.ref w, V.ref sa] = [some (V.ref w), some (V.ref sa), none] from rfl]
    walk_at "fs_rd"
    refine ⟨w, dx, _, rfl, ob, (hno _ _ _ _ _).1, ?_⟩
    walk_at "fs_rd"
    refine ⟨w, pa, ma, ea, us, hv, st, rfl, W, hn, fun l ys H1 hl s1 tl P1 => ?_⟩
    have W1 := W.same s1
    have L1 := L.same s1
    obtain ⟨dx1, ob1⟩ := W1.ob
    have D1 := prs_tgs P1 hS.1
    have D2 := prs_tgs L1.pv hS.1
    have st1 := D1.strA (by rw [P1.1]; exact hn) tl
    have st2 := D2.strA (by rw [L1.pv.1]; exact hn) L1.tp
    walk_at "fs_rd"
    refine in_isiLL tl ?_
    walk_at "fs_rd"
    refine ⟨_, _, rfl, st1, ?_⟩
    walk_at "fs_rd"
    refine in_ix (SqL.of L1.t0) (v := V.ref pl) (atI_nat (j := 0) rfl) ?_
    walk_at "fs_rd"
    refine ⟨_, _, rfl, st2, ?_⟩
    refine in_neS ?_
    rw [decide_eq_true rfl]
    walk_at "fs_rd"
    refine ⟨w, dx1, _, rfl, ob1, (hno _ _ _ _ _).2.1, ?_⟩
    walk_at "fs_rd"
    refine ⟨w, pa, ma, ea, us, hv, st, rfl, W1, fun v H2 s2 hv2 => ?_⟩
    have W2 := W1.same s2
    have L2 := L1.same s2
    obtain ⟨dx2, ob2⟩ := W2.ob
    obtain ⟨sx, e1, e2⟩ := (prv_tg L2.hh hS.2).strA
    have e3 := e2 v (prv_the L2.hh hv2)
    walk_at "fs_rd"
    refine ⟨_, _, rfl, e3, ?_⟩
    walk_at "fs_rd"
    refine in_ix (SqL.of L2.t0) (v := hv') (atI_nat (j := 1) rfl) ?_
    walk_at "fs_rd"
    refine ⟨_, _, rfl, e1, ?_⟩
    refine in_eqS ?_
    rw [decide_eq_true rfl]
    walk_at "fs_rd"
    refine ⟨w, dx2, _, rfl, ob2, (hno _ _ _ _ _).2.2, ?_⟩
    walk_at "fs_rd"
    refine ⟨w, pa, ma, ea, us, hv, st, rfl, W2, ?_⟩
    walk_at "fs_rd"
    refine in_ix (SqL.of L2.t0) (v := V.int (st.pt : Nat)) (atI_nat (j := 4) rfl) ?_
    walk_at "fs_rd"
    rw [decide_eq_true rfl]
    exact k H2 (s1.trans s2)

noncomputable def spSpoilL : Sp := fun vs H Q _ => ∃ (a : Addr) (rs : List Addr) (qs : List (Nat × Nat)), vs = [.ref a] ∧ PrsF H a rs qs ∧ qs.length ≤ 200 ∧ ∀ H', (∀ c o, H c = some o → ((c = a ∨ c ∈ rs) → ∃ xs, o = .tup xs) → H' c = some o) → Q .non H'
theorem ok_spoil (T : Tx K mg t) : FnOk P w K mg base CX0 1 t.f_spoil t.d_spoil ["_law_handed"] spSpoilL := by
  refine T.F_spoil.okQ sc_spoil (fun vs H Q E h => ?_) (fun cdv A outer s H vs Q E hr h => ?_)
  · obtain ⟨a, rs, qs, rfl, _⟩ := h
    rfl
  · obtain ⟨a, rs, qs, rfl, hF, hn, k⟩ := h
    have hrl := prsF_len hF
    refine ⟨_, (qb_one (qs_if (qt_val (qe_callB (qc_isi (K := K)) (by rfl) T.z_isinstance bt_isinstance (qa_c (qv 0) (qa_c (qe_bltn rfl T.z_list bt_list (v := .ty "list") rfl) qa_nil)))) (qb_cons (qs_for PassesOwn.never rfl (qi_list (K := K) (qv 0)) (qg_name (i := 1) sc_spoil.nd rfl (Or.inl rfl)) (qb_one (qs_if (qt_val (qe_callB (qc_isi (K := K)) (by rfl) T.z_isinstance bt_isinstance (qa_c (qv 1) (qa_c (qe_bltn rfl T.z_list bt_list (v := .ty "list") rfl) qa_nil)))) (qb_cons (qs_sub qe_int (qv 1) qe_int)
      (qb_one (qs_expr (qe_reverse (K := K) (qv 1))))) qb_nil)))
      (qb_cons (qs_expr (qe_reverse (K := K) (qv 0)))
      (qb_one (qs_expr (qe_append (K := K) (qv 0) (qa_c (qe_tup (qa_c qe_int (qa_c qe_str qa_nil))) qa_nil)))))) qb_nil)), ?_⟩
    rw [show L2.start ["_law_handed", "_law_pair"] [V.ref a] = [some (V.ref a), none] from rfl]
    walk_at "fs_rd"
    rcases hF with ⟨ta, R⟩ | ⟨ta, R⟩ | ⟨ta, R⟩
    · refine in_isiLL ta ?_
      walk_at "fs_rd"
      refine ⟨a, rfl, ⟨_, SqL.of ta⟩, for_list (a := a) (xs := rs.map V.ref) (fun i σ H' => H' = H ∧ ∃ v, σ = [some (V.ref a), v]) ⟨rfl, _, rfl⟩ (fun i σ H' _ h => by rw [h.1]; exact SqL.of ta) ?_ ?_⟩
      · rintro i x σ H1 hx ⟨rfl, v, rfl⟩
        obtain ⟨r, rfl, hr, _, hi⟩ := map_get hx
        have hiq : i < qs.length := by omega
        have tr := R.2 i r _ hr (List.getElem?_eq_getElem hiq)
        walk_at "fs_rd"
        refine in_isiTLf tr ?_
        walk_at "fs_rd"
        exact ⟨rfl, _, rfl⟩
      · rintro σ H1 ⟨rfl, v, rfl⟩
        walk_at "fs_rd"
        refine ⟨ty_list ta, ?_⟩
        refine ⟨a, _, rfl, rfl, ta, ?_⟩
        have kp2 : ∀ c o, H1 c = some o → c ≠ a → (upd H1 a (.lst (rs.map V.ref).reverse)) c = some o := fun c o e hc => by rw [upd_ne hc]; exact e
        have t2 : (upd H1 a (.lst (rs.map V.ref).reverse)) a = some (.lst (rs.map V.ref).reverse) := upd_same
        generalize upd H1 a (.lst (rs.map V.ref).reverse) = H2 at kp2 t2
        walk_at "fs_rd"
        refine ⟨ty_list t2, ?_⟩
        walk_at "fs_rd"
        refine ⟨three (by simp), fun q hq => ?_⟩
        have s3 := (Same.refl H2).new (o := .tup [V.int 0, V.str (Str.ofString "more")]) hq
        generalize upd H2 q (.tup [V.int 0, V.str (Str.ofString "more")]) = H3 at s3
        walk_at "fs_rd"
        refine in_append (s3 _ _ t2) (by rw [List.length_reverse, List.length_map]; exact small1000 (by omega)) ?_
        walk_at "fs_rd"
        refine k _ fun c o e ht => ?_
        have hc : c ≠ a := fun z => by
          obtain ⟨xs, rfl⟩ := ht (.inl z)
          rw [z, ta] at e; cases e
        rw [upd_ne hc]; exact s3 _ _ (kp2 c o e hc)
    · refine in_isiTLf ta ?_
      walk_at "fs_rd"
      exact k H fun c o e _ => e
    · have hra : ∀ r ∈ rs, r ≠ a := fun r hr z => by
        obtain ⟨i, hi, e⟩ := List.getElem_of_mem hr
        have hiq : i < qs.length := by omega
        have tr := R.2 i r _ (by rw [List.getElem?_eq_getElem hi, e]) (List.getElem?_eq_getElem hiq)
        rw [z, ta] at tr
        have e2 := HO.lst.inj (Option.some.inj tr)
        have h0 : rs ≠ [] := fun z => by rw [z] at hi; simp at hi
        cases rs with
        | nil => exact h0 rfl
        | cons r0 rr => simp at e2
      refine in_isiLL ta ?_
      walk_at "fs_rd"
      refine ⟨a, rfl, ⟨_, SqL.of ta⟩, for_list (a := a) (xs := rs.map V.ref) (fun i σ H' => (∀ c o, H c = some o → c ∉ rs → H' c = some o) ∧ (∀ r ∈ rs, ∃ x y, H' r = some (.lst [x, y])) ∧ ∃ v, σ = [some (V.ref a), v]) ⟨fun c o e _ => e, fun r hr => ?_, _, rfl⟩ (fun i σ H' _ h => SqL.of (h.1 _ _ ta fun z => hra a z rfl)) ?_ ?_⟩
      · obtain ⟨i, hi, e⟩ := List.getElem_of_mem hr
        have hiq : i < qs.length := by omega
        exact ⟨_, _, R.2 i r _ (by rw [List.getElem?_eq_getElem hi, e]) (List.getElem?_eq_getElem hiq)⟩
      · rintro i x σ H1 hx ⟨kp1, hl1, v, rfl⟩
        obtain ⟨r, rfl, hr, hrm, hi⟩ := map_get hx
        obtain ⟨x1, y1, tr⟩ := hl1 r hrm
        walk_at "fs_rd"
        refine in_isiLL tr ?_
        walk_at "fs_rd"
        refine ⟨ty_list upd_same, ?_⟩
        refine ⟨r, _, rfl, rfl, upd_same, ?_⟩
        refine ⟨fun c o e hc => ?_, fun r' hr' => ?_, _, rfl⟩
        · have hcr : c ≠ r := fun z => hc (by rw [z]; exact hrm)
          rw [upd_ne hcr, upd_ne hcr]; exact kp1 c o e hc
        · by_cases z : r' = r
          · subst z; exact ⟨_, _, upd_same⟩
          · rw [upd_ne z, upd_ne z]; exact hl1 r' hr'
      · rintro σ H1 ⟨kp1, hl1, v, rfl⟩
        have ta1 := kp1 _ _ ta fun z => hra a z rfl
        walk_at "fs_rd"
        refine ⟨ty_list ta1, ?_⟩
        refine ⟨a, _, rfl, rfl, ta1, ?_⟩
        have kp2 : ∀ c o, H1 c = some o → c ≠ a → (upd H1 a (.lst (rs.map V.ref).reverse)) c = some o := fun c o e hc => by rw [upd_ne hc]; exact e
        have t2 : (upd H1 a (.lst (rs.map V.ref).reverse)) a = some (.lst (rs.map V.ref).reverse) := upd_same
        generalize upd H1 a (.lst (rs.map V.ref).reverse) = H2 at kp2 t2
        walk_at "fs_rd"
        refine ⟨ty_list t2, ?_⟩
        walk_at "fs_rd"
        refine ⟨three (by simp), fun q hq => ?_⟩
        have s3 := (Same.refl H2).new (o := .tup [V.int 0, V.str (Str.ofString "more")]) hq
        generalize upd H2 q (.tup [V.int 0, V.str (Str.ofString "more")]) = H3 at s3
        walk_at "fs_rd"
        refine in_append (s3 _ _ t2) (by rw [List.length_reverse, List.length_map]; exact small1000 (by omega)) ?_
        walk_at "fs_rd"
        refine k _ fun c o e ht => ?_
        have hc : c ≠ a := fun z => by
          obtain ⟨xs, rfl⟩ := ht (.inl z)
          rw [z, ta] at e; cases e
        rw [upd_ne hc]
        refine s3 _ _ (kp2 c o (kp1 c o e fun hm => ?_) hc)
        obtain ⟨xs, rfl⟩ := ht (.inr hm)
        obtain ⟨i, hi, e2⟩ := List.getElem_of_mem hm
        have hiq : i < qs.length := by omega
        have tr := R.2 i c _ (by rw [List.getElem?_eq_getElem hi, e2]) (List.getElem?_eq_getElem hiq)
        rw [e] at tr; cases tr

noncomputable def mvD : Option Mv → PyData
  | none => .none
  | some m => .tuple [.str m.wd, .int (m.pl : Nat)]
theorem wd_ok (m : Mv) : PyData.strOk m.wd = true := by
  cases m with
  | take p => exact (show PyData.strOk (Str.ofString "take") = true by decide +kernel)
  | lay p => exact (show PyData.strOk (Str.ofString "lay") = true by decide +kernel)
  | change p => exact (show PyData.strOk (Str.ofString "change") = true by decide +kernel)
theorem mv_dat {H : Hp} {v : V} {m : Option Mv} (h : MvV H v m) : DatE 1 H v (mvD m) := by
  cases m with
  | none =>
    have : v = .non := h
    rw [this]; exact DatE.non
  | some m =>
    obtain ⟨q, rfl, t⟩ := h.some
    refine DatE.tup t rfl fun i u e e1 e2 => ?_
    match i, e1, e2 with
    | 0, e1, e2 => cases e1; cases e2; exact DatE.str (wd_ok m)
    | 1, e1, e2 => cases e1; cases e2; exact DatE.int _
    | i + 2, e1, e2 => cases e1
theorem mv_tk {H H1 : Hp} {v : V} {m : Option Mv} (h : MvV H v m) (k : TupK H H1) : MvV H1 v m := by
  cases m with
  | none => exact h
  | some m => cases m <;> (obtain ⟨q, e, t⟩ := h; exact ⟨q, e, k _ _ t⟩)
theorem prv_tk {H H1 : Hp} {v : V} {o : PR} (h : PrV H v o) (k : TupK H H1) : PrV H1 v o := by
  cases o with
  | none => exact h
  | some z => obtain ⟨q, e, t⟩ := h; exact ⟨q, e, k _ _ t⟩
theorem prs_tk {H H1 : Hp} {vs : List V} {ps : List PR} (h : PrsAt H vs ps) (k : TupK H H1) : PrsAt H1 vs ps := ⟨h.1, fun i v o a b => prv_tk (h.2 i v o a b) k⟩
theorem pst_tk {H H1 : Hp} {rs : List Addr} {qs : List (Nat × Nat)} (h : PsT H rs qs) (k : TupK H H1) : PsT H1 rs qs := ⟨h.1, fun i a z x y => k _ _ (h.2 i a z x y)⟩
theorem hw_keep {C : Addr} {H H1 : Hp} {w pa ma ea : Addr} {us : List V} {hv : V} {st : HW} (W : HwAt C H w pa ma ea us hv st) (k : ∀ c o, H c = some o → (c = w ∨ c = pa ∨ c = ma ∨ c = ea) → H1 c = some o) (t : TupK H H1) : HwAt C H1 w pa ma ea us hv st := by
  obtain ⟨dx, ob⟩ := W.ob
  exact ⟨⟨dx, k _ _ ob (.inl rfl)⟩, k _ _ W.tp (.inr (.inl rfl)), prs_tk W.pv t, prv_tk W.hh t, k _ _ W.tm (.inr (.inr (.inl rfl))), k _ _ W.te (.inr (.inr (.inr rfl))), W.n1, W.n2, W.n3⟩
theorem lw_keep {H H1 : Hp} {sa pl ml pt : Addr} {us : List V} {hv : V} {ts : List Addr} {os : List Nat} {b : Nat} {st : HW} (L : LwAt H sa pl ml pt us hv ts os b st) (k : ∀ c o, H c = some o → (c = sa ∨ c = pl ∨ c = ml ∨ c = pt) → H1 c = some o) (t : TupK H H1) : LwAt H1 sa pl ml pt us hv ts os b st :=
  ⟨k _ _ L.t0 (.inl rfl), k _ _ L.tp (.inr (.inl rfl)), prs_tk L.pv t, prv_tk L.hh t, k _ _ L.tm (.inr (.inr (.inl rfl))), k _ _ L.tt (.inr (.inr (.inr rfl))), pst_tk L.pp t, L.en, L.n1, L.n2, L.n3, L.n4, L.n5, L.n6⟩
noncomputable def DoneW (qs : List (Nat × Nat)) (b : Nat) (st : HW) : Prop := st.hd = none ∧ ∀ g, g < b → ∀ p, lessN (qs.map Prod.fst) g ≤ p → p < lessN (qs.map Prod.fst) (g + 1) → isF st.ps g p = true
theorem step_on {qs : List (Nat × Nat)} {b : Nat} {st : HW} {i : Nat} (O : HwOk qs b st) (hq : ∀ q ∈ qs, q.1 < b) (h : st.mu (qs.map Prod.fst) + i ≤ 2 * qs.length ∨ DoneW qs b st) : HwOk qs b st.step.2 ∧ (st.step.2.mu (qs.map Prod.fst) + (i + 1) ≤ 2 * qs.length ∨ DoneW qs b st.step.2) := by
  have key : st.step.1 = none → HwOk qs b st.step.2 ∧ DoneW qs b st.step.2 := fun e => by
    rcases step_spec O hq with ⟨h1, h2, h3, h4, h5, h6, h7, h8, h9⟩ | ⟨p, z, h1, h2, _⟩ | ⟨p, z, h1, h2, h3, h4, h5, h6, h7, h8, h9⟩
    · exact ⟨h6, h4, by rw [h3]; exact h9⟩
    · rw [h2] at e; cases e
    · rcases h9 with ⟨_, h9⟩ | ⟨y, _, _, h9⟩ <;> rw [h9] at e <;> cases e
  have ok : HwOk qs b st.step.2 := by
    rcases step_spec O hq with ⟨h1, h2, h3, h4, h5, h6, _⟩ | ⟨p, z, h1, h2, h3, h4, h5, h6, h7, h8, h9, _⟩ | ⟨p, z, h1, h2, h3, h4, h5, h6, h7, _⟩
    · exact h6
    · exact h9
    · exact h7
  refine ⟨ok, ?_⟩
  rcases mu_step O hq with e | e
  · exact .inr (key e).2
  · rcases h with h | h
    · exact .inl (by omega)
    · refine .inr ?_
      rcases step_spec O hq with ⟨h1, h2, _⟩ | ⟨p, z, h1, h2, h3, h4, h5, _⟩ | ⟨p, z, h1, _⟩
      · exact (key h2).2
      · exfalso
        obtain ⟨f, f1, f2, f3⟩ := place_part (qs.map Prod.fst) b (fun o ho => by obtain ⟨q, hq', rfl⟩ := List.mem_map.mp ho; exact hq q hq') (p := p) (by rw [List.length_map, ← O.pl]; exact h3)
        have k := h.2 f f1 p f2 f3
        unfold isF figO at k
        rw [h4] at k
        have e1 : z.1 = f := of_decide_eq_true k
        unfold inP at h5
        rw [e1, decide_eq_true f2, decide_eq_true f3] at h5
        cases h5
      · rw [h.1] at h1; cases h1
theorem done_figs {qs : List (Nat × Nat)} {b : Nat} {st : HW} (O : HwOk qs b st) (hq : ∀ q ∈ qs, q.1 < b) (h : DoneW qs b st) : ∃ zs : List (Nat × Nat), st.ps = zs.map some ∧ (zs.map Prod.fst).Perm (qs.map Prod.fst) ∧ (zs.map Prod.fst).Pairwise (· ≤ ·) := by
  have at_ : ∀ p, p < st.ps.length → ∃ z f, st.ps.getD p none = some z ∧ z.1 = f ∧ lessN (qs.map Prod.fst) f ≤ p ∧ p < lessN (qs.map Prod.fst) (f + 1) := fun p hp => by
    obtain ⟨f, f1, f2, f3⟩ := place_part (qs.map Prod.fst) b (fun o ho => by obtain ⟨q, hq', rfl⟩ := List.mem_map.mp ho; exact hq q hq') (p := p) (by rw [List.length_map, ← O.pl]; exact hp)
    have k := h.2 f f1 p f2 f3
    unfold isF figO at k
    cases e : st.ps.getD p none with
    | none => rw [e] at k; cases k
    | some z => rw [e] at k; exact ⟨z, f, rfl, of_decide_eq_true k, f2, f3⟩
  have e1 : st.ps = (fm st.ps).map some := by
    have all : ∀ o ∈ st.ps, ∃ z, o = some z := fun o ho => by
      obtain ⟨p, hp, rfl⟩ := List.getElem_of_mem ho
      obtain ⟨z, f, e, _⟩ := at_ p hp
      rw [List.getD_eq_getElem?_getD, List.getElem?_eq_getElem hp] at e
      exact ⟨z, e⟩
    generalize st.ps = ps at all
    induction ps with
    | nil => rfl
    | cons o r ih =>
      obtain ⟨z, rfl⟩ := all o (List.mem_cons_self ..)
      rw [fm_cons]
      show some z :: r = some z :: (fm r).map some
      rw [← ih fun x hx => all x (List.mem_cons_of_mem _ hx)]
  have pe := O.pe
  unfold HW.all at pe
  rw [h.1, show (none : PR).toList = [] from rfl, List.append_nil] at pe
  refine ⟨fm st.ps, e1, pe.map _, ?_⟩
  rw [List.pairwise_iff_getElem]
  intro i j hi hj hij
  rw [List.length_map] at hi hj
  have hl : st.ps.length = (fm st.ps).length := by rw [e1, List.length_map, ← e1]
  have gi : ∀ p (hp : p < (fm st.ps).length), st.ps.getD p none = some (fm st.ps)[p] := fun p hp => by
    have e2 : st.ps[p]? = some (some (fm st.ps)[p]) := by
      conv => lhs; rw [e1]
      rw [List.getElem?_map, List.getElem?_eq_getElem hp]; rfl
    rw [List.getD_eq_getElem?_getD, e2]; rfl
  obtain ⟨z1, f1, a1, a2, a3, a4⟩ := at_ i (by omega)
  obtain ⟨z2, f2, c1, c2, c3, c4⟩ := at_ j (by omega)
  rw [gi i hi] at a1
  rw [gi j hj] at c1
  cases a1; cases c1
  rw [List.getElem_map, List.getElem_map, a2, c2]
  rcases Nat.lt_or_ge f2 f1 with g | g
  · have := lessN_mono (os := qs.map Prod.fst) (show f2 + 1 ≤ f1 from g)
    omega
  · exact g

theorem ints_dat {H : Hp} {a : Addr} {ns : List Int} (h : H a = some (.lst (ns.map V.int))) : DatE 1 H (.ref a) (.list (ns.map PyData.int)) := by
  refine DatE.lst h (by simp) fun i u e x y => ?_
  rw [List.getElem?_map] at x y
  obtain ⟨n, hn, rfl⟩ := Option.map_eq_some_iff.mp x
  rw [hn] at y
  cases y
  exact DatE.int _
noncomputable def spRightL (C : Addr) : Sp := fun vs H Q _ => ∃ (w pa ma ea a : Addr) (us : List V) (rs : List Addr) (qs : List (Nat × Nat)) (b : Nat), vs = [.ref w, .ref a, .int (b : Nat)] ∧ HwAt C H w pa ma ea us .non (hw0 qs b) ∧ H a = some (.lst (rs.map V.ref)) ∧ PsT H rs qs ∧ qs.length ≤ 200 ∧ (∀ q ∈ qs, q.1 < b ∧ q.2 < 1000) ∧ b ≤ 64 ∧ a ≠ pa ∧ a ≠ ma ∧
  ∀ H', KpH w pa ma H H' → Q (.bl true) H'
theorem ok_right (T : Tx K mg t) : FnOk P w K mg base CX0 5 t.f_right t.d_right ["_law_walk", "_law_pairs_here", "_law_base_here"] (spRightL t.c_HeapWalk) := by
  refine T.F_right.okQ sc_right (fun vs H Q E h => ?_) (fun cdv A outer s H vs Q E hr h => ?_)
  · obtain ⟨w, pa, ma, ea, a, us, rs, qs, b, rfl, _⟩ := h
    rfl
  · obtain ⟨w, pa, ma, ea, a, us, rs, qs, b, rfl, W, ta, R, hn, hq2, hb, hap, ham, k⟩ := h
    obtain ⟨dx, ob⟩ := W.ob
    have hq : ∀ q ∈ qs, q.1 < b := fun q h => (hq2 q h).1
    have hsm : ∀ q ∈ qs, q.1 < 1000 ∧ q.2 < 1000 := fun q h => ⟨by have := (hq2 q h).1; omega, (hq2 q h).2⟩
    have hrl : rs.length = qs.length := R.1
    have haw : a ≠ w := ne_of ta ob (by intro z; cases z)
    have hno : ∀ (pa : Addr) (hv : V) (ma ea : Addr) (m : Int), (hwF pa hv ma ea m).lookup ("row" : Str) = none ∧ (hwF pa hv ma ea m).lookup ("step" : Str) = none := fun pa hv ma ea m => ⟨hwF_no _ _ _ _ _ (by decide +kernel) (by decide +kernel) (by decide +kernel) (by decide +kernel) (by decide +kernel), hwF_no _ _ _ _ _ (by decide +kernel) (by decide +kernel) (by decide +kernel) (by decide +kernel) (by decide +kernel)⟩
    refine ⟨_, (qb_cons (qs_set (i := 3) sc_right.nd rfl (Or.inl rfl) (qe_call (ok_state T) (hr.mono (by decide)) rfl T.m_state T.F_state.kp T.b_state pass0 (qa_c (qv 1) (qa_c (qv 2) qa_nil))))
      (qb_cons (qs_for PassesOwn.never rfl (qi_range1 rfl T.z_range (qa_c (qe_op q_add (qe_op q_mul qe_int (qe_callB (qc_len (K := K)) (by rfl) T.z_len bt_len (qa_c (qv 1) qa_nil))) qe_int) qa_nil)) (qg_name (i := 4) sc_right.nd rfl (Or.inl rfl)) (qb_cons (qs_if (qt_not (qt_val (qe_call (ok_told T) (hr.mono (by decide)) rfl T.m_told T.F_told.kp T.b_told pass0 (qa_c (qv 0) (qa_c (qv 3) qa_nil))))) (qb_one (qs_ret qe_bl)) qb_nil)
      (qb_cons (qs_set (i := 5) sc_right.nd rfl (Or.inl rfl) (qe_call (ok_next_move T) (hr.mono (by decide)) rfl T.m_next_move T.F_next_move.kp T.b_next_move pass0 (qa_c (qv 3) qa_nil)))
      (qb_one (qs_if (qt_cmpR (q_neD hr.units) (qe_meth0 (qv 0) T.cl_HeapWalk T.M_HeapWalk_step (ok_HeapWalk_step T) (hr.mono (by decide)) T.b_HeapWalk_step pass0 ) (qv 5) (nomark _)) (qb_one (qs_ret qe_bl)) qb_nil)))))
      (qb_cons (qs_if (QW.qt (qw_or (qt_cmpR q_notN (qe_ix (q_ixL (K := K)) (qv 3) qe_int) qe_non (nomark _)) (qw_or1 (qt_not (qt_val (qe_call (ok_told T) (hr.mono (by decide)) rfl T.m_told T.F_told.kp T.b_told pass0 (qa_c (qv 0) (qa_c (qv 3) qa_nil)))))))) (qb_one (qs_ret qe_bl)) qb_nil)
      (qb_one (qs_ret (qe_cmpR (q_eqD hr.units) (qe_comp (N := ["_law_pair"]) (tgs := ["_law_pair"]) (frs := []) (ix := []) ⟨rfl, by decide +kernel, rfl, by decide +kernel, rfl, rfl, True.intro, True.intro, rfl⟩ rfl (qi_list (K := K) (qe_meth0 (qv 0) T.cl_HeapWalk T.M_HeapWalk_row (ok_HeapWalk_row T) (hr.mono (by decide)) T.b_HeapWalk_row pass0 )) (fun _ _ _ _ => (qg_name (i := 0) (by show List.Nodup (["_law_pair"] : List Str); decide +kernel) rfl (Or.inl rfl))) (fun _ _ _ _ => (qe_ix (q_ixT (K := K)) (qv 0) qe_int))) (qe_callB (qc_sortI (K := K)) (by rfl) T.z_sorted bt_sorted (qa_c (qe_comp (N := ["_law_pair"]) (tgs := ["_law_pair"]) (frs := []) (ix := []) ⟨rfl, by decide +kernel, rfl, by decide +kernel, rfl, rfl, True.intro, True.intro, rfl⟩ rfl (qi_list (K := K) (qv 1)) (fun _ _ _ _ => (qg_name (i := 0) (by show List.Nodup (["_law_pair"] : List Str); decide +kernel) rfl (Or.inl rfl))) (fun _ _ _ _ => (qe_ix (q_ixT (K := K)) (qv 0) qe_int))) qa_nil)) (nomark _))))))), ?_⟩
    rw [show L2.start ["_law_walk", "_law_pairs_here", "_law_base_here", "_law_state_here", "_law_turn", "_law_due"] [V.ref w, V.ref a, V.int (b : Nat)] = [some (V.ref w), some (V.ref a), some (V.int (b : Nat)), none, none, none] from rfl]
    walk_at "fs_rd"
    refine ⟨a, rs, qs, b, rfl, ta, R, hn, hb, fun sa pl ml pt us1 ts H1 hsa hpl hml hpt L1 s1 => ?_⟩
    have dj : ∀ x y : Addr, (x = sa ∨ x = pl ∨ x = ml ∨ x = pt) → (y = w ∨ y = pa ∨ y = ma ∨ y = ea) → x ≠ y := fun x y hx hy z => by
      have hx0 : H x = none := by rcases hx with e | e | e | e <;> rw [e] <;> assumption
      have hy0 : ∃ o, H y = some o := by
        rcases hy with e | e | e | e <;> rw [e]
        · exact ⟨_, ob⟩
        · exact ⟨_, W.tp⟩
        · exact ⟨_, W.tm⟩
        · exact ⟨_, W.te⟩
      obtain ⟨o, ho⟩ := hy0
      rw [← z, hx0] at ho; cases ho
    walk_at "fs_rd"
    refine in_lenL (SqL.of (s1 _ _ ta)) ?_
    rw [List.length_map, hrl]
    walk_at "fs_rd"
    have e32 : 3 * ((qs.length : Nat) : Int) + 2 = ((3 * qs.length + 2 : Nat) : Int) := by omega
    rw [e32]
    refine ⟨((3 * qs.length + 2 : Nat) : Int), rfl, by omega, by omega, for_range (n := 3 * qs.length + 2) (fun i σ H' => ∃ (st : HW) (u1 u2 : List V) (h1 h2 : V), HwAt t.c_HeapWalk H' w pa ma ea u1 h1 st ∧ LwAt H' sa pl ml pt u2 h2 ts (qs.map Prod.fst) b st ∧ HwOk qs b st ∧ (st.mu (qs.map Prod.fst) + i ≤ 2 * qs.length ∨ DoneW qs b st) ∧ KpH w pa ma H H' ∧ ∃ v4 v5, σ = [some (V.ref w), some (V.ref a), some (V.int (b : Nat)), some (V.ref sa), v4, v5]) ⟨hw0 qs b, us, us1, .non, .non, W.same s1, L1, hw0_ok qs b, .inl (by have := mu_begin qs b; omega), KpH.of s1, _, _, rfl⟩ ?_ ?_⟩
    · rintro i σ H2 hi ⟨st, u1, u2, h1, h2, W2, L2, O2, m2, K2, v4, v5, rfl⟩
      walk_at "fs_rd"
      refine ⟨w, pa, ma, ea, sa, pl, ml, pt, u1, u2, h1, h2, ts, _, b, st, rfl, W2, L2, sml_of O2 hsm, by rw [O2.pl]; exact hn, fun H3 s3 => ?_⟩
      have W3 := W2.same s3
      have L3 := L2.same s3
      walk_at "fs_rd"
      refine ⟨sa, pl, ml, pt, u2, h2, ts, _, b, st, qs, rfl, L3, O2, hq, hb, fun v u3 h3 H4 L4 K4 M4 => ?_⟩
      have k34 : TupK H3 H4 := fun q xs e => L3.ktup K4 e
      have W4 : HwAt t.c_HeapWalk H4 w pa ma ea u1 h1 st := hw_keep W3 (fun c o e hc => K4 c o e (Ne.symm (dj _ c (.inl rfl) hc)) (Ne.symm (dj _ c (.inr (.inl rfl)) hc)) (Ne.symm (dj _ c (.inr (.inr (.inl rfl))) hc))) k34
      obtain ⟨dx4, ob4⟩ := W4.ob
      walk_at "fs_rd"
      refine ⟨w, dx4, _, rfl, ob4, (hno _ _ _ _ _).2, ?_⟩
      walk_at "fs_rd"
      refine ⟨w, pa, ma, ea, u1, h1, st, qs, b, rfl, W4, O2, hq, hb, fun v2 u4 h4 H5 W5 K5 M5 => ?_⟩
      have k45 : TupK H4 H5 := fun q xs e => K5.tup W4 e
      have L5 : LwAt H5 sa pl ml pt u3 h3 ts (qs.map Prod.fst) b st.step.2 := lw_keep L4 (fun c o e hc => K5 c o e (dj c _ hc (.inl rfl)) (dj c _ hc (.inr (.inl rfl))) (dj c _ hc (.inr (.inr (.inl rfl))))) k45
      have M5' := mv_tk M4 k45
      walk_at "fs_rd"
      refine in_neSame (mv_dat M5) (mv_dat M5') (by decide) ?_
      walk_at "fs_rd"
      obtain ⟨O5, m5⟩ := step_on O2 hq m2
      refine ⟨st.step.2, u4, u3, h4, h3, W5, L5, O5, m5, fun c o e n1 n2 n3 => ?_, _, _, rfl⟩
      have e3 : H3 c = some o := s3 _ _ (K2 c o e n1 n2 n3)
      have f : ∀ x, (x = sa ∨ x = pl ∨ x = ml ∨ x = pt) → c ≠ x := fun x hx z => by
        have hx0 : H x = none := by rcases hx with e | e | e | e <;> rw [e] <;> assumption
        rw [z, hx0] at e; cases e
      exact K5 c o (K4 c o e3 (f _ (.inl rfl)) (f _ (.inr (.inl rfl))) (f _ (.inr (.inr (.inl rfl))))) n1 n2 n3
    · rintro σ H2 ⟨st, u1, u2, h1, h2, W2, L2, O2, m2, K2, v4, v5, rfl⟩
      have hD : DoneW qs b st := m2.elim (fun z => by omega) id
      obtain ⟨zs, ezs, hpz, hsz⟩ := done_figs O2 hq hD
      have hh2 : h2 = .non := by have := L2.hh; rw [hD.1] at this; exact this
      have hzl : zs.length ≤ 200 := by have := O2.pl; rw [ezs, List.length_map] at this; omega
      walk_at "fs_rd"
      refine in_ix (SqL.of L2.t0) (v := h2) (atI_nat (j := 1) rfl) ?_
      walk_at "fs_rd"
      rw [decide_eq_true hh2]
      walk_at "fs_rd"
      refine ⟨w, pa, ma, ea, sa, pl, ml, pt, u1, u2, h1, h2, ts, _, b, st, rfl, W2, L2, sml_of O2 hsm, by rw [O2.pl]; exact hn, fun H3 s3 => ?_⟩
      have W3 := W2.same s3
      obtain ⟨dx3, ob3⟩ := W3.ob
      walk_at "fs_rd"
      refine ⟨w, dx3, _, rfl, ob3, (hno _ _ _ _ _).1, ?_⟩
      walk_at "fs_rd"
      refine ⟨w, pa, ma, ea, u1, h1, st, rfl, W3, by rw [O2.pl]; exact hn, fun l ys H4 hl s4 tl P4 => ?_⟩
      have hyl : ys.length = zs.length := by rw [P4.1, ezs, List.length_map]
      walk_at "fs_rd"
      refine ⟨l, rfl, ⟨_, SqL.of tl⟩, comp_lst (a := l) (vs := ys) (fun i xs σ H' => H' = H4 ∧ xs = NV ((zs.map Prod.fst).take i) ∧ i ≤ ys.length ∧ ∃ v, σ = [v]) (small1000 (by omega)) (fun i xs σ H' h => by rw [h.2.1, NV_len, List.length_take, List.length_map]; have := h.2.2.1; omega) (fun i xs σ H' h => by rw [h.1]; exact SqL.of tl) ⟨rfl, rfl, Nat.zero_le _, none, rfl⟩ ?_ ?_⟩
      · rintro i xs σ H' x hx ⟨rfl, rfl, hi, v, rfl⟩
        have hil := get_lt hx
        have hiz : i < zs.length := by omega
        have ez := List.getElem?_eq_getElem hiz
        have hp := P4.2 i x (some zs[i]) hx (by rw [ezs, List.getElem?_map, ez]; rfl)
        obtain ⟨q, rfl, tq⟩ := hp
        walk_at "fs_rd"
        refine Nx.mk hil ⟨rfl, ?_, hil, _, rfl⟩
        rw [List.take_add_one, List.getElem?_map, ez, NV_snoc]; rfl
      rintro xs σ H' ⟨rfl, rfl, hi, v, rfl⟩ c1 hc1
      rw [List.take_of_length_le (by rw [List.length_map]; omega)]
      have s5 := (Same.refl H').new (o := .lst (NV (zs.map Prod.fst))) hc1
      have t5 : (upd H' c1 (.lst (NV (zs.map Prod.fst)))) c1 = some (.lst (NV (zs.map Prod.fst))) := upd_same
      generalize upd H' c1 (.lst (NV (zs.map Prod.fst))) = H5 at s5 t5
      have s35 := s3.trans (s4.trans s5)
      have ta5 := s35 _ _ (K2 _ _ ta haw hap ham)
      have R5 : PsT H5 rs qs := pst_tk R (fun q xs e => s35 _ _ (K2 _ _ e (ne_of e ob (by intro z; cases z)) (ne_of e W.tp (by intro z; cases z)) (ne_of e W.tm (by intro z; cases z))))
      walk_at "fs_rd"
      refine ⟨a, rfl, ⟨_, SqL.of ta5⟩, comp_lst (a := a) (vs := rs.map V.ref) (fun i xs σ H' => H' = H5 ∧ xs = NV ((qs.map Prod.fst).take i) ∧ i ≤ rs.length ∧ ∃ v, σ = [v]) (by rw [List.length_map]; exact small1000 (by omega)) (fun i xs σ H' h => by rw [h.2.1, NV_len, List.length_take, List.length_map]; have := h.2.2.1; omega) (fun i xs σ H' h => by rw [h.1]; exact SqL.of ta5) ⟨rfl, rfl, Nat.zero_le _, none, rfl⟩ ?_ ?_⟩
      · rintro i xs σ H' x hx ⟨rfl, rfl, hi, v, rfl⟩
        have hil := get_lt hx
        obtain ⟨q, rfl, hq', _, hir⟩ := map_get hx
        have hiq : i < qs.length := by omega
        have eq := List.getElem?_eq_getElem hiq
        have tq := R5.2 i q _ hq' eq
        walk_at "fs_rd"
        refine Nx.mk hil ⟨rfl, ?_, hir, _, rfl⟩
        rw [List.take_add_one, List.getElem?_map, eq, NV_snoc]; rfl
      rintro xs σ H' ⟨rfl, rfl, hi', v', rfl⟩ c2 hc2
      rw [List.take_of_length_le (by rw [List.length_map, List.length_map]; omega)]
      have s6 := (Same.refl H').new (o := .lst (NV (qs.map Prod.fst))) hc2
      have t6 : (upd H' c2 (.lst (NV (qs.map Prod.fst)))) c2 = some (.lst (NV (qs.map Prod.fst))) := upd_same
      generalize upd H' c2 (.lst (NV (qs.map Prod.fst))) = H6 at s6 t6
      walk_at "fs_rd"
      refine ⟨c2, castL (qs.map Prod.fst), rfl, .inl (SqL.of (by rw [t6]; exact congrArg (fun z => some (HO.lst z)) (NV_int _))), by unfold castL; rw [List.length_map, List.length_map]; omega, fun d ms hd hpm hsm2 => ?_⟩
      have ems : ms = castL (zs.map Prod.fst) := by
        refine List.Perm.eq_of_pairwise (le := fun a b : Int => a ≤ b) (fun _ _ _ _ x y => Int.le_antisymm x y) hsm2 ?_ (hpm.trans ?_)
        · unfold castL; rw [List.pairwise_map]; exact hsz.imp fun {x y} h => by omega
        · unfold castL; exact (hpz.map _).symm
      have s7 := (Same.refl H6).new (o := .lst (ms.map V.int)) hd
      have t7 : (upd H6 d (.lst (ms.map V.int))) d = some (.lst (ms.map V.int)) := upd_same
      generalize upd H6 d (.lst (ms.map V.int)) = H7 at s7 t7
      have t5' : H7 c1 = some (.lst (ms.map V.int)) := by
        rw [s7 _ _ (s6 _ _ t5), ems]; exact congrArg (fun z => some (HO.lst z)) (NV_int _)
      walk_at "fs_rd"
      refine in_eqSame (ints_dat t5') (ints_dat t7) (by decide) ?_
      exact k H7 fun c o e n1 n2 n3 => s7 _ _ (s6 _ _ (s35 _ _ (K2 c o e n1 n2 n3)))

theorem tgx_refs {H : Hp} {rs : List Addr} {qs : List (Nat × Nat)} (R : PsT H rs qs) (h : ∀ q ∈ qs, q.1 < 1000 ∧ q.2 < 1000) : Tgs H (rs.map V.ref) ((qs.map some).map prD) := prs_tgs R.prs fun o ho z e => by
  obtain ⟨q, hq, rfl⟩ := List.mem_map.mp ho
  cases e
  exact h _ hq
theorem ll_dat {H : Hp} {rs : List Addr} {qs : List (Nat × Nat)} {a : Addr} (ta : H a = some (.lst (rs.map V.ref))) (R : PsL H rs qs) (h : ∀ q ∈ qs, q.1 < 1000 ∧ q.2 < 1000) (hn : qs.length ≤ 200) : ∃ d, DatM 3 H (.ref a) d ∧ d.weight ≤ 2 ^ 19 := by
  have h1 : ∀ u ∈ rs.map V.ref, El 2 250 H u := fun u hu => by
    obtain ⟨r, hr, rfl⟩ := List.mem_map.mp hu
    obtain ⟨i, hi, rfl⟩ := List.getElem_of_mem hr
    have hiq : i < qs.length := by rw [← R.1]; exact hi
    have tr := R.2 i _ _ (List.getElem?_eq_getElem hi) (List.getElem?_eq_getElem hiq)
    obtain ⟨b1, b2⟩ := h _ (List.getElem_mem hiq)
    refine El.seq (n := 1) (w := 100) (.inl tr) (fun x hx => ?_) (by simp)
    simp only [List.mem_cons, List.not_mem_nil, or_false] at hx
    rcases hx with rfl | rfl
    · exact El.int (by rw [Int.natAbs_natCast]; exact Nat.lt_trans b1 (by decide)) (by decide)
    · exact El.int (by rw [Int.natAbs_natCast]; exact Nat.lt_trans b2 (by decide)) (by decide)
  exact El.seq (m := 2 ^ 19) (.inl ta) h1 (by
    rw [List.length_map, R.1]
    have : (250 + 1) * qs.length ≤ 251 * 200 := Nat.mul_le_mul_left _ hn
    have : (60000 : Nat) ≤ 2 ^ 19 := by decide
    omega)
theorem prsF_str {H : Hp} {a : Addr} {rs : List Addr} {qs : List (Nat × Nat)} (hF : PrsF H a rs qs) (h : ∀ q ∈ qs, q.1 < 1000 ∧ q.2 < 1000) (hn : qs.length ≤ 200) : ∃ s, ∀ H', (∀ c o, H c = some o → (c = a ∨ c ∈ rs) → H' c = some o) → StrA H' (.ref a) s := by
  have hrl := prsF_len hF
  rcases hF with ⟨ta, R⟩ | ⟨ta, R⟩ | ⟨ta, R⟩
  · refine ⟨(PyData.list ((qs.map some).map prD)).shown, fun H' k => ?_⟩
    have R' : PsT H' rs qs := ⟨R.1, fun i q z x y => k _ _ (R.2 i q z x y) (.inr (List.mem_of_getElem? x))⟩
    exact (tgx_refs R' h).strA (by rw [List.length_map]; omega) (k _ _ ta (.inl rfl))
  · refine ⟨(PyData.tuple ((qs.map some).map prD)).shown, fun H' k => ?_⟩
    have R' : PsT H' rs qs := ⟨R.1, fun i q z x y => k _ _ (R.2 i q z x y) (.inr (List.mem_of_getElem? x))⟩
    have D := tgx_refs R' h
    refine .dat (D.tupM (k _ _ ta (.inl rfl)) 1) ?_
    rw [PyData.weight]
    have w1 := D.weight
    rw [List.length_map] at w1
    have h2 : 251 * rs.length ≤ 251 * 200 := Nat.mul_le_mul_left _ (by omega)
    have : (60000 : Nat) ≤ 2 ^ 19 := by decide
    omega
  · obtain ⟨d, hd, hw⟩ := ll_dat ta R h hn
    refine ⟨d.shown, fun H' k => ?_⟩
    refine .dat ?_ hw
    rcases hd with z | ⟨a', xs, ds, e1, rfl, e3, e4, e5⟩ | ⟨a', xs, ds, e1, rfl, e3, _⟩
    · rcases z with ⟨z, _⟩ | ⟨_, z, _⟩ | ⟨_, z, _⟩ | ⟨_, z, _⟩ <;> cases z
    · cases e1
      rw [ta] at e3
      cases e3
      refine .inr (.inl ⟨a, _, ds, rfl, rfl, k _ _ ta (.inl rfl), e4, fun i u e x y => ?_⟩)
      have g := e5 i u e x y
      rw [List.getElem?_map] at x
      obtain ⟨r, hr, rfl⟩ := Option.map_eq_some_iff.mp x
      have hiq : i < qs.length := by rw [← R.1]; exact get_lt hr
      have tr := R.2 i r _ hr (List.getElem?_eq_getElem hiq)
      have tr' := k _ _ tr (.inr (List.mem_of_getElem? hr))
      rcases g with z | ⟨a', xs, ds', f1, rfl, f3, f4, f5⟩ | ⟨a', xs, ds', f1, rfl, f3, _⟩
      · rcases z with ⟨z, _⟩ | ⟨_, z, _⟩ | ⟨_, z, _⟩ | ⟨_, z, _⟩ <;> cases z
      · cases f1
        rw [tr] at f3
        cases f3
        refine .inr (.inl ⟨r, _, ds', rfl, rfl, tr', f4, fun j u e x y => ?_⟩)
        have g2 := f5 j u e x y
        match j, x with
        | 0, x =>
          cases x
          rcases g2 with z | ⟨_, _, _, z, _⟩ | ⟨_, _, _, z, _⟩
          · exact .inl z
          · cases z
          · cases z
        | 1, x =>
          cases x
          rcases g2 with z | ⟨_, _, _, z, _⟩ | ⟨_, _, _, z, _⟩
          · exact .inl z
          · cases z
          · cases z
        | j + 2, x => cases x
      · cases f1
        rw [tr] at f3; cases f3
    · cases e1
      rw [ta] at e3; cases e3
theorem fst_lt {fs : List Nat} {b : Nat} (h : ∀ x ∈ fs, x < b) : ∀ q ∈ fs.zipIdx, q.1 < b := fun q hq => h _ (List.fst_mem_of_mem_zipIdx hq)
noncomputable def spLaw (K : PySem.W.Frag) : Sp := fun vs H Q _ => ∃ (a : Addr) (ns : List Int), vs = [.ref a] ∧ SqL K H a (ns.map V.int) ∧ ns.length ≤ 63 ∧ ∀ H', Q (.bl true) H'
theorem ok_law (T : Tx K mg t) : FnOk P w K mg base CX0 6 t.f_law t.d_law ["_law_script"] (spLaw K) := by
  refine T.F_law.okQ sc_law (fun vs H Q E h => ?_) (fun cdv A outer s H vs Q E hr h => ?_)
  · obtain ⟨a, ns, rfl, _⟩ := h
    rfl
  · obtain ⟨a, ns, rfl, hS, hlen, k⟩ := h
    refine ⟨_, (qb_cons (qs_for PassesOwn.never rfl (qi_range1 rfl T.z_range (qa_c (qe_op q_add qe_int (qe_callB (qc_min rfl) (by rfl) T.z_min bt_min (qa_c qe_int (qa_c (qe_callB (qc_len (K := K)) (by rfl) T.z_len bt_len (qa_c (qv 0) qa_nil)) qa_nil)))) qa_nil)) (qg_name (i := 1) sc_law.nd rfl (Or.inl rfl)) (qb_cons (qs_set (i := 2) sc_law.nd rfl (Or.inl rfl) (qe_call (ok_tape T) (hr.mono (by decide)) rfl T.m_tape T.F_tape.kp T.b_tape pass0 (qa_c (qv 0) (qa_c (qv 1) qa_nil))))
      (qb_cons (qs_set (i := 3) sc_law.nd rfl (Or.inl rfl) (qe_call (ok_base T) (hr.mono (by decide)) rfl T.m_base T.F_base.kp T.b_base pass0 (qa_c (qv 2) qa_nil)))
      (qb_cons (qs_set (i := 4) sc_law.nd rfl (Or.inl rfl) (qe_call (ok_pairs T) (hr.mono (by decide)) rfl T.m_pairs T.F_pairs.kp T.b_pairs pass0 (qa_c (qv 2) (qa_c (qe_call (ok_many T) (hr.mono (by decide)) rfl T.m_many T.F_many.kp T.b_many pass0 (qa_c (qv 2) (qa_c (qv 1) qa_nil))) (qa_c (qv 3) qa_nil)))))
      (qb_cons (qs_set (i := 5) sc_law.nd rfl (Or.inl rfl) (qe_ix (q_ixL (K := K)) (qe_lst (qa_c (qe_callTy (qc_list (K := K)) (by rfl) T.z_list bt_list (qa_c (qv 4) qa_nil)) (qa_c (qe_callTy (qc_tuple (K := K)) (by rfl) T.z_tuple bt_tuple (qa_c (qv 4) qa_nil)) (qa_c (qe_comp (N := ["_law_pair"]) (tgs := ["_law_pair"]) (frs := []) (ix := []) ⟨rfl, by decide +kernel, rfl, by decide +kernel, rfl, rfl, True.intro, True.intro, rfl⟩ rfl (qi_list (K := K) (qv 4)) (fun _ _ _ _ => (qg_name (i := 0) (by show List.Nodup (["_law_pair"] : List Str); decide +kernel) rfl (Or.inl rfl))) (fun _ _ _ _ => (qe_callTy (qc_list (K := K)) (by rfl) T.z_list bt_list (qa_c (qv 0) qa_nil)))) qa_nil)))) (qe_call (ok_draw T) (hr.mono (by decide)) rfl T.m_draw T.F_draw.kp T.b_draw pass0 (qa_c (qv 2) (qa_c qe_int qa_nil)))))
      (qb_cons (qs_set (i := 6) sc_law.nd rfl (Or.inl rfl) (qe_callTy (qc_strA hr.gd hr.units) (by rfl) T.z_str bt_str (qa_c (qv 5) qa_nil)))
      (qb_cons (qs_set (i := 7) sc_law.nd rfl (Or.inl rfl) (qe_make T.M_HeapWalk___init__ (ok_HeapWalk___init__ T) (hr.mono (by decide)) rfl T.mc_HeapWalk T.b_HeapWalk___init__ pass0 (qa_c (qv 5) (qa_c (qv 3) qa_nil))))
      (qb_cons (qs_if (qt_cmpR q_ne (qe_callTy (qc_strA hr.gd hr.units) (by rfl) T.z_str bt_str (qa_c (qv 5) qa_nil)) (qv 6) (nomark _)) (qb_one (qs_ret qe_bl)) qb_nil)
      (qb_cons (qs_expr (qe_call (ok_spoil T) (hr.mono (by decide)) rfl T.m_spoil T.F_spoil.kp T.b_spoil pass0 (qa_c (qv 5) qa_nil)))
      (qb_one (qs_if (qt_not (qt_val (qe_call (ok_right T) (hr.mono (by decide)) rfl T.m_right T.F_right.kp T.b_right pass0 (qa_c (qv 7) (qa_c (qv 4) (qa_c (qv 3) qa_nil)))))) (qb_one (qs_ret qe_bl)) qb_nil)))))))))))
      (qb_one (qs_ret qe_bl))), ?_⟩
    rw [show L2.start ["_law_script", "_law_k", "_law_tape_here", "_law_base_here", "_law_pairs_here", "_law_handed", "_law_kept", "_law_walk"] [V.ref a] = [some (V.ref a), none, none, none, none, none, none, none] from rfl]
    walk_at "fs_rd"
    refine in_lenL hS ?_
    walk_at "fs_rd"
    have hml : (List.map V.int ns).length = ns.length := List.length_map ..
    refine ⟨_, rfl, by (repeat' split) <;> omega, by (repeat' split) <;> omega, for_range (fun i σ H' => Same H H' ∧ ∃ v1 v2 v3 v4 v5 v6 v7, σ = [some (V.ref a), v1, v2, v3, v4, v5, v6, v7]) ⟨Same.refl _, _, _, _, _, _, _, _, rfl⟩ ?_ ?_⟩
    · rintro i σ H' hi ⟨sm, v1, v2, v3, v4, v5, v6, v7, rfl⟩
      walk_at "fs_rd"
      refine ⟨a, ns, _, rfl, sm.seq hS, by omega, fun p H1 hp0 same T1 => ?_⟩
      have hpn : H p = none := sm.free hp0
      walk_at "fs_rd"
      refine ⟨p, rfl, T1, fun b H2 hb1 hb2 S2 => ?_⟩
      walk_at "fs_rd"
      refine ⟨p, _, rfl, S2.tape, fun n H3 hn S3 => ?_⟩
      walk_at "fs_rd"
      refine ⟨p, n, b, rfl, S3.tape, hn, hb1, hb2, fun l rs fs H4 hl tl R hfl hfb hlp S4 => ?_⟩
      have M4 : Same H H4 := fun c u e => S4.keep c u (S3.keep c u (S2.keep c u (same c u (sm c u e)) (ne_of_none e hpn)) (ne_of_none e hpn)) (ne_of_none e hpn)
      have T4 := S4.tape
      have hqb : ∀ q ∈ fs.zipIdx, q.1 < b := fst_lt hfb
      have hq2 : ∀ q ∈ fs.zipIdx, q.2 < 1000 := fun q hq => by
        have := List.snd_lt_of_mem_zipIdx hq
        omega
      have hql : fs.zipIdx.length ≤ 200 := by rw [List.length_zipIdx]; omega
      clear S2 S3 S4 sm same T1
      generalize fs.zipIdx = qs at R hqb hq2 hql
      have hrl : rs.length = qs.length := R.1
      have hsm : ∀ q ∈ qs, q.1 < 1000 ∧ q.2 < 1000 := fun q h => ⟨by have := hqb q h; omega, hq2 q h⟩
      walk_at "fs_rd"
      refine ⟨l, rs.map V.ref, rfl, .inl (SqL.of tl), fun a1 ha1 => ?_⟩
      have s5 := (Same.refl H4).new (o := .lst (rs.map V.ref)) ha1
      have t1 : (upd H4 a1 (.lst (rs.map V.ref))) a1 = some (.lst (rs.map V.ref)) := upd_same
      generalize upd H4 a1 (.lst (rs.map V.ref)) = H5 at s5 t1
      walk_at "fs_rd"
      refine in_tupleL (SqL.of (s5 _ _ tl)) fun a2 ha2 => ?_
      have s56 := (Same.refl H5).new (o := .tup (rs.map V.ref)) ha2
      have t2 : (upd H5 a2 (.tup (rs.map V.ref))) a2 = some (.tup (rs.map V.ref)) := upd_same
      generalize upd H5 a2 (.tup (rs.map V.ref)) = H6 at s56 t2
      have s6 := s5.trans s56
      walk_at "fs_rd"
      refine ⟨l, rfl, ⟨_, SqL.of (s6 _ _ tl)⟩, comp_lst (a := l) (vs := rs.map V.ref) (fun i ys σ H' => Same H6 H' ∧ (∃ bs : List Addr, ys = bs.map V.ref ∧ PsL H' bs (qs.take i) ∧ ∀ c ∈ bs, H6 c = none) ∧ i ≤ rs.length ∧ ∃ v, σ = [v]) (by rw [List.length_map]; exact small1000 (by omega)) (fun i ys σ H' h => by obtain ⟨_, ⟨bs, rfl, P, _⟩, hi, _⟩ := h; rw [List.length_map, P.1, List.length_take]; omega) (fun i ys σ H' h => SqL.of (h.1 _ _ (s6 _ _ tl))) ⟨Same.refl _, ⟨[], rfl, ⟨rfl, fun i a z x => by simp at x⟩, fun c h => nomatch h⟩, Nat.zero_le _, none, rfl⟩ ?_ ?_⟩
      · rintro j ys σ H7 x hx ⟨s7, ⟨bs, rfl, P7, hf7⟩, hj, v, rfl⟩
        have hil := get_lt hx
        obtain ⟨q, rfl, hq, _, hir⟩ := map_get hx
        have hjq : j < qs.length := by omega
        have eq := List.getElem?_eq_getElem hjq
        have tq := s7 _ _ (s6 _ _ (R.2 j q _ hq eq))
        walk_at "fs_rd"
        refine ⟨q, _, rfl, .inr (SqT.of tq), fun r hr => ?_⟩
        have s8 := (Same.refl H7).new (o := .lst [V.int (qs[j].1 : Nat), V.int (qs[j].2 : Nat)]) hr
        refine Nx.mk hil ⟨s7.trans s8, ⟨bs ++ [r], by rw [List.map_append]; rfl, ?_, fun c hc => ?_⟩, hir, _, rfl⟩
        · have P8 := psL_same P7 s8
          rw [List.take_add_one, eq]
          refine ⟨by rw [List.length_append, List.length_append, P8.1]; rfl, fun m c z x y => ?_⟩
          rcases snoc_get x with ⟨_, x⟩ | ⟨lx, x⟩
          · rcases snoc_get (show (qs.take j ++ [qs[j]])[m]? = some z from y) with ⟨_, y⟩ | ⟨ly, y⟩
            · exact P8.2 m c z x y
            · have h1 := get_lt x; have h2 := P8.1; omega
          · rcases snoc_get (show (qs.take j ++ [qs[j]])[m]? = some z from y) with ⟨ly, y⟩ | ⟨_, y⟩
            · have h1 := get_lt y; have h2 := P8.1; omega
            · rw [x, y]; exact upd_same
        · rcases List.mem_append.mp hc with g | g
          · exact hf7 c g
          · rw [List.mem_singleton.mp g]; exact s7.free hr
      rintro ys σ H7 ⟨s7, ⟨bs, rfl, P7, hf7⟩, hj, v, rfl⟩ a3 ha3
      rw [List.take_of_length_le (by rw [List.length_map]; omega)] at P7
      have s78 := (Same.refl H7).new (o := .lst (bs.map V.ref)) ha3
      have t3 : (upd H7 a3 (.lst (bs.map V.ref))) a3 = some (.lst (bs.map V.ref)) := upd_same
      generalize upd H7 a3 (.lst (bs.map V.ref)) = H8 at s78 t3
      have s68 := s7.trans s78
      have s8 := s6.trans s68
      walk_at "fs_rd"
      refine ⟨three (by simp), fun hl3 hhl => ?_⟩
      have hhp := (T4.same s8).ne hhl
      have s89 := (Same.refl H8).new (o := .lst [V.ref a1, V.ref a2, V.ref a3]) hhl
      have th : (upd H8 hl3 (.lst [V.ref a1, V.ref a2, V.ref a3])) hl3 = some (.lst [V.ref a1, V.ref a2, V.ref a3]) := upd_same
      generalize upd H8 hl3 (.lst [V.ref a1, V.ref a2, V.ref a3]) = H9 at s89 th
      have s9 := s8.trans s89
      have T9 := T4.same s9
      walk_at "fs_rd"
      refine ⟨p, 3, rfl, T9, by decide, by decide, fun r3 HA hr3 SA => ?_⟩
      have MA : Same H HA := fun c u e => SA.keep c u (s9 _ _ (M4 c u e)) (ne_of_none e hpn)
      have k9A := TupK.st2 T9 SA
      have hx : ∃ (hd : Addr) (rs' : List Addr), [V.ref a1, V.ref a2, V.ref a3][r3]? = some (V.ref hd) ∧ PrsF HA hd rs' qs ∧ H4 hd = none ∧ (∀ c o, H4 c = some o → c ∈ rs' → ∃ xs, o = .tup xs) ∧ (∀ c, c ∈ rs' → ∃ o, HA c = some o) := by
        have f1 : a1 ≠ p := T4.ne ha1
        have f3 : a3 ≠ p := ((T4.same s6).same s7).ne ha3
        have RA : PsT HA rs qs := ⟨R.1, fun j c z x y => k9A _ _ (s9 _ _ (R.2 j c z x y))⟩
        have hrt : ∀ c o, H4 c = some o → c ∈ rs → ∃ xs, o = .tup xs := fun c o e hc => by
          obtain ⟨j, hj', rfl⟩ := List.getElem_of_mem hc
          have hjq : j < qs.length := by omega
          have tr := R.2 j _ _ (List.getElem?_eq_getElem hj') (List.getElem?_eq_getElem hjq)
          rw [tr] at e; cases e; exact ⟨_, rfl⟩
        have hrk : ∀ c, c ∈ rs → ∃ o, HA c = some o := fun c hc => by
          obtain ⟨j, hj', rfl⟩ := List.getElem_of_mem hc
          have hjq : j < qs.length := by omega
          exact ⟨_, RA.2 j _ _ (List.getElem?_eq_getElem hj') (List.getElem?_eq_getElem hjq)⟩
        have hr : r3 = 0 ∨ r3 = 1 ∨ r3 = 2 := by omega
        rcases hr with rfl | rfl | rfl
        · exact ⟨a1, rs, rfl, .inl ⟨SA.keep _ _ (s89 _ _ (s68 _ _ (s56 _ _ t1))) f1, RA⟩, ha1, hrt, hrk⟩
        · exact ⟨a2, rs, rfl, .inr (.inl ⟨k9A _ _ (s89 _ _ (s68 _ _ t2)), RA⟩), s5.free ha2, hrt, hrk⟩
        · have nb : ∀ c ∈ bs, c ≠ p := fun c hc => (T4.same s6).ne (hf7 c hc)
          have PA : PsL HA bs qs := ⟨P7.1, fun j c z x y => SA.keep _ _ (s89 _ _ (s78 _ _ (P7.2 j c z x y))) (nb c (List.mem_of_getElem? x))⟩
          refine ⟨a3, bs, rfl, .inr (.inr ⟨SA.keep _ _ (s89 _ _ t3) f3, PA⟩), s6.free (s7.free ha3), fun c o e hc => ?_, fun c hc => ?_⟩
          · rw [s6.free (hf7 c hc)] at e; cases e
          · obtain ⟨j, hj', rfl⟩ := List.getElem_of_mem hc
            have hjq : j < qs.length := by rw [← P7.1]; exact hj'
            exact ⟨_, PA.2 j _ _ (List.getElem?_eq_getElem hj') (List.getElem?_eq_getElem hjq)⟩
      obtain ⟨hd, rs', hx1, hFA, hd4, hrs, hrk⟩ := hx
      have tlA : HA l = some (.lst (rs.map V.ref)) := SA.keep _ _ (s9 _ _ tl) hlp
      have RA : PsT HA rs qs := ⟨R.1, fun j c z x y => k9A _ _ (s9 _ _ (R.2 j c z x y))⟩
      have hdA : ∃ o, HA hd = some o := by rcases hFA with h | h | h <;> exact ⟨_, h.1⟩
      have n4 : ∀ c o, H4 c = some o → c ≠ p → HA c = some o := fun c o e hc => SA.keep _ _ (s9 _ _ e) hc
      obtain ⟨sx, hsx⟩ := prsF_str hFA hsm hql
      refine in_ix (SqL.of (SA.keep _ _ th hhp)) (v := V.ref hd) (atI_nat hx1) ?_
      walk_at "fs_rd"
      refine ⟨_, _, rfl, hsx HA (fun c o e _ => e), ?_⟩
      walk_at "fs_rd"
      intro w dx hw hdx hne
      have sN : Same HA (upd (upd HA dx (.own w)) w (.ins t.c_HeapWalk dx [])) := fun b u e => by
        rw [upd_ne (ne_of_none e hw), upd_ne (ne_of_none e hdx)]; exact e
      refine ⟨w, dx, hd, rs', qs, b, rfl, upd_same, prsF_same hFA sN, hql, hqb, hb2, fun pa ma ea us HB hpa hma hea WB kpB => ⟨rfl, ?_⟩⟩
      have sB : Same HA HB := fun c u e => kpB _ _ (sN _ _ e) (ne_of_none e hw)
      have hFB := prsF_same hFA sB
      have hpa0 := sN.free hpa
      have hma0 := sN.free hma
      have hea0 := sN.free hea
      walk_at "fs_rd"
      refine ⟨_, _, rfl, hsx HB (fun c o e _ => sB _ _ e), ?_⟩
      walk_at "fs_rd"
      refine in_neS ?_
      rw [decide_eq_true rfl]
      walk_at "fs_rd"
      refine ⟨hd, rs', qs, rfl, hFB, hql, fun HC kpC => ?_⟩
      have kC : TupK HB HC := fun c xs e => kpC c _ e fun _ => ⟨xs, rfl⟩
      have hnot : ∀ c, (c = w ∨ c = pa ∨ c = ma ∨ c = ea) → ¬ (c = hd ∨ c ∈ rs') := fun c hc z => by
        have h0 : HA c = none := by rcases hc with e | e | e | e <;> rw [e] <;> assumption
        obtain ⟨o, ho⟩ : ∃ o, HA c = some o := z.elim (fun z => by rw [z]; exact hdA) (hrk c)
        rw [h0] at ho; cases ho
      have WC : HwAt t.c_HeapWalk HC w pa ma ea us .non (hw0 qs b) := hw_keep WB (fun c o e hc => kpC c o e fun z => absurd z (hnot c hc)) kC
      have k4C : ∀ c o, H4 c = some o → c ≠ p → HC c = some o := fun c o e hc => kpC c o (sB _ _ (n4 c o e hc)) fun z => z.elim (fun z => by rw [z, hd4] at e; cases e) (hrs c o e)
      have tlC := k4C _ _ tl hlp
      have RC : PsT HC rs qs := pst_tk (pst_tk RA (TupK.of sB)) kC
      walk_at "fs_rd"
      refine ⟨w, pa, ma, ea, l, us, rs, qs, b, rfl, WC, tlC, RC, hql, fun q h => ⟨hqb q h, hq2 q h⟩, hb2, ne_of_none tlA hpa0, ne_of_none tlA hma0, fun HD kD => ?_⟩
      walk_at "fs_rd"
      refine ⟨fun c u e => ?_, _, _, _, _, _, _, _, rfl⟩
      have eA := MA c u e
      exact kD c u (k4C c u (M4 c u e) (ne_of_none e hpn)) (ne_of_none eA hw) (ne_of_none eA hpa0) (ne_of_none eA hma0)
    · rintro σ H' ⟨sm, v1, v2, v3, v4, v5, v6, v7, rfl⟩
      walk_at "fs_rd"
      exact k H'

end
theorem mat1 {α : Type} {P : List α → Prop} (h : ∀ x0 : α, P [x0]) : ∀ us : List α, us.length = 1 → P us
  | [x0], _ => h x0
theorem mat2 {α : Type} {P : List α → Prop} (h : ∀ x0 x1 : α, P [x0, x1]) : ∀ us : List α, us.length = 2 → P us
  | [x0, x1], _ => h x0 x1
theorem mat3 {α : Type} {P : List α → Prop} (h : ∀ x0 x1 x2 : α, P [x0, x1, x2]) : ∀ us : List α, us.length = 3 → P us
  | [x0, x1, x2], _ => h x0 x1 x2
theorem all_mk {l : PySem.W.OpenLaw} {w : World} {K : PySem.W.Frag} {h : Heap} {mg : Str → Option Value} {fa f0 f1 f2 f3 f4 f5 f6 f7 f8 f9 f10 f11 f12 f13 f14 f15 f16 f17 f18 f19 f20 f21 f22 f23 f24 c_HeapWalk : Addr} (X : K.In h) (G : h.Ns mainGlobals mg) (hfa : mg "law" = some (.ref fa))
    {oc0 kV0 dc0 pm0 cd0 ct0 : Value} {od0 an0 : Option Addr} {sl0 : Array (Option Value)}
    (a0 : PySem.W.nsIn K mainGlobals "counts" = some (some (.ref f0)))
    (l0 : K.lookup f0 = some ⟨oc0, od0, .func (PySem.W.fnOf "counts" "counts" (defArgs s_counts) (defBody s_counts) (defScope s_counts) .none kV0 dc0 pm0 an0 cd0 ct0), sl0⟩) (c0 : PySem.W.codeIn K cd0 "counts" = true) (k0 : PySem.W.keepIn K (.ref f0) = true)
    {oc1 kV1 dc1 pm1 cd1 ct1 : Value} {od1 an1 : Option Addr} {sl1 : Array (Option Value)}
    (a1 : PySem.W.nsIn K mainGlobals "begins" = some (some (.ref f1)))
    (l1 : K.lookup f1 = some ⟨oc1, od1, .func (PySem.W.fnOf "begins" "begins" (defArgs s_begins) (defBody s_begins) (defScope s_begins) .none kV1 dc1 pm1 an1 cd1 ct1), sl1⟩) (c1 : PySem.W.codeIn K cd1 "begins" = true) (k1 : PySem.W.keepIn K (.ref f1) = true)
    {oc2 kV2 dc2 pm2 cd2 ct2 : Value} {od2 an2 : Option Addr} {sl2 : Array (Option Value)}
    (a2 : PySem.W.nsIn K mainGlobals "own_copy" = some (some (.ref f2)))
    (l2 : K.lookup f2 = some ⟨oc2, od2, .func (PySem.W.fnOf "own_copy" "own_copy" (defArgs s_own_copy) (defBody s_own_copy) (defScope s_own_copy) .none kV2 dc2 pm2 an2 cd2 ct2), sl2⟩) (c2 : PySem.W.codeIn K cd2 "own_copy" = true) (k2 : PySem.W.keepIn K (.ref f2) = true)
    {oc3 kV3 dc3 pm3 cd3 ct3 : Value} {od3 an3 : Option Addr} {sl3 : Array (Option Value)}
    (a3 : PySem.W.findIn K (.ref c_HeapWalk) "__init__" = some (some (.ref f3))) (i3 : PySem.W.isFn K (.ref f3) = true)
    (l3 : K.lookup f3 = some ⟨oc3, od3, .func (PySem.W.fnOf "__init__" "HeapWalk.__init__" (defArgs s_HeapWalk___init__) (defBody s_HeapWalk___init__) (defScope s_HeapWalk___init__) .none kV3 dc3 pm3 an3 cd3 ct3), sl3⟩) (c3 : PySem.W.codeIn K cd3 "HeapWalk.__init__" = true) (k3 : PySem.W.keepIn K (.ref f3) = true)
    {oc4 kV4 dc4 pm4 cd4 ct4 : Value} {od4 an4 : Option Addr} {sl4 : Array (Option Value)}
    (a4 : PySem.W.findIn K (.ref c_HeapWalk) "mark_of" = some (some (.ref f4))) (i4 : PySem.W.isFn K (.ref f4) = true)
    (l4 : K.lookup f4 = some ⟨oc4, od4, .func (PySem.W.fnOf "mark_of" "HeapWalk.mark_of" (defArgs s_HeapWalk_mark_of) (defBody s_HeapWalk_mark_of) (defScope s_HeapWalk_mark_of) .none kV4 dc4 pm4 an4 cd4 ct4), sl4⟩) (c4 : PySem.W.codeIn K cd4 "HeapWalk.mark_of" = true) (k4 : PySem.W.keepIn K (.ref f4) = true)
    {oc5 kV5 dc5 pm5 cd5 ct5 : Value} {od5 an5 : Option Addr} {sl5 : Array (Option Value)}
    (a5 : PySem.W.findIn K (.ref c_HeapWalk) "stands" = some (some (.ref f5))) (i5 : PySem.W.isFn K (.ref f5) = true)
    (l5 : K.lookup f5 = some ⟨oc5, od5, .func (PySem.W.fnOf "stands" "HeapWalk.stands" (defArgs s_HeapWalk_stands) (defBody s_HeapWalk_stands) (defScope s_HeapWalk_stands) .none kV5 dc5 pm5 an5 cd5 ct5), sl5⟩) (c5 : PySem.W.codeIn K cd5 "HeapWalk.stands" = true) (k5 : PySem.W.keepIn K (.ref f5) = true)
    {oc6 kV6 dc6 pm6 cd6 ct6 : Value} {od6 an6 : Option Addr} {sl6 : Array (Option Value)}
    (a6 : PySem.W.findIn K (.ref c_HeapWalk) "step" = some (some (.ref f6))) (i6 : PySem.W.isFn K (.ref f6) = true)
    (l6 : K.lookup f6 = some ⟨oc6, od6, .func (PySem.W.fnOf "step" "HeapWalk.step" (defArgs s_HeapWalk_step) (defBody s_HeapWalk_step) (defScope s_HeapWalk_step) .none kV6 dc6 pm6 an6 cd6 ct6), sl6⟩) (c6 : PySem.W.codeIn K cd6 "HeapWalk.step" = true) (k6 : PySem.W.keepIn K (.ref f6) = true)
    {oc7 kV7 dc7 pm7 cd7 ct7 : Value} {od7 an7 : Option Addr} {sl7 : Array (Option Value)}
    (a7 : PySem.W.findIn K (.ref c_HeapWalk) "take_first" = some (some (.ref f7))) (i7 : PySem.W.isFn K (.ref f7) = true)
    (l7 : K.lookup f7 = some ⟨oc7, od7, .func (PySem.W.fnOf "take_first" "HeapWalk.take_first" (defArgs s_HeapWalk_take_first) (defBody s_HeapWalk_take_first) (defScope s_HeapWalk_take_first) .none kV7 dc7 pm7 an7 cd7 ct7), sl7⟩) (c7 : PySem.W.codeIn K cd7 "HeapWalk.take_first" = true) (k7 : PySem.W.keepIn K (.ref f7) = true)
    {oc8 kV8 dc8 pm8 cd8 ct8 : Value} {od8 an8 : Option Addr} {sl8 : Array (Option Value)}
    (a8 : PySem.W.findIn K (.ref c_HeapWalk) "put_held" = some (some (.ref f8))) (i8 : PySem.W.isFn K (.ref f8) = true)
    (l8 : K.lookup f8 = some ⟨oc8, od8, .func (PySem.W.fnOf "put_held" "HeapWalk.put_held" (defArgs s_HeapWalk_put_held) (defBody s_HeapWalk_put_held) (defScope s_HeapWalk_put_held) .none kV8 dc8 pm8 an8 cd8 ct8), sl8⟩) (c8 : PySem.W.codeIn K cd8 "HeapWalk.put_held" = true) (k8 : PySem.W.keepIn K (.ref f8) = true)
    {oc9 kV9 dc9 pm9 cd9 ct9 : Value} {od9 an9 : Option Addr} {sl9 : Array (Option Value)}
    (a9 : PySem.W.findIn K (.ref c_HeapWalk) "row" = some (some (.ref f9))) (i9 : PySem.W.isFn K (.ref f9) = true)
    (l9 : K.lookup f9 = some ⟨oc9, od9, .func (PySem.W.fnOf "row" "HeapWalk.row" (defArgs s_HeapWalk_row) (defBody s_HeapWalk_row) (defScope s_HeapWalk_row) .none kV9 dc9 pm9 an9 cd9 ct9), sl9⟩) (c9 : PySem.W.codeIn K cd9 "HeapWalk.row" = true) (k9 : PySem.W.keepIn K (.ref f9) = true)
    {oc10 kV10 dc10 pm10 cd10 ct10 : Value} {od10 an10 : Option Addr} {sl10 : Array (Option Value)}
    (a10 : PySem.W.findIn K (.ref c_HeapWalk) "hand" = some (some (.ref f10))) (i10 : PySem.W.isFn K (.ref f10) = true)
    (l10 : K.lookup f10 = some ⟨oc10, od10, .func (PySem.W.fnOf "hand" "HeapWalk.hand" (defArgs s_HeapWalk_hand) (defBody s_HeapWalk_hand) (defScope s_HeapWalk_hand) .none kV10 dc10 pm10 an10 cd10 ct10), sl10⟩) (c10 : PySem.W.codeIn K cd10 "HeapWalk.hand" = true) (k10 : PySem.W.keepIn K (.ref f10) = true)
    {oc11 kV11 dc11 pm11 cd11 ct11 : Value} {od11 an11 : Option Addr} {sl11 : Array (Option Value)}
    (a11 : PySem.W.findIn K (.ref c_HeapWalk) "puts" = some (some (.ref f11))) (i11 : PySem.W.isFn K (.ref f11) = true)
    (l11 : K.lookup f11 = some ⟨oc11, od11, .func (PySem.W.fnOf "puts" "HeapWalk.puts" (defArgs s_HeapWalk_puts) (defBody s_HeapWalk_puts) (defScope s_HeapWalk_puts) .none kV11 dc11 pm11 an11 cd11 ct11), sl11⟩) (c11 : PySem.W.codeIn K cd11 "HeapWalk.puts" = true) (k11 : PySem.W.keepIn K (.ref f11) = true)
    {oc12 kV12 dc12 pm12 cd12 ct12 : Value} {od12 an12 : Option Addr} {sl12 : Array (Option Value)}
    (a12 : PySem.W.nsIn K mainGlobals "_law_tape" = some (some (.ref f12)))
    (l12 : K.lookup f12 = some ⟨oc12, od12, .func (PySem.W.fnOf "_law_tape" "_law_tape" (defArgs s_tape) (defBody s_tape) (defScope s_tape) .none kV12 dc12 pm12 an12 cd12 ct12), sl12⟩) (c12 : PySem.W.codeIn K cd12 "_law_tape" = true) (k12 : PySem.W.keepIn K (.ref f12) = true)
    {oc13 kV13 dc13 pm13 cd13 ct13 : Value} {od13 an13 : Option Addr} {sl13 : Array (Option Value)}
    (a13 : PySem.W.nsIn K mainGlobals "_law_draw" = some (some (.ref f13)))
    (l13 : K.lookup f13 = some ⟨oc13, od13, .func (PySem.W.fnOf "_law_draw" "_law_draw" (defArgs s_draw) (defBody s_draw) (defScope s_draw) .none kV13 dc13 pm13 an13 cd13 ct13), sl13⟩) (c13 : PySem.W.codeIn K cd13 "_law_draw" = true) (k13 : PySem.W.keepIn K (.ref f13) = true)
    {oc14 kV14 dc14 pm14 cd14 ct14 : Value} {od14 an14 : Option Addr} {sl14 : Array (Option Value)}
    (a14 : PySem.W.nsIn K mainGlobals "_law_many" = some (some (.ref f14)))
    (l14 : K.lookup f14 = some ⟨oc14, od14, .func (PySem.W.fnOf "_law_many" "_law_many" (defArgs s_many) (defBody s_many) (defScope s_many) .none kV14 dc14 pm14 an14 cd14 ct14), sl14⟩) (c14 : PySem.W.codeIn K cd14 "_law_many" = true) (k14 : PySem.W.keepIn K (.ref f14) = true)
    {oc15 kV15 dc15 pm15 cd15 ct15 : Value} {od15 an15 : Option Addr} {sl15 : Array (Option Value)}
    (a15 : PySem.W.nsIn K mainGlobals "_law_pairs" = some (some (.ref f15)))
    (l15 : K.lookup f15 = some ⟨oc15, od15, .func (PySem.W.fnOf "_law_pairs" "_law_pairs" (defArgs s_pairs) (defBody s_pairs) (defScope s_pairs) .none kV15 dc15 pm15 an15 cd15 ct15), sl15⟩) (c15 : PySem.W.codeIn K cd15 "_law_pairs" = true) (k15 : PySem.W.keepIn K (.ref f15) = true)
    {oc16 kV16 dc16 pm16 cd16 ct16 : Value} {od16 an16 : Option Addr} {sl16 : Array (Option Value)}
    (a16 : PySem.W.nsIn K mainGlobals "_law_base" = some (some (.ref f16)))
    (l16 : K.lookup f16 = some ⟨oc16, od16, .func (PySem.W.fnOf "_law_base" "_law_base" (defArgs s_base) (defBody s_base) (defScope s_base) .none kV16 dc16 pm16 an16 cd16 ct16), sl16⟩) (c16 : PySem.W.codeIn K cd16 "_law_base" = true) (k16 : PySem.W.keepIn K (.ref f16) = true)
    {oc17 kV17 dc17 pm17 cd17 ct17 : Value} {od17 an17 : Option Addr} {sl17 : Array (Option Value)}
    (a17 : PySem.W.nsIn K mainGlobals "_law_part_begins" = some (some (.ref f17)))
    (l17 : K.lookup f17 = some ⟨oc17, od17, .func (PySem.W.fnOf "_law_part_begins" "_law_part_begins" (defArgs s_part_begins) (defBody s_part_begins) (defScope s_part_begins) .none kV17 dc17 pm17 an17 cd17 ct17), sl17⟩) (c17 : PySem.W.codeIn K cd17 "_law_part_begins" = true) (k17 : PySem.W.keepIn K (.ref f17) = true)
    {oc18 kV18 dc18 pm18 cd18 ct18 : Value} {od18 an18 : Option Addr} {sl18 : Array (Option Value)}
    (a18 : PySem.W.nsIn K mainGlobals "_law_mark" = some (some (.ref f18)))
    (l18 : K.lookup f18 = some ⟨oc18, od18, .func (PySem.W.fnOf "_law_mark" "_law_mark" (defArgs s_mark) (defBody s_mark) (defScope s_mark) .none kV18 dc18 pm18 an18 cd18 ct18), sl18⟩) (c18 : PySem.W.codeIn K cd18 "_law_mark" = true) (k18 : PySem.W.keepIn K (.ref f18) = true)
    {oc19 kV19 dc19 pm19 cd19 ct19 : Value} {od19 an19 : Option Addr} {sl19 : Array (Option Value)}
    (a19 : PySem.W.nsIn K mainGlobals "_law_next_move" = some (some (.ref f19)))
    (l19 : K.lookup f19 = some ⟨oc19, od19, .func (PySem.W.fnOf "_law_next_move" "_law_next_move" (defArgs s_next_move) (defBody s_next_move) (defScope s_next_move) .none kV19 dc19 pm19 an19 cd19 ct19), sl19⟩) (c19 : PySem.W.codeIn K cd19 "_law_next_move" = true) (k19 : PySem.W.keepIn K (.ref f19) = true)
    {oc20 kV20 dc20 pm20 cd20 ct20 : Value} {od20 an20 : Option Addr} {sl20 : Array (Option Value)}
    (a20 : PySem.W.nsIn K mainGlobals "_law_state" = some (some (.ref f20)))
    (l20 : K.lookup f20 = some ⟨oc20, od20, .func (PySem.W.fnOf "_law_state" "_law_state" (defArgs s_state) (defBody s_state) (defScope s_state) .none kV20 dc20 pm20 an20 cd20 ct20), sl20⟩) (c20 : PySem.W.codeIn K cd20 "_law_state" = true) (k20 : PySem.W.keepIn K (.ref f20) = true)
    {oc21 kV21 dc21 pm21 cd21 ct21 : Value} {od21 an21 : Option Addr} {sl21 : Array (Option Value)}
    (a21 : PySem.W.nsIn K mainGlobals "_law_told" = some (some (.ref f21)))
    (l21 : K.lookup f21 = some ⟨oc21, od21, .func (PySem.W.fnOf "_law_told" "_law_told" (defArgs s_told) (defBody s_told) (defScope s_told) .none kV21 dc21 pm21 an21 cd21 ct21), sl21⟩) (c21 : PySem.W.codeIn K cd21 "_law_told" = true) (k21 : PySem.W.keepIn K (.ref f21) = true)
    {oc22 kV22 dc22 pm22 cd22 ct22 : Value} {od22 an22 : Option Addr} {sl22 : Array (Option Value)}
    (a22 : PySem.W.nsIn K mainGlobals "_law_spoil" = some (some (.ref f22)))
    (l22 : K.lookup f22 = some ⟨oc22, od22, .func (PySem.W.fnOf "_law_spoil" "_law_spoil" (defArgs s_spoil) (defBody s_spoil) (defScope s_spoil) .none kV22 dc22 pm22 an22 cd22 ct22), sl22⟩) (c22 : PySem.W.codeIn K cd22 "_law_spoil" = true) (k22 : PySem.W.keepIn K (.ref f22) = true)
    {oc23 kV23 dc23 pm23 cd23 ct23 : Value} {od23 an23 : Option Addr} {sl23 : Array (Option Value)}
    (a23 : PySem.W.nsIn K mainGlobals "_law_right" = some (some (.ref f23)))
    (l23 : K.lookup f23 = some ⟨oc23, od23, .func (PySem.W.fnOf "_law_right" "_law_right" (defArgs s_right) (defBody s_right) (defScope s_right) .none kV23 dc23 pm23 an23 cd23 ct23), sl23⟩) (c23 : PySem.W.codeIn K cd23 "_law_right" = true) (k23 : PySem.W.keepIn K (.ref f23) = true)
    {oc24 kV24 dc24 pm24 cd24 ct24 : Value} {od24 an24 : Option Addr} {sl24 : Array (Option Value)}
    (a24 : PySem.W.nsIn K mainGlobals "law" = some (some (.ref f24)))
    (l24 : K.lookup f24 = some ⟨oc24, od24, .func (PySem.W.fnOf "law" "law" (defArgs s_law) (defBody s_law) (defScope s_law) .none kV24 dc24 pm24 an24 cd24 ct24), sl24⟩) (c24 : PySem.W.codeIn K cd24 "law" = true) (k24 : PySem.W.keepIn K (.ref f24) = true)
    (z_abs : PySem.W.nsIn K mainGlobals "abs" = some none)
    (z_enumerate : PySem.W.nsIn K mainGlobals "enumerate" = some none)
    (z_int : PySem.W.nsIn K mainGlobals "int" = some none)
    (z_isinstance : PySem.W.nsIn K mainGlobals "isinstance" = some none)
    (z_len : PySem.W.nsIn K mainGlobals "len" = some none)
    (z_list : PySem.W.nsIn K mainGlobals "list" = some none)
    (z_min : PySem.W.nsIn K mainGlobals "min" = some none)
    (z_range : PySem.W.nsIn K mainGlobals "range" = some none)
    (z_sorted : PySem.W.nsIn K mainGlobals "sorted" = some none)
    (z_str : PySem.W.nsIn K mainGlobals "str" = some none)
    (z_tuple : PySem.W.nsIn K mainGlobals "tuple" = some none)
    (z_zip : PySem.W.nsIn K mainGlobals "zip" = some none)
    (ac_HeapWalk : PySem.W.nsIn K mainGlobals "HeapWalk" = some (some (.ref c_HeapWalk)))
    (pg_HeapWalk : PySem.W.plainGet K c_HeapWalk Str.empty = true)
    (hd_HeapWalk : PySem.W.hasDictIn K c_HeapWalk = true)
    (po_HeapWalk : PySem.W.plainOver K c_HeapWalk = true)
    (sa_HeapWalk : PySem.W.findIn K (.ref c_HeapWalk) "__setattr__" = some (some (.builtin "object.__setattr__")))
    (mk_HeapWalk : PySem.W.makesIn K c_HeapWalk = true)
    (kc_HeapWalk : PySem.W.keepIn K (.ref c_HeapWalk) = true)
    (n_HeapWalk_pairs : PySem.W.findIn K (.ref c_HeapWalk) "pairs" = some none)
    (n_HeapWalk_held : PySem.W.findIn K (.ref c_HeapWalk) "held" = some none)
    (n_HeapWalk_marks : PySem.W.findIn K (.ref c_HeapWalk) "marks" = some none)
    (n_HeapWalk_ends : PySem.W.findIn K (.ref c_HeapWalk) "ends" = some none)
    (n_HeapWalk_many_puts : PySem.W.findIn K (.ref c_HeapWalk) "many_puts" = some none) :
    ∃ fd : FuncData, (∀ (s : Shared) (v : Value), BindsTo s fd ⟨[v], []⟩ [("_law_script", v)]) ∧ ∀ base : Heap, K.In base → base.Ns mainGlobals mg → FnOk l.prog w K mg base CX0 6 fa fd ["_law_script"] (spLaw K) := by
  have e := hfa.symm.trans (PySem.W.mg_of X G a24)
  cases e
  have F0 := fun_mk (st := s_counts) l0 c0 k0
  have b0 := F0.binds (ps := ["row", "base"]) fun _ _ _ _ _ _ => mat2 (fun _ _ => rfl)
  have F1 := fun_mk (st := s_begins) l1 c1 k1
  have b1 := F1.binds (ps := ["counts"]) fun _ _ _ _ _ _ => mat1 (fun _ => rfl)
  have F2 := fun_mk (st := s_own_copy) l2 c2 k2
  have b2 := F2.binds (ps := ["thing"]) fun _ _ _ _ _ _ => mat1 (fun _ => rfl)
  have F3 := fun_mk (st := s_HeapWalk___init__) l3 c3 k3
  have b3 := F3.binds (ps := ["self", "row", "base"]) fun _ _ _ _ _ _ => mat3 (fun _ _ _ => rfl)
  have F4 := fun_mk (st := s_HeapWalk_mark_of) l4 c4 k4
  have b4 := F4.binds (ps := ["self", "figure"]) fun _ _ _ _ _ _ => mat2 (fun _ _ => rfl)
  have F5 := fun_mk (st := s_HeapWalk_stands) l5 c5 k5
  have b5 := F5.binds (ps := ["self", "figure", "place"]) fun _ _ _ _ _ _ => mat3 (fun _ _ _ => rfl)
  have F6 := fun_mk (st := s_HeapWalk_step) l6 c6 k6
  have b6 := F6.binds (ps := ["self"]) fun _ _ _ _ _ _ => mat1 (fun _ => rfl)
  have F7 := fun_mk (st := s_HeapWalk_take_first) l7 c7 k7
  have b7 := F7.binds (ps := ["self"]) fun _ _ _ _ _ _ => mat1 (fun _ => rfl)
  have F8 := fun_mk (st := s_HeapWalk_put_held) l8 c8 k8
  have b8 := F8.binds (ps := ["self"]) fun _ _ _ _ _ _ => mat1 (fun _ => rfl)
  have F9 := fun_mk (st := s_HeapWalk_row) l9 c9 k9
  have b9 := F9.binds (ps := ["self"]) fun _ _ _ _ _ _ => mat1 (fun _ => rfl)
  have F10 := fun_mk (st := s_HeapWalk_hand) l10 c10 k10
  have b10 := F10.binds (ps := ["self"]) fun _ _ _ _ _ _ => mat1 (fun _ => rfl)
  have F11 := fun_mk (st := s_HeapWalk_puts) l11 c11 k11
  have b11 := F11.binds (ps := ["self"]) fun _ _ _ _ _ _ => mat1 (fun _ => rfl)
  have F12 := fun_mk (st := s_tape) l12 c12 k12
  have b12 := F12.binds (ps := ["_law_script", "_law_k"]) fun _ _ _ _ _ _ => mat2 (fun _ _ => rfl)
  have F13 := fun_mk (st := s_draw) l13 c13 k13
  have b13 := F13.binds (ps := ["_law_tape_here", "_law_many_here"]) fun _ _ _ _ _ _ => mat2 (fun _ _ => rfl)
  have F14 := fun_mk (st := s_many) l14 c14 k14
  have b14 := F14.binds (ps := ["_law_tape_here", "_law_k"]) fun _ _ _ _ _ _ => mat2 (fun _ _ => rfl)
  have F15 := fun_mk (st := s_pairs) l15 c15 k15
  have b15 := F15.binds (ps := ["_law_tape_here", "_law_many_here", "_law_base_here"]) fun _ _ _ _ _ _ => mat3 (fun _ _ _ => rfl)
  have F16 := fun_mk (st := s_base) l16 c16 k16
  have b16 := F16.binds (ps := ["_law_tape_here"]) fun _ _ _ _ _ _ => mat1 (fun _ => rfl)
  have F17 := fun_mk (st := s_part_begins) l17 c17 k17
  have b17 := F17.binds (ps := ["_law_pairs_here", "_law_base_here"]) fun _ _ _ _ _ _ => mat2 (fun _ _ => rfl)
  have F18 := fun_mk (st := s_mark) l18 c18 k18
  have b18 := F18.binds (ps := ["_law_state_here", "_law_figure"]) fun _ _ _ _ _ _ => mat2 (fun _ _ => rfl)
  have F19 := fun_mk (st := s_next_move) l19 c19 k19
  have b19 := F19.binds (ps := ["_law_state_here"]) fun _ _ _ _ _ _ => mat1 (fun _ => rfl)
  have F20 := fun_mk (st := s_state) l20 c20 k20
  have b20 := F20.binds (ps := ["_law_pairs_here", "_law_base_here"]) fun _ _ _ _ _ _ => mat2 (fun _ _ => rfl)
  have F21 := fun_mk (st := s_told) l21 c21 k21
  have b21 := F21.binds (ps := ["_law_walk", "_law_state_here"]) fun _ _ _ _ _ _ => mat2 (fun _ _ => rfl)
  have F22 := fun_mk (st := s_spoil) l22 c22 k22
  have b22 := F22.binds (ps := ["_law_handed"]) fun _ _ _ _ _ _ => mat1 (fun _ => rfl)
  have F23 := fun_mk (st := s_right) l23 c23 k23
  have b23 := F23.binds (ps := ["_law_walk", "_law_pairs_here", "_law_base_here"]) fun _ _ _ _ _ _ => mat3 (fun _ _ _ => rfl)
  have F24 := fun_mk (st := s_law) l24 c24 k24
  have b24 := F24.binds (ps := ["_law_script"]) fun _ _ _ _ _ _ => mat1 (fun _ => rfl)
  have T : Tx K mg ⟨_, _, _, _, _, _, _, _, _, _, _, _, _, _, _, _, _, _, _, _, _, _, _, _, _, _, _, _, _, _, _, _, _, _, _, _, _, _, _, _, _, _, _, _, _, _, _, _, _, _, _⟩ := ⟨PySem.W.mg_of X G a0, F0, b0, PySem.W.mg_of X G a1, F1, b1, PySem.W.mg_of X G a2, F2, b2, ⟨mk_HeapWalk, a3, i3, kc_HeapWalk⟩, F3, b3, ⟨a4, i4, k4⟩, F4, b4, ⟨a5, i5, k5⟩, F5, b5, ⟨a6, i6, k6⟩, F6, b6, ⟨a7, i7, k7⟩, F7, b7, ⟨a8, i8, k8⟩, F8, b8, ⟨a9, i9, k9⟩, F9, b9, ⟨a10, i10, k10⟩, F10, b10, ⟨a11, i11, k11⟩, F11, b11, PySem.W.mg_of X G a12, F12, b12, PySem.W.mg_of X G a13, F13, b13, PySem.W.mg_of X G a14, F14, b14, PySem.W.mg_of X G a15, F15, b15, PySem.W.mg_of X G a16, F16, b16, PySem.W.mg_of X G a17, F17, b17, PySem.W.mg_of X G a18, F18, b18, PySem.W.mg_of X G a19, F19, b19, PySem.W.mg_of X G a20, F20, b20, PySem.W.mg_of X G a21, F21, b21, PySem.W.mg_of X G a22, F22, b22, PySem.W.mg_of X G a23, F23, b23, PySem.W.mg_of X G a24, F24, b24, PySem.W.mg_none_of X G z_abs, PySem.W.mg_none_of X G z_enumerate, PySem.W.mg_none_of X G z_int, PySem.W.mg_none_of X G z_isinstance, PySem.W.mg_none_of X G z_len, PySem.W.mg_none_of X G z_list, PySem.W.mg_none_of X G z_min, PySem.W.mg_none_of X G z_range, PySem.W.mg_none_of X G z_sorted, PySem.W.mg_none_of X G z_str, PySem.W.mg_none_of X G z_tuple, PySem.W.mg_none_of X G z_zip, PySem.W.mg_of X G ac_HeapWalk, ⟨pg_HeapWalk, hd_HeapWalk, po_HeapWalk, sa_HeapWalk⟩, n_HeapWalk_pairs, n_HeapWalk_held, n_HeapWalk_marks, n_HeapWalk_ends, n_HeapWalk_many_puts⟩
  exact ⟨_, fun s v => .of_eq rfl, fun base _ _ => ok_law T⟩
theorem walk {l : PySem.W.OpenLaw} {q : Program} {loose : List Str} {XP : (Str → Option Value) → Heap → Prop} {YP : World → Heap → Prop} {d : DefRec} {K : Params → PySem.W.Frag} (hn : l.most = some 63) (hdf : d.params.defaults = [])
    (hY : ∀ (w : World) (h : Heap), YP w h → (K w.params).In h)
    (F : ∀ (w : World) (mg : Str → Option Value) (fa : Addr) (h : Heap), (K w.params).In h → h.Ns mainGlobals mg → mg d.name = some (.ref fa) →
      ∃ fd : FuncData, (∀ (s : Shared) (u : Value), BindsTo s fd ⟨[u], []⟩ [("_law_script", u)]) ∧ ∀ base : Heap, (K w.params).In base → base.Ns mainGlobals mg → FnOk l.prog w (K w.params) mg base CX0 6 fa fd ["_law_script"] (spLaw (K w.params))) :
    PySem.W.WalkO q loose XP YP l.row.toRowW d [] (fun f vs => PySem.call f vs) :=
  L2.walk_of (n := 63) (k := 6) (x := "_law_script") (CX := fun _ => CX0) (sp := fun w => spLaw (K w.params)) hn (by decide) hdf ⟨rfl, by decide, by decide, rfl⟩ hY F (fun _ _ a ns hl _ hS => ⟨a, ns, rfl, hS, hl, fun _ => rfl⟩) fun _ _ _ _ _ z => z
end Fs
open PySem PySem.W PyProof.Rows
set_option maxRecDepth 100000 in
set_option maxHeartbeats 0 in
theorem PySem.Challenge.cw_figuresort_k31_steps_of_heap_walks_holds : PySem.Challenge.rw_figuresort_k31_steps_of_heap_walks.Holds := by
  w_on; o_law; k_head; (case hw => w_witness2)
  k_fill
  refine Fs.walk (l := PySem.Challenge.rw_figuresort_k31_steps_of_heap_walks) rfl rfl (fun w h Y => PySem.W.kIn_of Y) ?F
  case F =>
    intro w mg fa h KX G hmg
    refine' Fs.all_mk KX G hmg ?a0 ?l0 ?c0 ?k0 ?a1 ?l1 ?c1 ?k1 ?a2 ?l2 ?c2 ?k2 ?a3 ?i3 ?l3 ?c3 ?k3 ?a4 ?i4 ?l4 ?c4 ?k4 ?a5 ?i5 ?l5 ?c5 ?k5 ?a6 ?i6 ?l6 ?c6 ?k6 ?a7 ?i7 ?l7 ?c7 ?k7 ?a8 ?i8 ?l8 ?c8 ?k8 ?a9 ?i9 ?l9 ?c9 ?k9 ?a10 ?i10 ?l10 ?c10 ?k10 ?a11 ?i11 ?l11 ?c11 ?k11 ?a12 ?l12 ?c12 ?k12 ?a13 ?l13 ?c13 ?k13 ?a14 ?l14 ?c14 ?k14 ?a15 ?l15 ?c15 ?k15 ?a16 ?l16 ?c16 ?k16 ?a17 ?l17 ?c17 ?k17 ?a18 ?l18 ?c18 ?k18 ?a19 ?l19 ?c19 ?k19 ?a20 ?l20 ?c20 ?k20 ?a21 ?l21 ?c21 ?k21 ?a22 ?l22 ?c22 ?k22 ?a23 ?l23 ?c23 ?k23 ?a24 ?l24 ?c24 ?k24 ?z_abs ?z_enumerate ?z_int ?z_isinstance ?z_len ?z_list ?z_min ?z_range ?z_sorted ?z_str ?z_tuple ?z_zip ?ac_HeapWalk ?pg_HeapWalk ?hd_HeapWalk ?po_HeapWalk ?sa_HeapWalk ?mk_HeapWalk ?kc_HeapWalk ?n_HeapWalk_pairs ?n_HeapWalk_held ?n_HeapWalk_marks ?n_HeapWalk_ends ?n_HeapWalk_many_puts
    (case ac_HeapWalk => k_is)
    (case a0 => k_is)
    (case l0 => k_is)
    (case c0 => k_is)
    (case k0 => k_is)
    (case a1 => k_is)
    (case l1 => k_is)
    (case c1 => k_is)
    (case k1 => k_is)
    (case a2 => k_is)
    (case l2 => k_is)
    (case c2 => k_is)
    (case k2 => k_is)
    (case a3 => k_is)
    (case i3 => k_is)
    (case l3 => k_is)
    (case c3 => k_is)
    (case k3 => k_is)
    (case a4 => k_is)
    (case i4 => k_is)
    (case l4 => k_is)
    (case c4 => k_is)
    (case k4 => k_is)
    (case a5 => k_is)
    (case i5 => k_is)
    (case l5 => k_is)
    (case c5 => k_is)
    (case k5 => k_is)
    (case a6 => k_is)
    (case i6 => k_is)
    (case l6 => k_is)
    (case c6 => k_is)
    (case k6 => k_is)
    (case a7 => k_is)
    (case i7 => k_is)
    (case l7 => k_is)
    (case c7 => k_is)
    (case k7 => k_is)
    (case a8 => k_is)
    (case i8 => k_is)
    (case l8 => k_is)
    (case c8 => k_is)
    (case k8 => k_is)
    (case a9 => k_is)
    (case i9 => k_is)
    (case l9 => k_is)
    (case c9 => k_is)
    (case k9 => k_is)
    (case a10 => k_is)
    (case i10 => k_is)
    (case l10 => k_is)
    (case c10 => k_is)
    (case k10 => k_is)
    (case a11 => k_is)
    (case i11 => k_is)
    (case l11 => k_is)
    (case c11 => k_is)
    (case k11 => k_is)
    (case a12 => k_is)
    (case l12 => k_is)
    (case c12 => k_is)
    (case k12 => k_is)
    (case a13 => k_is)
    (case l13 => k_is)
    (case c13 => k_is)
    (case k13 => k_is)
    (case a14 => k_is)
    (case l14 => k_is)
    (case c14 => k_is)
    (case k14 => k_is)
    (case a15 => k_is)
    (case l15 => k_is)
    (case c15 => k_is)
    (case k15 => k_is)
    (case a16 => k_is)
    (case l16 => k_is)
    (case c16 => k_is)
    (case k16 => k_is)
    (case a17 => k_is)
    (case l17 => k_is)
    (case c17 => k_is)
    (case k17 => k_is)
    (case a18 => k_is)
    (case l18 => k_is)
    (case c18 => k_is)
    (case k18 => k_is)
    (case a19 => k_is)
    (case l19 => k_is)
    (case c19 => k_is)
    (case k19 => k_is)
    (case a20 => k_is)
    (case l20 => k_is)
    (case c20 => k_is)
    (case k20 => k_is)
    (case a21 => k_is)
    (case l21 => k_is)
    (case c21 => k_is)
    (case k21 => k_is)
    (case a22 => k_is)
    (case l22 => k_is)
    (case c22 => k_is)
    (case k22 => k_is)
    (case a23 => k_is)
    (case l23 => k_is)
    (case c23 => k_is)
    (case k23 => k_is)
    (case a24 => k_is)
    (case l24 => k_is)
    (case c24 => k_is)
    (case k24 => k_is)
    (case z_abs => k_is)
    (case z_enumerate => k_is)
    (case z_int => k_is)
    (case z_isinstance => k_is)
    (case z_len => k_is)
    (case z_list => k_is)
    (case z_min => k_is)
    (case z_range => k_is)
    (case z_sorted => k_is)
    (case z_str => k_is)
    (case z_tuple => k_is)
    (case z_zip => k_is)
    (case pg_HeapWalk => k_is)
    (case hd_HeapWalk => k_is)
    (case po_HeapWalk => k_is)
    (case sa_HeapWalk => k_is)
    (case mk_HeapWalk => k_is)
    (case kc_HeapWalk => k_is)
    (case n_HeapWalk_pairs => k_is)
    (case n_HeapWalk_held => k_is)
    (case n_HeapWalk_marks => k_is)
    (case n_HeapWalk_ends => k_is)
    (case n_HeapWalk_many_puts => k_is)

