import PyProof.Rows.All
import Wide.All
import OpenK.AllK
import Wide.FinOn
import Lean
import PyProof.EqAt
import PyProof.EqKinds
import PyProof.TupleCall
import PySem.Challenge.RW_figuresort_k61_whole_there_and_back
set_option compiler.extract_closed false
-- CHANGE: your row's module here, as the last of these rows
set_option Elab.async false
set_option linter.all false
set_option maxRecDepth 100000
namespace L2
open PySem PySem.Spec PyProof.Rows

noncomputable abbrev Key := Sum Int Str
noncomputable def keyIs : Key → Value → Bool
  | .inl k, v => Value.isInt k v
  | .inr x, v => Value.isStrOf x v
noncomputable def keyH (w : World) : Key → Int
  | .inl k => hashInt k
  | .inr x => hashStr w x
theorem keyIs_shape : ∀ {k : Key} {v : Value}, keyIs k v = true → (∃ i t, k = Sum.inl i ∧ v = Value.int i t) ∨ (∃ x t, k = Sum.inr x ∧ v = Value.str x t)
  | .inl i, v, h => by
    obtain ⟨t, e⟩ := Value.isInt_shape (k := i) (v := v) h
    exact .inl ⟨i, t, rfl, e⟩
  | .inr x, v, h => by
    obtain ⟨t, e⟩ := Value.isStrOf_shape (x := x) (v := v) h
    exact .inr ⟨x, t, rfl, e⟩
theorem key_ll (a b : Int) : decide ((Sum.inl a : Key) = Sum.inl b) = (a == b) := by
  by_cases e : a = b
  · subst e; simp
  · have h : ¬ (Sum.inl a : Key) = Sum.inl b := fun q => e (Sum.inl.inj q)
    rw [decide_eq_false h]
    exact (beq_eq_false_iff_ne.mpr e).symm
theorem key_rr (a b : Str) : decide ((Sum.inr a : Key) = Sum.inr b) = decide (a = b) := by
  by_cases e : a = b
  · subst e; simp
  · have h : ¬ (Sum.inr a : Key) = Sum.inr b := fun q => e (Sum.inr.inj q)
    rw [decide_eq_false h, decide_eq_false e]
theorem key_lr (a : Int) (b : Str) : decide ((Sum.inl a : Key) = Sum.inr b) = false := decide_eq_false (fun q => nomatch q)
theorem key_rl (a : Str) (b : Int) : decide ((Sum.inr a : Key) = Sum.inl b) = false := decide_eq_false (fun q => nomatch q)

noncomputable def mixKind (prog : Program) (w : World) : PySem.KeyKind prog w Key where
  is := keyIs
  hash := keyH w
  inj := fun v a b ha hb => by
    rcases keyIs_shape ha with ⟨i, t, rfl, rfl⟩ | ⟨x, t, rfl, rfl⟩
    · rcases keyIs_shape hb with ⟨j, u, rfl, e⟩ | ⟨y, u, rfl, e⟩
      · injection e with e1 _; rw [e1]
      · exact nomatch e
    · rcases keyIs_shape hb with ⟨j, u, rfl, e⟩ | ⟨y, u, rfl, e⟩
      · exact nomatch e
      · injection e with e1 _; rw [e1]
  byValue := fun k v h => by
    rcases keyIs_shape h with ⟨i, t, rfl, rfl⟩ | ⟨x, t, rfl, rfl⟩ <;> rfl
  pyHash := fun hv h => by
    rcases keyIs_shape hv with ⟨i, t, rfl, rfl⟩ | ⟨x, t, rfl, rfl⟩
    · exact wpAny_pyHash_int h
    · exact wpAny_pyHash_str h
  eqBool := fun hu hv h => by
    rcases keyIs_shape hu with ⟨i, t, rfl, rfl⟩ | ⟨x, t, rfl, rfl⟩
    · rcases keyIs_shape hv with ⟨j, u, rfl, rfl⟩ | ⟨y, u, rfl, rfl⟩
      · rw [key_ll] at h; exact wpAny_eqBool_int h
      · rw [key_lr] at h; exact SeqAt.EqAt.int_str i t y u _ _ _ _ h
    · rcases keyIs_shape hv with ⟨j, u, rfl, rfl⟩ | ⟨y, u, rfl, rfl⟩
      · rw [key_rl] at h; exact SeqAt.EqAt.str_int x t j u _ _ _ _ h
      · rw [key_rr] at h; exact wpAny_eqBool_str h
  «strs» := fun k x t v h => by
    rcases keyIs_shape h with ⟨i, u, rfl, e⟩ | ⟨y, u, rfl, e⟩
    · exact nomatch e
    · injection e with e1 _
      subst e1
      cases v <;> rfl

end L2

namespace L2
open PySem PySem.Spec PyProof.Rows

inductive V where
  | non | bl (b : Bool) | int (i : Int) | str (x : Str) | byt (b : Array UInt8) | flt (b : UInt64) | ref (a : Addr) | ty (n : String)
  deriving DecidableEq

noncomputable def RelV : V → Value → Prop
  | .non, u => u = Value.none
  | .bl b, u => u = Value.bool b
  | .int i, u => ∃ t, u = Value.int i t
  | .str x, u => ∃ t, u = Value.str x t
  | .byt b, u => ∃ t, u = Value.bytes b t
  | .flt b, u => ∃ t, u = Value.float b t
  | .ref a, u => u = Value.ref a
  | .ty n, u => u = Value.type n

noncomputable abbrev Vals : List V → List Value → Prop := Paired RelV
theorem Vals.length {xs : List V} {us : List Value} (r : Vals xs us) : xs.length = us.length := Paired.length r
theorem Vals.get : ∀ {xs : List V} {us : List Value} {i : Nat} {x : V}, Vals xs us → xs[i]? = some x → ∃ u, us[i]? = some u ∧ RelV x u
  | _, _, _, _, .nil, e => by simp at e
  | _, _, 0, _, .cons r _, e => by simp at e; subst e; exact ⟨_, rfl, r⟩
  | _, _, i + 1, x, .cons _ t, e => by
    obtain ⟨u, h1, h2⟩ := Vals.get (i := i) (x := x) t (by simpa using e)
    exact ⟨u, by simpa using h1, h2⟩
theorem Vals.set {x : V} {u : Value} (r : RelV x u) : ∀ {xs : List V} {us : List Value} (i : Nat), Vals xs us → Vals (xs.set i x) (us.set i u)
  | _, _, _, .nil => .nil
  | _, _, 0, .cons _ t => .cons r t
  | _, _, i + 1, .cons q t => .cons q (Vals.set r i t)
theorem Vals.append : ∀ {xs ys : List V} {us ws : List Value}, Vals xs us → Vals ys ws → Vals (xs ++ ys) (us ++ ws)
  | _, _, _, _, .nil, s => s
  | _, _, _, _, .cons r t, s => .cons r (Vals.append t s)
theorem Vals.take : ∀ {xs : List V} {us : List Value} (n : Nat), Vals xs us → Vals (xs.take n) (us.take n)
  | _, _, 0, _ => .nil
  | _, _, _ + 1, .nil => .nil
  | _, _, n + 1, .cons r t => .cons r (Vals.take n t)
theorem Vals.drop : ∀ {xs : List V} {us : List Value} (n : Nat), Vals xs us → Vals (xs.drop n) (us.drop n)
  | _, _, 0, r => r
  | _, _, _ + 1, .nil => .nil
  | _, _, n + 1, .cons _ t => Vals.drop n t
noncomputable def RelO : Option V → Option Value → Prop
  | some v, some u => RelV v u
  | none, none => True
  | _, _ => False
noncomputable def KV {κ : Type} : List (κ × V) → List (κ × Value) → Prop := Paired fun (p : κ × V) (q : κ × Value) => p.1 = q.1 ∧ RelV p.2 q.2

noncomputable def kV : Key → V
  | .inl i => .int i
  | .inr x => .str x

inductive HO where
  /-- a list -/
  | lst (xs : List V)
  /-- a tuple (never changes) -/
  | tup (xs : List V)
  /-- a dict whose keys are ints and texts; one whose keys are tuples of ints and texts (the empty one is both) -/
  | dK (kvs : List (Key × V)) | dT (kvs : List (List Key × V))
  /-- a set of ints: its members, its size -/
  | set (S : Int → Bool) (n : Nat)
  /-- an instance of the class at C, its dict at dx, its attributes -/
  | ins (C dx : Addr) (fs : List (Str × V))
  /-- the dict of the instance at x -/
  | own (x : Addr)
  /-- the dict of an exception -/
  | xd (fs : List (Str × V))
  /-- a bound method, f of x -/
  | met (f x : Addr)
  /-- a range object lo, lo + 1, .. below hi -/
  | rng (lo hi : Int)
  /-- a thing that is known to the object (the script; a dict while a loop walks it): read, never written while it is so -/
  | frz (o : Obj) (u : HO)
  /-- a code object's table -/
  | tbl (ps : Array Value)
  /-- any other thing, by what is true of its one object (a def of one's own: SetO a S n := HO.ext fun h => ..) -/
  | ext (φ : Heap → Prop)

noncomputable abbrev Hp := Addr → Option HO
noncomputable def upd (H : Hp) (a : Addr) (o : HO) : Hp := fun b => if b = a then some o else H b
theorem upd_same {H : Hp} {a : Addr} {o : HO} : upd H a o a = some o := by unfold upd; rw [if_pos rfl]
theorem upd_ne {H : Hp} {a b : Addr} {o : HO} (h : b ≠ a) : upd H a o b = H b := by unfold upd; rw [if_neg h]
theorem ne_of {H : Hp} {a b : Addr} {o u : HO} (h : H a = some o) (h' : H b = some u) (d : o ≠ u) : a ≠ b := by
  intro e; subst e; rw [h] at h'; exact d (Option.some.inj h')
theorem ne_of_none {H : Hp} {a b : Addr} {o : HO} (h : H a = some o) (h' : H b = none) : a ≠ b := by
  intro e; subst e; rw [h] at h'; cases h'

section
variable (P : Program) (w : World)
noncomputable def ObjOk (H : Hp) (h : Heap) (a : Addr) : HO → Prop
  | .lst xs => xs.length ≤ sizeLine ∧ ∃ (its : List Value) (n : Nat), Vals xs its ∧ h.get? a = some { cls := .type "list", data := .seq its.toArray n }
  | .tup xs => xs.length ≤ sizeLine ∧ ∃ its : List Value, Vals xs its ∧ IsTup h a its.toArray
  | .dK kvs => kvs.length ≤ sizeLine ∧ (a == sysModules) = false ∧ ∃ vs, KV kvs vs ∧ h.DictOf (mixKind P w) a vs
  | .dT kvs => kvs.length ≤ sizeLine ∧ (a == sysModules) = false ∧ ∃ xs : List (List Key × Addr × Value),
      Paired (fun (p : List Key × V) (q : List Key × Addr × Value) => p.1 = q.1 ∧ H q.2.1 = some (.tup (p.1.map kV)) ∧ RelV p.2 q.2.2) kvs xs ∧
      ∃ o es ep, h.get? a = some o ∧ o.ExactDict ∧ o.data = .dict es ep ∧ es.toList = xs.map (entryOfKey (tupleKind (mixKind P w))) ∧ (xs.map (·.1)).Nodup
  | .set S n => h.SetOf (intKind P w) a S n
  | .ins C dx fs => H dx = some (.own a) ∧ fs.length ≤ 1000 ∧ dx ≠ a ∧ h.get? a = some (PySem.W.instObj C dx) ∧
      ∃ mA, h.Ns1 dx mA ∧ (∀ f, RelO (fs.lookup f) (mA f)) ∧ PySem.Within mA (fs.map (·.1))
  | .own _ => ∃ o, h.get? a = some o
  | .xd fs => ∃ mA, h.Ns1 a mA ∧ ∀ f, RelO (fs.lookup f) (mA f)
  | .rng lo hi => ∃ t u v, h.get? a = some { cls := .type "range", data := .fields #[.int lo t, .int hi u, .int 1 v] }
  | .frz o u => h.get? a = some o ∧ ObjOk H h a u
  | .tbl ps => h.get? a = some { cls := .none, data := .fields ps }
  | .met f x => h.get? a = some (PySem.W.methodObj (.ref f) (.ref x))
  | .ext φ => φ h ∧ (∃ o, h.get? a = some o) ∧ ∀ h1 h2 : Heap, φ h1 → (∀ o, h1.get? a = some o → h2.get? a = some o) → φ h2
noncomputable def HOk (H : Hp) (h : Heap) : Prop := ∀ a o, H a = some o → ObjOk P w H h a o
end

section
variable {P : Program} {w : World} {H H' : Hp} {h h' : Heap} {a : Addr} {o : HO}
theorem ObjOk.lt (x : ObjOk P w H h a o) : a < h.objs.size := by
  cases o with
  | lst xs => obtain ⟨_, _, _, _, e⟩ := x; exact Heap.lt_size e
  | tup xs => obtain ⟨_, _, _, p⟩ := x; exact p.lt
  | dK kvs => obtain ⟨_, _, _, _, o, _, _, e, _⟩ := x; exact Heap.lt_size e
  | dT kvs => obtain ⟨_, _, _, _, o, _, _, e, _⟩ := x; exact Heap.lt_size e
  | set S n => obtain ⟨o, _, _, _, e, _⟩ := x; exact Heap.lt_size e
  | ins C dx fs => obtain ⟨_, _, _, e, _⟩ := x; exact Heap.lt_size e
  | own y => obtain ⟨_, e⟩ := x; exact Heap.lt_size e
  | xd fs => obtain ⟨_, ⟨_, _, _, e, _⟩, _⟩ := x; exact Heap.lt_size e
  | rng lo hi => obtain ⟨_, _, _, e⟩ := x; exact Heap.lt_size e
  | frz ob u => obtain ⟨e, _⟩ := x; exact Heap.lt_size e
  | tbl ps => exact Heap.lt_size (show h.get? a = some _ from x)
  | met f y => exact Heap.lt_size (show h.get? a = some _ from x)
  | ext φ => obtain ⟨_, ⟨_, e⟩, _⟩ := x; exact Heap.lt_size e
theorem Paired.mapP {α β : Type} {F G : α → β → Prop} : ∀ {l₁ : List α} {l₂ : List β}, Paired F l₁ l₂ → (∀ a b, F a b → G a b) → Paired G l₁ l₂
  | _, _, .nil, _ => .nil
  | _, _, .cons r t, f => .cons (f _ _ r) (Paired.mapP t f)
theorem ObjOk.stay (x : ObjOk P w H h a o) (k : ∀ b u, (b = a ∨ H b = some (.own a)) → h.get? b = some u → h'.get? b = some u)
    (ho : ∀ b, H b = some (.own a) → H' b = some (.own a)) (ht : ∀ b xs, H b = some (.tup xs) → H' b = some (.tup xs)) : ObjOk P w H' h' a o := by
  induction o with
  | lst xs => obtain ⟨z, its, n, r, e⟩ := x; exact ⟨z, its, n, r, k _ _ (.inl rfl) e⟩
  | tup xs => obtain ⟨z, its, r, ob, e, c⟩ := x; exact ⟨z, its, r, ob, k _ _ (.inl rfl) e, c⟩
  | dK kvs => obtain ⟨z, y, vs, r, ob, es, ep, e, c⟩ := x; exact ⟨z, y, vs, r, ob, es, ep, k _ _ (.inl rfl) e, c⟩
  | dT kvs =>
    obtain ⟨z, y, xs, r, ob, es, ep, e, c⟩ := x
    exact ⟨z, y, xs, Paired.mapP r fun p q z => ⟨z.1, ht _ _ z.2.1, z.2.2⟩, ob, es, ep, k _ _ (.inl rfl) e, c⟩
  | set S n => obtain ⟨ob, es, ep, t, e, c⟩ := x; exact ⟨ob, es, ep, t, k _ _ (.inl rfl) e, c⟩
  | ins C dx fs =>
    obtain ⟨d, z, ne, e, mA, ⟨od, es, ep, e2, c⟩, r⟩ := x
    exact ⟨ho _ d, z, ne, k _ _ (.inl rfl) e, mA, ⟨od, es, ep, k _ _ (.inr d) e2, c⟩, r⟩
  | own y => obtain ⟨ob, e⟩ := x; exact ⟨ob, k _ _ (.inl rfl) e⟩
  | xd fs => obtain ⟨mA, ⟨od, es, ep, e, c⟩, r⟩ := x; exact ⟨mA, ⟨od, es, ep, k _ _ (.inl rfl) e, c⟩, r⟩
  | rng lo hi => obtain ⟨t, u, v, e⟩ := x; exact ⟨t, u, v, k _ _ (.inl rfl) e⟩
  | frz ob u ih => obtain ⟨e, q⟩ := x; exact ⟨k _ _ (.inl rfl) e, ih q⟩
  | tbl ps =>
    have e : h.get? a = some { cls := .none, data := .fields ps } := x
    show h'.get? a = some { cls := .none, data := .fields ps }
    exact k a _ (.inl rfl) e
  | met f y =>
    have e : h.get? a = some (PySem.W.methodObj (.ref f) (.ref y)) := x
    show h'.get? a = some (PySem.W.methodObj (.ref f) (.ref y))
    exact k a _ (.inl rfl) e
  | ext φ => obtain ⟨p, ⟨o, e⟩, st⟩ := x; exact ⟨st _ _ p fun o q => k _ _ (.inl rfl) q, ⟨o, k _ _ (.inl rfl) e⟩, st⟩
theorem HOk.lt (x : HOk P w H h) (e : H a = some o) : a < h.objs.size := (x a o e).lt
theorem HOk.fresh (x : HOk P w H h) (e : h.objs.size ≤ a) : H a = none := by
  cases q : H a with
  | none => rfl
  | some u => exact absurd (Nat.lt_of_lt_of_le (x.lt q) e) (Nat.lt_irrefl _)
theorem HOk.kept (x : HOk P w H h) (k : ∀ b u, h.get? b = some u → h'.get? b = some u) : HOk P w H h' := fun a o e =>
  (x a o e).stay (fun b u _ q => k b u q) (fun _ q => q) fun _ _ q => q
theorem HOk.laid (x : HOk P w H h) (k : ∀ b u, h.get? b = some u → h'.get? b = some u) (hp : h.objs.size ≤ a) (new : ObjOk P w (upd H a o) h' a o) : HOk P w (upd H a o) h' := fun b u e => by
  have hn := x.fresh hp
  by_cases hb : b = a
  · subst hb; rw [upd_same] at e; cases e; exact new
  · rw [upd_ne hb] at e
    exact (x b u e).stay (fun c v _ q => k c v q) (fun c q => by rw [upd_ne (ne_of_none q hn)]; exact q) fun c xs q => by rw [upd_ne (ne_of_none q hn)]; exact q
end

noncomputable def Rd (H : Hp) (a : Addr) (u : HO) : Prop := H a = some u ∨ ∃ o, H a = some (.frz o u)
theorem Rd.ok {P : Program} {w : World} {H : Hp} {h : Heap} {a : Addr} {u : HO} (r : Rd H a u) (x : HOk P w H h) : ObjOk P w H h a u := by
  rcases r with r | ⟨o, r⟩
  · exact x a u r
  · obtain ⟨_, q⟩ := x a _ r
    exact q
noncomputable def Mut : Option HO → Prop
  | some (.lst _) => True
  | some (.dK _) => True
  | some (.dT _) => True
  | some (.set _ _) => True
  | some (.ins _ _ _) => True
  | some (.ext _) => True
  | _ => False
section
variable {P : Program} {w : World} {H : Hp} {h h' : Heap} {x e : Addr} {o' : HO}
theorem HOk.write (ok : HOk P w H h) (mu : Mut (H x)) (he : e = x ∨ H e = some (.own x)) (k : ∀ b u, b ≠ e → h.get? b = some u → h'.get? b = some u) (heo : ∃ u, h'.get? e = some u)
    (new : ObjOk P w (upd H x o') h' x o') : HOk P w (upd H x o') h' := fun b u q => by
  have nown : ∀ c y, H c = some (.own y) → c ≠ x := fun c y r z => by subst z; rw [r] at mu; exact mu
  have ntup : ∀ c xs, H c = some (.tup xs) → c ≠ x := fun c xs r z => by subst z; rw [r] at mu; exact mu
  by_cases hb : b = x
  · subst hb; rw [upd_same] at q; cases q; exact new
  · rw [upd_ne hb] at q
    by_cases hbe : b = e
    · have q' : H b = some (.own x) := by
        rcases he with z | z
        · exact absurd (hbe.trans z) hb
        · rw [hbe]; exact z
      rw [q] at q'; cases q'
      obtain ⟨v, hv⟩ := heo
      exact ⟨v, by rw [hbe]; exact hv⟩
    · refine (ok b u q).stay (fun c v hc r => k c v ?_ r) (fun c r => by rw [upd_ne (nown c b r)]; exact r) fun c xs r => by rw [upd_ne (ntup c xs r)]; exact r
      rcases hc with rfl | hc
      · exact hbe
      · rintro rfl
        rcases he with z | z
        · exact nown c b hc z
        · rw [hc] at z; cases z; exact hb rfl
end

structure Un (fs ex : List Addr) (H H' : Hp) (h h' : Heap) : Prop where
  keep : ∀ b o, h.get? b = some o → H b = none → b ∉ fs → b ∉ ex → h'.get? b = some o
  slot : ∀ b o, h.get? b = some o → H b = none → b ∈ fs → b ∉ ex → ∃ sl, h'.get? b = some { o with slots := sl }
  free : ∀ b o, h.get? b = some o → H b = none → b ∉ ex → H' b = none
  there : ∀ b o, h.get? b = some o → b ∉ ex → ∃ o', h'.get? b = some o'
  tups : ∀ b xs, H b = some (.tup xs) → H' b = some (.tup xs)
  frzs : ∀ b o u, H b = some (.frz o u) → H' b = some (.frz o u)
  tbls : ∀ b ps, H b = some (.tbl ps) → ∃ more, H' b = some (.tbl (ps ++ more))
section
variable {fs fs' ex ex' : List Addr} {H H1 H2 : Hp} {h h1 h2 h' : Heap} {a x e : Addr} {o : HO}
theorem Un.any (u : Un fs ex H H1 h h1) {b : Addr} {ob : Obj} (q : h.get? b = some ob) (n : H b = none) (hx : b ∉ ex) : ∃ sl, h1.get? b = some { ob with slots := sl } := by
  by_cases hb : b ∈ fs
  · exact u.slot b ob q n hb hx
  · exact ⟨ob.slots, u.keep b ob q n hb hx⟩
theorem Un.kept (k : ∀ b u, h.get? b = some u → h'.get? b = some u) : Un fs ex H H h h' :=
  ⟨fun b ob q _ _ _ => k b ob q, fun b ob q _ _ _ => ⟨ob.slots, k b ob q⟩, fun _ _ _ n _ => n, fun b ob q _ => ⟨ob, k b ob q⟩, fun _ _ q => q, fun _ _ _ q => q, fun _ ps q => ⟨#[], by rw [q]; simp⟩⟩
theorem Un.refl : Un fs ex H H h h := Un.kept fun _ _ q => q
theorem Un.laid (k : ∀ b u, h.get? b = some u → h'.get? b = some u) (hp : h.objs.size ≤ a) (hn : H a = none) : Un fs ex H (upd H a o) h h' where
  keep := fun b u q _ _ _ => k b u q
  slot := fun b u q _ _ _ => ⟨u.slots, k b u q⟩
  free := fun b u q n _ => by rw [upd_ne (Nat.ne_of_lt (Nat.lt_of_lt_of_le (Heap.lt_size q) hp))]; exact n
  there := fun b u q _ => ⟨u, k b u q⟩
  tups := fun b xs q => by rw [upd_ne (ne_of_none q hn)]; exact q
  frzs := fun b u xs q => by rw [upd_ne (ne_of_none q hn)]; exact q
  tbls := fun b ps q => ⟨#[], by rw [upd_ne (ne_of_none q hn), q]; simp⟩
theorem Un.write (mu : Mut (H x)) (he : e = x ∨ H e = some (.own x)) (k : ∀ b u, b ≠ e → h.get? b = some u → h'.get? b = some u) (heo : ∃ u, h'.get? e = some u) : Un fs ex H (upd H x o) h h' := by
  have hx : ∀ b, H b = none → b ≠ x := fun b n z => by subst z; rw [n] at mu; exact mu
  have hb : ∀ b, H b = none → b ≠ e := fun b n z => by
    subst z
    rcases he with r | r
    · exact hx b n r
    · rw [n] at r; cases r
  have hm : ∀ b u, H b = some u → ¬ Mut (some u) → b ≠ x := fun b u q nm z => by subst z; rw [q] at mu; exact nm mu
  refine ⟨fun b u q n _ _ => k b u (hb b n) q, fun b u q n _ _ => ⟨u.slots, k b u (hb b n) q⟩, fun b u q n _ => by rw [upd_ne (hx b n)]; exact n, fun b u q _ => ?_,
    fun b xs q => by rw [upd_ne (hm b _ q fun z => z)]; exact q, fun b u xs q => by rw [upd_ne (hm b _ q fun z => z)]; exact q, fun b ps q => ⟨#[], by rw [upd_ne (hm b _ q fun z => z), q]; simp⟩⟩
  by_cases hbe : b = e
  · subst hbe; exact heo
  · exact ⟨u, k b u hbe q⟩
end

noncomputable def trk (h : Heap) (H : Hp) : List Addr := (List.range h.objs.size).filter fun a => (H a).isSome
noncomputable def hidT (h : Heap) (H : Hp) : Heap := PySem.W.hideAll h (trk h H)
theorem hidT_size (h : Heap) (H : Hp) : (hidT h H).objs.size = h.objs.size := PySem.W.hideAll_size _ _
theorem hidT_get {h : Heap} {H : Hp} {b : Addr} {o : Obj} (e : h.get? b = some o) (n : H b = none) : (hidT h H).get? b = some o :=
  PySem.W.hideAll_get _ e fun hm => by
    have q : (H b).isSome = true := (List.mem_filter.mp hm).2
    rw [n] at q; simp at q
theorem of_hidT {h : Heap} {H : Hp} {b : Addr} {o : Obj} (e : (hidT h H).get? b = some o) : h.get? b = some o ∧ H b = none := by
  have e' : h.get? b = some o := PySem.W.of_hideAll (trk h H) e
  refine ⟨e', ?_⟩
  cases q : H b with
  | none => rfl
  | some x =>
    have hm : b ∈ trk h H := List.mem_filter.mpr ⟨List.mem_range.mpr (Heap.lt_size e'), by simp [q]⟩
    have z : (hidT h H).get? b = none := PySem.W.hideAll_none (trk h H) hm
    rw [z] at e; cases e

noncomputable def allNews (g h : Heap) (L : Addr) : List (Addr × Obj) := (List.range h.objs.size).filterMap fun a => if a = L ∨ (g.get? a).isSome = true then none else (h.get? a).map fun o => (a, o)
noncomputable def rest (g h : Heap) (L d : Addr) : List (Addr × Obj) := (allNews g h L).filter fun p => decide (p.1 ≠ d)
end L2

namespace L2
open PySem PySem.Spec PyProof.Rows

structure Mod (K : PySem.W.Frag) (mg : Str → Option Value) (base : Heap) : Prop where
  kin : K.In base
  glob : base.Ns mainGlobals mg
  blt : ∃ mb, base.Ns builtinsNs mb ∧ ∀ x : Str, x ≠ "__name__" → mb x = bootBuiltins x
  nolimit : base.NoLimit

/-- the context: a def's body (or a comprehension's block) running. base: fixed through the whole law; s₀, H₀: the entry; outer: the frames whose slots others may change (a def's callers); stack: all frames that run;
   ex: iterators that were made ahead of the entry and are walked here (a comprehension's); fn: the names whose cells were made at the entry (a def: all; a comprehension's block: its own); calm: not within an except suite; pn: pins that every state bears; xe: what is wanted of an exception that leaves the code -/
structure Cx where
  prog : Program
  w : World
  K : PySem.W.Frag
  mg : Str → Option Value
  base : Heap
  A : Around
  N : List Str
  s₀ : Shared
  H₀ : Hp
  env : Env
  outer : List Env
  stack : List Env
  ex : List Addr
  fn : Str → Bool
  calm : Bool
  pn : List (Addr × Obj)
  xe : Value → Shared → Prop
noncomputable def frs (l : List Env) : List Addr := l.filterMap (·.frame)
noncomputable abbrev Cx.fs (X : Cx) : List Addr := frs X.outer

noncomputable def Vis (sc : Scope) (x : Str) : Prop := sc.names.lookup x = some .local ∨ sc.names.lookup x = some .cell ∨ sc.names.lookup x = some .free
noncomputable def Loc (sc : Scope) (x : Str) : Prop := sc.names.lookup x = some .local ∨ sc.names.lookup x = some .cell
noncomputable def Look (env : Env) (h : Heap) (m : Str → Option Value) (x : Str) (u : Value) : Prop :=
  (env.kindOf x = some .local ∧ m x = some u) ∨ ((env.kindOf x = some .cell ∨ env.kindOf x = some .free) ∧ ∃ c, env.cells.lookup x = some c ∧ h.IsCell c (some u))

structure Cx.Ok (X : Cx) : Prop where
  mod : Mod X.K X.mg X.base
  kind : X.env.scope.kind = .function
  glob : X.env.globals = mainGlobals
  blt : X.env.builtins = builtinsNs
  above : X.s₀.heap.objs.size ≤ X.env.locals
  inj : ∀ x y c, X.env.cells.lookup x = some c → X.env.cells.lookup y = some c → x = y
  has : ∀ x, (X.env.kindOf x = some .cell ∨ X.env.kindOf x = some .free) → ∃ c, X.env.cells.lookup x = some c
  cab : ∀ x c, X.fn x = true → X.env.cells.lookup x = some c → X.s₀.heap.objs.size ≤ c
  hd : X.calm = true → X.A.handled = none
  frames : X.A.frames = some X.stack
  stk : X.stack = X.outer ∨ (X.stack = X.env :: X.outer ∧ X.env.frame = some X.env.locals)
  exf : ∀ b ∈ X.ex, b ≠ X.env.locals ∧ ∀ x c, X.env.cells.lookup x = some c → c ≠ b
  bs : ∀ b o, X.base.get? b = some o → X.s₀.heap.get? b = some o ∧ X.H₀ b = none
  bsz : X.base.objs.size ≤ X.s₀.heap.objs.size
  noex : ∀ b o, X.base.get? b = some o → b ∉ X.ex
  exfs : ∀ b ∈ X.ex, b ∉ X.fs
  funs : X.s₀.heap.FunFrames X.base X.outer
  frf : ∀ b ∈ X.fs, X.H₀ b = none

structure Inv (X : Cx) (pins : List (Addr × Obj)) (σ : List (Option V)) (H : Hp) (s : Shared) : Prop where
  ok : X.Ok
  os : s.os = X.s₀.os
  bare : AllBare s.gens
  base : Un X.fs X.ex X.H₀ H X.s₀.heap s.heap
  loc : ∃ m, s.heap.Ns X.env.locals m ∧ ∀ (i : Nat) (x : Str) (v : V), X.N[i]? = some x → σ[i]? = some (some v) → Vis X.env.scope x → ∃ u, RelV v u ∧ Look X.env s.heap m x u
  cell : ∀ x c, X.env.cells.lookup x = some c → ∃ v, s.heap.IsCell c v
  free : H X.env.locals = none
  freeC : ∀ x c, X.env.cells.lookup x = some c → H c = none
  pin : ∀ p ∈ X.pn ++ pins, s.heap.get? p.1 = some p.2 ∧ H p.1 = none ∧ p.1 ≠ X.env.locals ∧ p.1 ∉ X.fs ∧ ∀ v, p.2.data ≠ .cell v
  hok : HOk X.prog X.w H s.heap
  len : σ.length = X.N.length

section
variable {X : Cx} {pins : List (Addr × Obj)} {σ : List (Option V)} {H H' : Hp} {s : Shared} {h' : Heap}

theorem Cx.Ok.nofr (ok : X.Ok) {b : Addr} {o : Obj} (e : X.base.get? b = some o) : b ∉ X.fs := fun hb => by
  have := (ok.funs.mem hb).1
  rw [e] at this; cases this
theorem Inv.bs (I : Inv X pins σ H s) : ∀ b o, X.base.get? b = some o → s.heap.get? b = some o ∧ H b = none := fun b o e =>
  ⟨I.base.keep b o (I.ok.bs b o e).1 (I.ok.bs b o e).2 (I.ok.nofr e) (I.ok.noex b o e), I.base.free b o (I.ok.bs b o e).1 (I.ok.bs b o e).2 (I.ok.noex b o e)⟩
theorem Inv.bk (I : Inv X pins σ H s) : ∀ b o, X.base.get? b = some o → s.heap.get? b = some o := fun b o e => (I.bs b o e).1
theorem Inv.mod (I : Inv X pins σ H s) : Mod X.K X.mg X.base := I.ok.mod
theorem Inv.kIn (I : Inv X pins σ H s) : X.K.In s.heap := I.ok.mod.kin.keeps I.bk
theorem Inv.nolimit (I : Inv X pins σ H s) : s.heap.NoLimit := I.ok.mod.nolimit.keeps I.bk
theorem Inv.lt (I : Inv X pins σ H s) : X.env.locals < s.heap.objs.size := let ⟨_, hn, _⟩ := I.loc; hn.lt
theorem Inv.sz (I : Inv X pins σ H s) : X.s₀.heap.objs.size ≤ s.heap.objs.size := Nat.le_trans I.ok.above (Nat.le_of_lt I.lt)
theorem Inv.nofs (I : Inv X pins σ H s) {a : Addr} (h : s.heap.objs.size ≤ a) : a ∉ X.fs := fun hb => by
  obtain ⟨_, o, ho, _⟩ := I.ok.funs.mem hb
  exact absurd (Nat.lt_of_lt_of_le (Heap.lt_size ho) (Nat.le_trans I.sz h)) (Nat.lt_irrefl _)
theorem Inv.cne (I : Inv X pins σ H s) : ∀ x c, X.env.cells.lookup x = some c → c ≠ X.env.locals := fun x c e z => by
  obtain ⟨v, o, ho, hd⟩ := I.cell x c e
  obtain ⟨m, ⟨o', es, ep, ho', hd', _⟩, _⟩ := I.loc
  rw [z, ho'] at ho; cases ho; rw [hd'] at hd; cases hd
theorem Inv.funs (I : Inv X pins σ H s) : s.heap.FunFrames X.base X.outer := by
  have all : ∀ (l : List Env), (∀ b ∈ frs l, b ∈ X.fs) → X.s₀.heap.FunFrames X.base l → s.heap.FunFrames X.base l := by
    intro l
    induction l with
    | nil => intro _ _; trivial
    | cons env r ih =>
      intro hs hl
      obtain ⟨hk, ⟨L, o, hf, hn, ho, hd⟩, hr⟩ := hl
      have hL : L ∈ X.fs := hs L (by unfold frs; rw [List.filterMap_cons, hf]; exact List.mem_cons_self)
      obtain ⟨sl, e⟩ := I.base.slot L o ho (I.ok.frf L hL) hL fun z => I.ok.exfs L z hL
      exact ⟨hk, ⟨L, _, hf, hn, e, hd⟩, ih (fun b hb => hs b (by unfold frs; rw [List.filterMap_cons, hf]; exact List.mem_cons_of_mem _ hb)) hr⟩
  exact all X.outer (fun _ hb => hb) I.ok.funs

theorem Inv.stack (I : Inv X pins σ H s) : s.heap.FunFrames X.base X.stack := by
  rcases I.ok.stk with e | ⟨e, hf⟩
  · rw [e]; exact I.funs
  · rw [e]
    obtain ⟨m, hn, _⟩ := I.loc
    refine .cons (by rw [I.ok.kind]; decide) hf hn ?_ I.funs
    exact Heap.get?_none_of_le (Nat.le_trans I.ok.bsz I.ok.above)
theorem Inv.stkSub (I : Inv X pins σ H s) : ∀ b ∈ frs X.stack, b ∈ X.env.locals :: X.fs := fun b hb => by
  rcases I.ok.stk with e | ⟨e, hf⟩
  · rw [e] at hb; exact List.mem_cons_of_mem _ hb
  · rw [e] at hb
    unfold frs at hb
    rw [List.filterMap_cons, hf] at hb
    exact hb
theorem Inv.stkFree (I : Inv X pins σ H s) : ∀ b ∈ frs X.stack, H b = none := fun b hb => by
  rcases List.mem_cons.mp (I.stkSub b hb) with e | hb
  · rw [e]; exact I.free
  · obtain ⟨_, o, ho, _⟩ := I.ok.funs.mem hb
    exact I.base.free b o ho (I.ok.frf b hb) fun z => I.ok.exfs b z hb

theorem Inv.step {g' : Array GenState} {t' : Nat} {d' : Drawn} {ch : List Addr} (I : Inv X pins σ H s)
    (hch : ∀ b ∈ ch, (b ∈ X.ex ∨ X.s₀.heap.objs.size ≤ b) ∧ b ≠ X.env.locals ∧ (∀ x c, X.env.cells.lookup x = some c → c ≠ b) ∧ ∀ p ∈ X.pn ++ pins, p.1 ≠ b)
    (keep : ∀ b o, b ≠ X.env.locals → b ∉ X.fs → b ∉ ch → s.heap.get? b = some o → H b = none → h'.get? b = some o)
    (slot : ∀ b o, b ≠ X.env.locals → b ∈ X.fs → b ∉ ch → s.heap.get? b = some o → H b = none → ∃ sl, h'.get? b = some { o with slots := sl }) (free : ∀ b o, b ∉ ch → s.heap.get? b = some o → H b = none → H' b = none)
    (there : ∀ b o, b ∉ ch → s.heap.get? b = some o → ∃ o', h'.get? b = some o')
    (tups : ∀ b xs, H b = some (.tup xs) → H' b = some (.tup xs)) (frzs : ∀ b o u, H b = some (.frz o u) → H' b = some (.frz o u)) (tbls : ∀ b ps, H b = some (.tbl ps) → ∃ more, H' b = some (.tbl (ps ++ more)))
    (ns : ∀ m, s.heap.Ns X.env.locals m → h'.Ns X.env.locals m) (hok : HOk X.prog X.w H' h') (hg : AllBare g') :
    Inv X pins σ H' { s with heap := h', gens := g', drawn := d', toks := t' } := by
  have neL : ∀ b o, X.s₀.heap.get? b = some o → b ≠ X.env.locals := fun b o e => Nat.ne_of_lt (Nat.lt_of_lt_of_le (Heap.lt_size e) I.ok.above)
  have neC : ∀ b o, X.s₀.heap.get? b = some o → b ∉ X.ex → b ∉ ch := fun b o e hx hb => by
    rcases (hch b hb).1 with z | z
    · exact hx z
    · exact absurd (Nat.lt_of_lt_of_le (Heap.lt_size e) z) (Nat.lt_irrefl _)
  have cellK : ∀ x c, X.env.cells.lookup x = some c → ∀ v, s.heap.IsCell c v → h'.IsCell c v := fun x c e v ⟨o, ho, hd⟩ => by
    have nch : c ∉ ch := fun z => (hch c z).2.2.1 x c e rfl
    by_cases hc : c ∈ X.fs
    · obtain ⟨sl, q⟩ := slot c o (I.cne x c e) hc nch ho (I.freeC x c e)
      exact ⟨_, q, hd⟩
    · exact ⟨o, keep c o (I.cne x c e) hc nch ho (I.freeC x c e), hd⟩
  refine ⟨I.ok, I.os, hg, ⟨fun b o e n hb hx => ?_, fun b o e n hb hx => ?_, fun b o e n hx => ?_, fun b o e hx => ?_, fun b xs e => tups b xs (I.base.tups b xs e), fun b o xs e => frzs b o xs (I.base.frzs b o xs e), fun b ps e => ?_⟩, ?_, fun x c e => ?_, ?_, fun x c e => ?_, fun p hp => ?_, hok, I.len⟩
  · exact keep b o (neL b o e) hb (neC b o e hx) (I.base.keep b o e n hb hx) (I.base.free b o e n hx)
  · obtain ⟨sl, e1⟩ := I.base.slot b o e n hb hx
    obtain ⟨sl', e2⟩ := slot b _ (neL b o e) hb (neC b o e hx) e1 (I.base.free b o e n hx)
    exact ⟨sl', e2⟩
  · obtain ⟨o', e1⟩ := I.base.there b o e hx
    exact free b o' (neC b o e hx) e1 (I.base.free b o e n hx)
  · obtain ⟨o', e1⟩ := I.base.there b o e hx
    exact there b o' (neC b o e hx) e1
  · obtain ⟨m1, e1⟩ := I.base.tbls b ps e
    obtain ⟨m2, e2⟩ := tbls b _ e1
    exact ⟨m1 ++ m2, by rw [e2, Array.append_assoc]⟩
  · obtain ⟨m, hn, hl⟩ := I.loc
    refine ⟨m, ns m hn, fun i x v e1 e2 e3 => ?_⟩
    obtain ⟨u, r, l⟩ := hl i x v e1 e2 e3
    refine ⟨u, r, ?_⟩
    rcases l with l | ⟨k, c, e, z⟩
    · exact .inl l
    · exact .inr ⟨k, c, e, cellK x c e _ z⟩
  · obtain ⟨v, z⟩ := I.cell x c e
    exact ⟨v, cellK x c e v z⟩
  · obtain ⟨m, ⟨o, _, _, ho, _⟩, _⟩ := I.loc
    exact free _ o (fun z => (hch _ z).2.1 rfl) ho I.free
  · obtain ⟨v, o, ho, hd⟩ := I.cell x c e
    exact free c o (fun z => (hch c z).2.2.1 x c e rfl) ho (I.freeC x c e)
  · obtain ⟨e, n, ne, nf, d⟩ := I.pin p hp
    have nch : p.1 ∉ ch := fun z => (hch p.1 z).2.2.2 p hp rfl
    exact ⟨keep p.1 p.2 ne nf nch e n, free p.1 p.2 nch e n, ne, nf, d⟩
theorem Inv.un {t' : Nat} (I : Inv X pins σ H s) (u : Un X.fs [] H H' s.heap h') (hok : HOk X.prog X.w H' h') : Inv X pins σ H' { s with heap := h', toks := t' } := by
  obtain ⟨m, ⟨o, es, ep, ho, r⟩, _⟩ := id I.loc
  obtain ⟨sl, hL⟩ := u.any ho I.free (by simp)
  exact I.step (g' := s.gens) (d' := s.drawn) (ch := []) (fun _ z => nomatch z) (fun b o _ hb _ e n => u.keep b o e n hb (by simp)) (fun b o _ hb _ e n => u.slot b o e n hb (by simp)) (fun b o _ e n => u.free b o e n (by simp)) (fun b o _ e => u.there b o e (by simp)) u.tups u.frzs u.tbls (fun m' hm => by
    obtain ⟨o', es', ep', ho', r'⟩ := hm
    rw [ho] at ho'; cases ho'
    exact ⟨_, es', ep', hL, r'⟩) hok I.bare
theorem Inv.call {g' : Array GenState} {t' : Nat} {d' : Drawn} {ch : List Addr} (I : Inv X pins σ H s) (u : Un (frs X.stack) ch H H' s.heap h') (hok : HOk X.prog X.w H' h') (hg : AllBare g')
    (hch : ∀ b ∈ ch, (b ∈ X.ex ∨ X.s₀.heap.objs.size ≤ b) ∧ b ≠ X.env.locals ∧ (∀ x c, X.env.cells.lookup x = some c → c ≠ b) ∧ ∀ p ∈ X.pn ++ pins, p.1 ≠ b) :
    Inv X pins σ H' { s with heap := h', gens := g', drawn := d', toks := t' } := by
  obtain ⟨m, ⟨o, es, ep, ho, r⟩, _⟩ := id I.loc
  obtain ⟨sl, hL⟩ := u.any ho I.free fun z => (hch _ z).2.1 rfl
  exact I.step (ch := ch) hch (fun b o hL hb hc e n => u.keep b o e n (fun z => (List.mem_cons.mp (I.stkSub b z)).elim hL hb) hc) (fun b o _ _ hc e n => u.any e n hc) (fun b o hc e n => u.free b o e n hc) (fun b o hc e => u.there b o e hc) u.tups u.frzs u.tbls (fun m' hm => by
    obtain ⟨o', es', ep', ho', r'⟩ := hm
    rw [ho] at ho'; cases ho'
    exact ⟨_, es', ep', hL, r'⟩) hok hg
theorem Inv.turned {t' : Nat} {it : Addr} (I : Inv X pins σ H s) (k : ∀ b o, b ≠ it → s.heap.get? b = some o → h'.get? b = some o) (hn : H it = none) (hL : it ≠ X.env.locals)
    (h1 : it ∈ X.ex ∨ X.s₀.heap.objs.size ≤ it) (h2 : ∀ x c, X.env.cells.lookup x = some c → c ≠ it) (h3 : ∀ p ∈ X.pn ++ pins, p.1 ≠ it) : Inv X pins σ H { s with heap := h', toks := t' } := by
  have nit : ∀ b u, H b = some u → b ≠ it := fun b u e z => by rw [z, hn] at e; cases e
  refine I.step (g' := s.gens) (d' := s.drawn) (ch := [it]) (fun b hb => ?_) (fun b o _ _ hc e _ => k b o (fun z => hc (by simp [z])) e) (fun b o _ _ hc e _ => ⟨o.slots, k b o (fun z => hc (by simp [z])) e⟩) (fun _ _ _ _ n => n)
    (fun b o hc e => ⟨o, k b o (fun z => hc (by simp [z])) e⟩) (fun _ _ e => e) (fun _ _ _ e => e) (fun b ps e => ⟨#[], by rw [e]; simp⟩) (fun m hm => ?_) (fun b u e => ?_) I.bare
  · have e : b = it := by simpa using hb
    subst e
    exact ⟨h1, hL, h2, h3⟩
  · obtain ⟨o, es, ep, ho, r⟩ := hm
    exact ⟨o, es, ep, k _ o (Ne.symm hL) ho, r⟩
  · refine (I.hok b u e).stay (fun c v hc q => k c v ?_ q) (fun _ q => q) fun _ _ q => q
    rcases hc with z | z
    · rw [z]; exact nit b u e
    · exact nit c _ z
theorem Inv.tok (I : Inv X pins σ H s) (t : Nat) : Inv X pins σ H { s with toks := t } := I.un (h' := s.heap) (t' := t) Un.refl I.hok
theorem Inv.kept {t' : Nat} (I : Inv X pins σ H s) (k : ∀ b u, s.heap.get? b = some u → h'.get? b = some u) : Inv X pins σ H { s with heap := h', toks := t' } := I.un (Un.kept k) (I.hok.kept k)
theorem Inv.laid {a : Addr} {o : HO} {t' : Nat} (I : Inv X pins σ H s) (k : ∀ b u, s.heap.get? b = some u → h'.get? b = some u) (hp : s.heap.objs.size ≤ a) (new : ObjOk X.prog X.w (upd H a o) h' a o) :
    Inv X pins σ (upd H a o) { s with heap := h', toks := t' } := I.un (Un.laid k hp (I.hok.fresh hp)) (I.hok.laid k hp new)
theorem Inv.write {x e : Addr} {o : HO} {t' : Nat} (I : Inv X pins σ H s) (mu : Mut (H x)) (he : e = x ∨ H e = some (.own x)) (k : ∀ b u, b ≠ e → s.heap.get? b = some u → h'.get? b = some u) (heo : ∃ u, h'.get? e = some u)
    (new : ObjOk X.prog X.w (upd H x o) h' x o) : Inv X pins σ (upd H x o) { s with heap := h', toks := t' } := I.un (Un.write mu he k heo) (I.hok.write mu he k heo new)
theorem Inv.pins_of {pins' : List (Addr × Obj)} (I : Inv X pins σ H s) (h : ∀ p ∈ pins', s.heap.get? p.1 = some p.2 ∧ H p.1 = none ∧ p.1 ≠ X.env.locals ∧ p.1 ∉ X.fs ∧ ∀ v, p.2.data ≠ .cell v) : Inv X pins' σ H s :=
  ⟨I.ok, I.os, I.bare, I.base, I.loc, I.cell, I.free, I.freeC, fun p hp => (List.mem_append.mp hp).elim (fun z => I.pin p (List.mem_append_left _ z)) (h p), I.hok, I.len⟩

theorem nodup_ix {N : List Str} (hN : N.Nodup) {i j : Nat} {x : Str} (a : N[i]? = some x) (b : N[j]? = some x) : i = j := by
  obtain ⟨h1, e1⟩ := List.getElem?_eq_some_iff.mp a
  obtain ⟨h2, e2⟩ := List.getElem?_eq_some_iff.mp b
  exact (List.getElem_inj hN).mp (e1.trans e2.symm)

theorem store_ok2 {M : Model} {A : Around} {E : Value → Shared → Prop} {i : Nat} {x : Str} {v : V} {u : Value} {Q : Unit → Shared → Prop} (I : Inv X pins σ H s) (hN : X.N.Nodup) (hi : X.N[i]? = some x) (hx : Loc X.env.scope x) (r : RelV v u)
    (h : ∀ s', Inv X pins (σ.set i (some v)) H s' → (∃ a, Heap.SameBut a s.heap s'.heap ∧ (a = X.env.locals ∨ X.env.cells.lookup x = some a)) → Q () s') (hf : X.fn x = true ∨ X.env.scope.names.lookup x = some .local := by first | exact .inl rfl | exact .inr rfl | assumption) : wpAny M A (storeName X.env x u) Q E s := by
  obtain ⟨m, hn, hl⟩ := id I.loc
  have hcls : (X.env.scope.kind == .class || (X.env.scope.kind == .module && X.env.locals != X.env.globals)) = false := by rw [I.ok.kind]; rfl
  have hiσ : i < σ.length := by rw [I.len]; exact (List.getElem?_eq_some_iff.mp hi).1
  have cne := I.cne
  have tracked : ∀ {a : Addr} {h' : Heap}, (∃ o, s.heap.get? a = some o ∧ H a = none) → Heap.SameBut a s.heap h' → HOk X.prog X.w H h' := fun {a h'} ha hs b ob e => by
    obtain ⟨_, _, hfree⟩ := ha
    refine (I.hok b ob e).stay (fun c w' hc q => (hs.2 c ?_).trans q) (fun _ q => q) fun _ _ q => q
    rintro rfl
    rcases hc with rfl | hc
    · rw [hfree] at e; cases e
    · rw [hfree] at hc; cases hc
  rcases hx with hk | hk
  · refine wpAny_storeName_local hk hn (fun h' hn' hs => ?_) hcls
    obtain ⟨oL, _, _, hoL, _⟩ := id hn
    refine h _ ⟨I.ok, I.os, I.bare, ⟨fun b o e n hb hx => ?_, fun b o e n hb hx => ?_, I.base.free, fun b o e hx => ?_, I.base.tups, I.base.frzs, I.base.tbls⟩, ⟨_, hn', fun j y v' e1 e2 e3 => ?_⟩, fun y c e => ?_, I.free, I.freeC, fun p hp => ?_, tracked ⟨oL, hoL, I.free⟩ hs, by simpa using I.len⟩ ⟨_, hs, .inl rfl⟩
    · exact (hs.2 b (Nat.ne_of_lt (Nat.lt_of_lt_of_le (Heap.lt_size e) I.ok.above))).trans (I.base.keep b o e n hb hx)
    · obtain ⟨sl, e1⟩ := I.base.slot b o e n hb hx
      exact ⟨sl, (hs.2 b (Nat.ne_of_lt (Nat.lt_of_lt_of_le (Heap.lt_size e) I.ok.above))).trans e1⟩
    · obtain ⟨o', e1⟩ := I.base.there b o e hx
      exact ⟨o', (hs.2 b (Nat.ne_of_lt (Nat.lt_of_lt_of_le (Heap.lt_size e) I.ok.above))).trans e1⟩
    · by_cases hj : j = i
      · subst hj
        rw [hi] at e1; cases e1
        rw [List.getElem?_set_self hiσ] at e2
        cases e2
        exact ⟨u, r, .inl ⟨hk, by simp⟩⟩
      · rw [List.getElem?_set_ne (Ne.symm hj)] at e2
        obtain ⟨u', r', q⟩ := hl j y v' e1 e2 e3
        refine ⟨u', r', ?_⟩
        rcases q with ⟨k, e⟩ | ⟨k, c, e, z⟩
        · refine .inl ⟨k, ?_⟩
          have : y ≠ x := fun e => hj (nodup_ix hN e1 (e ▸ hi))
          simp [this, e]
        · exact .inr ⟨k, c, e, z.sameBut hs (cne y c e)⟩
    · obtain ⟨w', z⟩ := I.cell y c e
      exact ⟨w', z.sameBut hs (cne y c e)⟩
    · obtain ⟨e, n, ne, nf, d⟩ := I.pin p hp
      exact ⟨(hs.2 p.1 ne).trans e, n, ne, nf, d⟩
  · have hfn : X.fn x = true := by
      rcases hf with z | z
      · exact z
      · rw [z] at hk; cases hk
    obtain ⟨c, hc⟩ := I.ok.has x (.inl hk)
    obtain ⟨w', z⟩ := I.cell x c hc
    refine wpAny_storeName_cell I.ok.kind hk hc z (fun h' hc' hs => ?_)
    obtain ⟨oc, hoc, hocd⟩ := id z
    refine h { s with heap := h' } ⟨I.ok, I.os, I.bare, ⟨fun b o e n hb hx => ?_, fun b o e n hb hx => ?_, I.base.free, fun b o e hx => ?_, I.base.tups, I.base.frzs, I.base.tbls⟩, ⟨m, hn.sameBut hs (Ne.symm (cne x c hc)), fun j y v' e1 e2 e3 => ?_⟩, fun y c' e => ?_, I.free, I.freeC, fun p hp => ?_, tracked ⟨oc, hoc, I.freeC x c hc⟩ hs, by simpa using I.len⟩ ⟨c, hs, .inr hc⟩
    · exact (hs.2 b (Nat.ne_of_lt (Nat.lt_of_lt_of_le (Heap.lt_size e) (I.ok.cab x c hfn hc)))).trans (I.base.keep b o e n hb hx)
    · obtain ⟨sl, e1⟩ := I.base.slot b o e n hb hx
      exact ⟨sl, (hs.2 b (Nat.ne_of_lt (Nat.lt_of_lt_of_le (Heap.lt_size e) (I.ok.cab x c hfn hc)))).trans e1⟩
    · obtain ⟨o', e1⟩ := I.base.there b o e hx
      exact ⟨o', (hs.2 b (Nat.ne_of_lt (Nat.lt_of_lt_of_le (Heap.lt_size e) (I.ok.cab x c hfn hc)))).trans e1⟩
    · by_cases hj : j = i
      · subst hj
        rw [hi] at e1; cases e1
        rw [List.getElem?_set_self hiσ] at e2
        cases e2
        exact ⟨u, r, .inr ⟨.inl hk, c, hc, hc'⟩⟩
      · rw [List.getElem?_set_ne (Ne.symm hj)] at e2
        obtain ⟨u', r', q⟩ := hl j y v' e1 e2 e3
        refine ⟨u', r', ?_⟩
        rcases q with q | ⟨k, c', e, z'⟩
        · exact .inl q
        · refine .inr ⟨k, c', e, z'.sameBut hs ?_⟩
          rintro rfl
          exact hj (nodup_ix hN e1 (I.ok.inj _ _ _ e hc ▸ hi))
    · by_cases hcc : c' = c
      · subst hcc; exact ⟨_, hc'⟩
      · obtain ⟨w2, z2⟩ := I.cell y c' e
        exact ⟨w2, z2.sameBut hs hcc⟩
    · obtain ⟨e, n, ne, nf, d⟩ := I.pin p hp
      refine ⟨(hs.2 p.1 ?_).trans e, n, ne, nf, d⟩
      intro q
      rw [q, hoc] at e
      have q' : oc = p.2 := Option.some.inj e
      exact d w' (by rw [← q']; exact hocd)
theorem store_ok {M : Model} {A : Around} {E : Value → Shared → Prop} {i : Nat} {x : Str} {v : V} {u : Value} {Q : Unit → Shared → Prop} (I : Inv X pins σ H s) (hN : X.N.Nodup) (hi : X.N[i]? = some x) (hx : Loc X.env.scope x) (r : RelV v u)
    (h : ∀ s', Inv X pins (σ.set i (some v)) H s' → Q () s') (hf : X.fn x = true ∨ X.env.scope.names.lookup x = some .local := by first | exact .inl rfl | exact .inr rfl | assumption) : wpAny M A (storeName X.env x u) Q E s :=
  store_ok2 I hN hi hx r (fun s' I' _ => h s' I') hf
theorem Inv.call' {s' : Shared} {ch : List Addr} (I : Inv X pins σ H s) (ho : s'.os = s.os) (u : Un (frs X.stack) ch H H' s.heap s'.heap) (hok : HOk X.prog X.w H' s'.heap) (hg : AllBare s'.gens)
    (hch : ∀ b ∈ ch, (b ∈ X.ex ∨ X.s₀.heap.objs.size ≤ b) ∧ b ≠ X.env.locals ∧ (∀ x c, X.env.cells.lookup x = some c → c ≠ b) ∧ ∀ p ∈ X.pn ++ pins, p.1 ≠ b) : Inv X pins σ H' s' := by
  obtain ⟨h', g', d', t', o'⟩ := s'
  have e : o' = s.os := ho
  subst e
  exact I.call (g' := g') (t' := t') (d' := d') u hok hg hch
end

noncomputable abbrev XK := Value → Option Addr → Hp → Prop
noncomputable abbrev St := List (Option V)
noncomputable abbrev VK := V → Hp → Prop
noncomputable abbrev TE := St → Hp → VK → Prop
noncomputable abbrev TT := St → Hp → (Bool → Hp → Prop) → Prop
noncomputable abbrev TA := St → Hp → (List V → Hp → Prop) → Prop
structure Ends where
  nx : St → Hp → Prop
  rt : VK
  bk : St → Hp → Prop := fun _ _ => False
  ct : St → Hp → Prop := fun _ _ => False
noncomputable abbrev TS := Ends → St → Hp → Prop

noncomputable def EP (X : Cx) (pins : List (Addr × Obj)) (σ : St) (Q : VK) (u : Value) (s' : Shared) : Prop := ∃ v H', Inv X pins σ H' s' ∧ RelV v u ∧ Q v H'
noncomputable def TP (X : Cx) (pins : List (Addr × Obj)) (σ : St) (Q : Bool → Hp → Prop) (b : Bool) (s' : Shared) : Prop := ∃ H', Inv X pins σ H' s' ∧ Q b H'
noncomputable def AP (X : Cx) (pins : List (Addr × Obj)) (σ : St) (Q : List V → Hp → Prop) (us : List Value) (s' : Shared) : Prop := ∃ vs H', Inv X pins σ H' s' ∧ Vals vs us ∧ Q vs H'
noncomputable def SP (X : Cx) (pins : List (Addr × Obj)) (D : Ends) (f : Flow) (s' : Shared) : Prop :=
  match f with
  | .next => ∃ σ' H', Inv X pins σ' H' s' ∧ D.nx σ' H'
  | .brk => ∃ σ' H', Inv X pins σ' H' s' ∧ D.bk σ' H'
  | .cont => ∃ σ' H', Inv X pins σ' H' s' ∧ D.ct σ' H'
  | .ret u => ∃ v σ' H', Inv X pins σ' H' s' ∧ RelV v u ∧ D.rt v H'

noncomputable def PE (X : Cx) (e : Expr) (t : TE) : Prop :=
  ∀ (pins : List (Addr × Obj)) (s : Shared) (σ : St) (H : Hp) (Q : VK), Inv X pins σ H s → t σ H Q → wpAny (model X.prog X.w) X.A (eval e X.env) (EP X pins σ Q) X.xe s
noncomputable def PT (X : Cx) (e : Expr) (t : TT) : Prop :=
  ∀ (pins : List (Addr × Obj)) (s : Shared) (σ : St) (H : Hp) (Q : Bool → Hp → Prop), Inv X pins σ H s → t σ H Q → wpAny (model X.prog X.w) X.A (isTrue e X.env (eval e X.env)) (TP X pins σ Q) X.xe s
noncomputable def PW (X : Cx) (e : Expr) (t : TT) : Prop :=
  ∀ (whole : Sem Value) (pins : List (Addr × Obj)) (s : Shared) (σ : St) (H : Hp) (Q : Bool → Hp → Prop), Inv X pins σ H s → t σ H Q → wpAny (model X.prog X.w) X.A (isTrue e X.env whole) (TP X pins σ Q) X.xe s
theorem PW.pt {X : Cx} {e : Expr} {t : TT} (h : PW X e t) : PT X e t := h _
noncomputable def PA (X : Cx) (es : List Expr) (t : TA) : Prop :=
  ∀ (pos : Pos) (pins : List (Addr × Obj)) (s : Shared) (σ : St) (H : Hp) (Q : List V → Hp → Prop), Inv X pins σ H s → t σ H Q → wpAny (model X.prog X.w) X.A (spliced (backTo pos (starEach es X.env))) (AP X pins σ Q) X.xe s
noncomputable def PS (X : Cx) (st : Stmt) (t : TS) : Prop :=
  ∀ (pins : List (Addr × Obj)) (s : Shared) (σ : St) (H : Hp) (D : Ends), Inv X pins σ H s → t D σ H → wpAny (model X.prog X.w) X.A (exec st X.env) (SP X pins D) X.xe s
noncomputable def PSs (X : Cx) (st : List Stmt) (t : TS) : Prop :=
  ∀ (pins : List (Addr × Obj)) (s : Shared) (σ : St) (H : Hp) (D : Ends), Inv X pins σ H s → t D σ H → wpAny (model X.prog X.w) X.A (execs st X.env) (SP X pins D) X.xe s
theorem thn {α : Type} {t : Sem α} {Q Q' : α → Shared → Prop} {M : Model} {A : Around} {E : Value → Shared → Prop} {s : Shared} (h : wpAny M A t Q E s) (hQ : ∀ a s, Q a s → Q' a s) : wpAny M A t Q' E s := wpAny_mono h hQ fun _ _ x => x
end L2

namespace L2
open PySem PySem.Spec PyProof.Rows
section
variable {X : Cx}

noncomputable def tVar (i : Nat) : TE := fun σ H Q => ∃ v, σ[i]? = some (some v) ∧ Q v H
noncomputable def tC (v : V) : TE := fun _ H Q => Q v H
theorem pe_var {i : Nat} {x : Str} {pos : Pos} (hN : X.N[i]? = some x) (hv : Vis X.env.scope x) (hd : (x == ("__debug__" : Str)) = false := by decide) (hcd : (x == ("__classdict__" : Str)) = false := by decide) : PE X (.Name x pos) (tVar i) := by
  intro pins s σ H Q I h
  obtain ⟨v, e, h⟩ := h
  obtain ⟨m, hn, hl⟩ := I.loc
  obtain ⟨u, r, l⟩ := hl i x v hN e hv
  have fin : EP X pins σ Q u s := ⟨v, H, I, r, h⟩
  rcases l with ⟨hk, hm⟩ | ⟨hk, c, hc, hcell⟩
  · exact wpAny_Name (wpAny_loadName_local I.ok.kind hk hn hm fin) hd
  · rcases hk with hk | hk
    · exact wpAny_Name (wpAny_loadName_cell I.ok.kind hk hc hcell fin) hd
    · exact wpAny_Name (wpAny_loadName_free I.ok.kind hk hc hcell fin hcd) hd
theorem pe_int {i j pos} : PE X (.Constant (.int i) j pos) (tC (.int i)) := fun _ _ _ H _ I h => wpAny_Constant_int ⟨.int i, H, I.tok _, ⟨_, rfl⟩, h⟩
theorem pe_bl {b j pos} : PE X (.Constant (.bool b) j pos) (tC (.bl b)) := fun _ _ _ H _ I h => Constant_bool ⟨.bl b, H, I, rfl, h⟩
theorem pe_non {j pos} : PE X (.Constant .none j pos) (tC .non) := fun _ _ _ H _ I h => Constant_none ⟨.non, H, I, rfl, h⟩
theorem pe_str {x j pos} : PE X (.Constant (.str x) j pos) (tC (.str x)) := fun _ _ _ H _ I h => Calls.Constant_str ⟨.str x, H, I.tok _, ⟨_, rfl⟩, h⟩

noncomputable def Gl (X : Cx) (x : Str) : Prop := X.env.kindOf x = some .globalImplicit
theorem ld_glob {E : Value → Shared → Prop} {pins : List (Addr × Obj)} {s : Shared} {σ : St} {H : Hp} {x : Str} {u : Value} {pos : Pos} {Q : Value → Shared → Prop} (I : Inv X pins σ H s) (hg : Gl X x) (hm : X.mg x = some u) (h : Q u s)
    (hd : (x == ("__debug__" : Str)) = false := by decide) : wpAny (model X.prog X.w) X.A (eval (.Name x pos) X.env) Q E s :=
  Calls.Name_function_global I.ok.kind hg (Calls.loadGlobal_global (by rw [I.ok.glob]; exact I.mod.glob.keeps I.bk) hm h) hd
theorem ld_blt {E : Value → Shared → Prop} {pins : List (Addr × Obj)} {s : Shared} {σ : St} {H : Hp} {x : Str} {u : Value} {pos : Pos} {Q : Value → Shared → Prop} (I : Inv X pins σ H s) (hg : Gl X x) (hm : X.mg x = none) (hv : bootBuiltins x = some u) (h : Q u s)
    (hn : x ≠ "__name__" := by decide) (hd : (x == ("__debug__" : Str)) = false := by decide) : wpAny (model X.prog X.w) X.A (eval (.Name x pos) X.env) Q E s := by
  obtain ⟨mb, h1, h2⟩ := I.mod.blt
  exact Calls.Name_function_global I.ok.kind hg (Calls.loadGlobal_builtin (by rw [I.ok.glob]; exact I.mod.glob.keeps I.bk) hm (by rw [I.ok.blt]; exact h1.keeps I.bk) ((h2 x hn).trans hv) h) hd
theorem pe_bltn {x : Str} {v : V} {u : Value} {pos : Pos} (hg : Gl X x) (hm : X.mg x = none) (hv : bootBuiltins x = some u) (r : RelV v u) (hn : x ≠ "__name__" := by decide) (hd : (x == ("__debug__" : Str)) = false := by decide) : PE X (.Name x pos) (tC v) :=
  fun _ _ _ H _ I h => ld_blt I hg hm hv ⟨v, H, I, r, h⟩ hn hd

variable {a b : Expr} {ta tb : TE} {pos : Pos}
noncomputable def tB (t : TE) : TT := fun σ H Q => t σ H fun x H1 => ∃ c, x = .bl c ∧ Q c H1
theorem pt_val {e : Expr} {t : TE} (h : PE X e t) (he : ∀ whole, isTrue e X.env whole = (do let v ← whole; standAt e.pos; holding [v] (truthy v)) := by intro _; rfl) : PT X e (tB t) := by
  intro pins s σ H Q I hw
  refine isTrue_plain (thn (h pins s σ H _ I hw) fun v s1 ⟨x, H1, I1, r1, q1⟩ => ?_) (he _)
  obtain ⟨d, rfl, q⟩ := q1
  cases r1
  exact wpAny_truthy_bool ⟨H1, I1, q⟩

variable {tA tB' : TT} {rest : List Expr}
noncomputable def tAnd (t u : TT) : TT := fun σ H Q => t σ H fun c H1 => if c = true then u σ H1 Q else Q false H1
noncomputable def tOr (t u : TT) : TT := fun σ H Q => t σ H fun c H1 => if c = true then Q true H1 else u σ H1 Q
noncomputable def tNot (t : TT) : TT := fun σ H Q => t σ H fun c H1 => Q (!c) H1
theorem pw_and1 (ha : PT X a tA) : PW X (.BoolOp .And [a] pos) tA := by
  intro wh pins s σ H Q I h
  refine isTrue_and (thn (ha pins s σ H Q I h) fun c s1 e => ?_)
  cases c with
  | true => exact isTrue_and_nil e
  | false => exact e
theorem pw_or1 (ha : PT X a tA) : PW X (.BoolOp .Or [a] pos) tA := by
  intro wh pins s σ H Q I h
  refine isTrue_or (thn (ha pins s σ H Q I h) fun c s1 e => ?_)
  cases c with
  | false => exact isTrue_or_nil e
  | true => exact e
theorem pw_and (ha : PT X a tA) (hb : PW X (.BoolOp .And (b :: rest) pos) tB') : PW X (.BoolOp .And (a :: b :: rest) pos) (tAnd tA tB') := by
  intro wh pins s σ H Q I h
  refine isTrue_and (thn (ha pins s σ H _ I h) fun c s1 ⟨H1, I1, q1⟩ => ?_)
  cases c with
  | true => exact hb wh pins s1 σ H1 Q I1 q1
  | false => exact ⟨H1, I1, q1⟩
theorem pw_or (ha : PT X a tA) (hb : PW X (.BoolOp .Or (b :: rest) pos) tB') : PW X (.BoolOp .Or (a :: b :: rest) pos) (tOr tA tB') := by
  intro wh pins s σ H Q I h
  refine isTrue_or (thn (ha pins s σ H _ I h) fun c s1 ⟨H1, I1, q1⟩ => ?_)
  cases c with
  | true => exact ⟨H1, I1, q1⟩
  | false => exact hb wh pins s1 σ H1 Q I1 q1
theorem pt_not (ha : PT X a tA) : PT X (.UnaryOp .Not a pos) (tNot tA) := by
  intro pins s σ H Q I h
  exact isTrue_not (ha pins s σ H (fun c H1 => Q (!c) H1) I h)
noncomputable def tAndV (ta tb : TE) : TE := fun σ H Q => ta σ H fun x H1 => ∃ c, x = .bl c ∧ if c = true then tb σ H1 Q else Q (.bl false) H1
noncomputable def tOrV (ta tb : TE) : TE := fun σ H Q => ta σ H fun x H1 => ∃ c, x = .bl c ∧ if c = true then Q (.bl true) H1 else tb σ H1 Q
noncomputable def tNotV (ta : TE) : TE := fun σ H Q => ta σ H fun x H1 => ∃ c, x = .bl c ∧ Q (.bl (!c)) H1
theorem pe_one {op} {t : TE} (h : PE X a t) : PE X (.BoolOp op [a] pos) t := fun pins s σ H Q I hw => BoolOp_one (h pins s σ H Q I hw)
theorem pe_and (ha : PE X a ta) (hb : PE X (.BoolOp .And (b :: rest) pos) tb) : PE X (.BoolOp .And (a :: b :: rest) pos) (tAndV ta tb) := by
  intro pins s σ H Q I h
  refine BoolOp_and (thn (ha pins s σ H _ I h) fun v s1 ⟨x, H1, I1, r1, q1⟩ => ?_)
  obtain ⟨c, rfl, q1⟩ := q1
  cases r1
  refine wpAny_truthy_bool ?_
  cases c with
  | true => exact hb pins s1 σ H1 Q I1 q1
  | false => exact ⟨.bl false, H1, I1, rfl, q1⟩
theorem pe_not (ha : PE X a ta) : PE X (.UnaryOp .Not a pos) (tNotV ta) := by
  intro pins s σ H Q I h
  refine UnaryOp_ (thn (ha pins s σ H _ I h) fun v s1 ⟨x, H1, I1, r1, q1⟩ => ?_)
  obtain ⟨c, rfl, q1⟩ := q1
  cases r1
  exact not_of (wpAny_truthy_bool ⟨.bl (!c), H1, I1, rfl, q1⟩)
noncomputable def tIf (t : TT) (ta tb : TE) : TE := fun σ H Q => t σ H fun c H1 => if c = true then ta σ H1 Q else tb σ H1 Q
end
end L2

namespace L2
open PySem PySem.Spec PyProof.Rows

noncomputable def SqL (K : PySem.W.Frag) (H : Hp) (a : Addr) (xs : List V) : Prop :=
  Rd H a (.lst xs) ∨
    ∃ (o : Obj) (its : Array Value) (n : Nat), K.lookup a = some o ∧ o.cls = .type "list" ∧ o.dict = none ∧ o.data = .seq its n ∧ its.size ≤ sizeLine ∧ Vals xs its.toList
noncomputable def SqT (K : PySem.W.Frag) (H : Hp) (a : Addr) (xs : List V) : Prop :=
  Rd H a (.tup xs) ∨
    ∃ (o : Obj) (its : Array Value) (n : Nat), K.lookup a = some o ∧ o.cls = .type "tuple" ∧ o.data = .seq its n ∧ its.size ≤ sizeLine ∧ Vals xs its.toList
noncomputable def absV : Value → Option V
  | .none => some .non
  | .bool b => some (.bl b)
  | .int i _ => some (.int i)
  | .str x _ => some (.str x)
  | .bytes b _ => some (.byt b)
  | .float b _ => some (.flt b)
  | .ref a => some (.ref a)
  | .type n => some (.ty n)
  | _ => none
theorem RelV.abs {x : V} {u : Value} (r : RelV x u) : absV u = some x := by
  cases x with
  | non => cases r; rfl
  | bl _ => cases r; rfl
  | int _ => obtain ⟨t, rfl⟩ := r; rfl
  | str _ => obtain ⟨t, rfl⟩ := r; rfl
  | byt _ => obtain ⟨t, rfl⟩ := r; rfl
  | flt _ => obtain ⟨t, rfl⟩ := r; rfl
  | ref _ => cases r; rfl
  | ty _ => cases r; rfl
theorem RelV.inj {x y : V} {u : Value} (r : RelV x u) (q : RelV y u) : x = y := Option.some.inj (r.abs.symm.trans q.abs)
theorem Vals.inj : ∀ {xs ys : List V} {us : List Value}, Vals xs us → Vals ys us → xs = ys
  | _, _, _, .nil, .nil => rfl
  | _, _, _, .cons r t, .cons r' t' => by rw [r.inj r', Vals.inj t t']
section
variable {X : Cx} {pins : List (Addr × Obj)} {σ : St} {H : Hp} {s : Shared} {a : Addr} {xs ys : List V}
theorem SqL.of {K : PySem.W.Frag} (h : H a = some (.lst xs)) : SqL K H a xs := .inl (.inl h)
theorem SqT.of {K : PySem.W.Frag} (h : H a = some (.tup xs)) : SqT K H a xs := .inl (.inl h)
theorem Inv.list (I : Inv X pins σ H s) (h : SqL X.K H a xs) : ∃ its : List Value, Vals xs its ∧ PlainL s.heap a its.toArray ∧ xs.length ≤ sizeLine := by
  rcases h with h | ⟨o, its, n, hk, hc, hd, hs, hz, r⟩
  · obtain ⟨z, its, n, r, e⟩ := h.ok I.hok
    exact ⟨its, r, ⟨_, n, e, rfl, rfl, rfl⟩, z⟩
  · refine ⟨its.toList, r, ⟨o, n, I.kIn a o hk, hc, hd, by simpa using hs⟩, ?_⟩
    have e := r.length
    simp only [Array.length_toList] at e
    omega
theorem Inv.tuple (I : Inv X pins σ H s) (h : SqT X.K H a xs) : ∃ its : List Value, Vals xs its ∧ IsTup s.heap a its.toArray ∧ xs.length ≤ sizeLine := by
  rcases h with h | ⟨o, its, n, hk, hc, hs, hz, r⟩
  · obtain ⟨z, its, r, p⟩ := h.ok I.hok
    exact ⟨its, r, p, z⟩
  · refine ⟨its.toList, r, ⟨o, I.kIn a o hk, hc, n, by simpa using hs⟩, ?_⟩
    have e := r.length
    simp only [Array.length_toList] at e
    omega
theorem Inv.list_inj (I : Inv X pins σ H s) (h : SqL X.K H a xs) (h' : SqL X.K H a ys) : xs = ys := by
  obtain ⟨its, r, ⟨o, n, e, _, _, d⟩, _⟩ := I.list h
  obtain ⟨its', r', ⟨o', n', e', _, _, d'⟩, _⟩ := I.list h'
  rw [e] at e'; cases e'
  rw [d] at d'
  injection d' with d1 _
  have : its = its' := by simpa using congrArg Array.toList d1
  subst this
  exact r.inj r'
theorem Inv.tuple_inj (I : Inv X pins σ H s) (h : SqT X.K H a xs) (h' : SqT X.K H a ys) : xs = ys := by
  obtain ⟨its, r, ⟨o, e, _, n, d⟩, _⟩ := I.tuple h
  obtain ⟨its', r', ⟨o', e', _, n', d'⟩, _⟩ := I.tuple h'
  rw [e] at e'; cases e'
  rw [d] at d'
  injection d' with d1 _
  have : its = its' := by simpa using congrArg Array.toList d1
  subst this
  exact r.inj r'
end

noncomputable abbrev Cx.wish (X : Cx) (E : Value → Shared → Prop) : Cx := { X with xe := E }
noncomputable abbrev Cx.nox (X : Cx) : Cx := X.wish fun _ _ => False
theorem Cx.Ok.wish {X : Cx} (ok : X.Ok) (E : Value → Shared → Prop) : (X.wish E).Ok :=
  ⟨ok.mod, ok.kind, ok.glob, ok.blt, ok.above, ok.inj, ok.has, ok.cab, ok.hd, ok.frames, ok.stk, ok.exf, ok.bs, ok.bsz, ok.noex, ok.exfs, ok.funs, ok.frf⟩
theorem Cx.Ok.unwish {X : Cx} {E : Value → Shared → Prop} (ok : (X.wish E).Ok) : X.Ok :=
  ⟨ok.mod, ok.kind, ok.glob, ok.blt, ok.above, ok.inj, ok.has, ok.cab, ok.hd, ok.frames, ok.stk, ok.exf, ok.bs, ok.bsz, ok.noex, ok.exfs, ok.funs, ok.frf⟩
section
variable {X : Cx} {pins : List (Addr × Obj)} {σ : St} {H : Hp} {s : Shared} {E : Value → Shared → Prop}
theorem Inv.wish (I : Inv X pins σ H s) (E : Value → Shared → Prop) : Inv (X.wish E) pins σ H s := ⟨I.ok.wish E, I.os, I.bare, I.base, I.loc, I.cell, I.free, I.freeC, I.pin, I.hok, I.len⟩
theorem Inv.unwish (I : Inv (X.wish E) pins σ H s) : Inv X pins σ H s := ⟨I.ok.unwish, I.os, I.bare, I.base, I.loc, I.cell, I.free, I.freeC, I.pin, I.hok, I.len⟩
theorem SP.unwish {D : Ends} {f : Flow} {s' : Shared} (h : SP (X.wish E) pins D f s') : SP X pins D f s' := by
  cases f with
  | next => obtain ⟨σ', H', I, q⟩ := h; exact ⟨σ', H', I.unwish, q⟩
  | brk => obtain ⟨σ', H', I, q⟩ := h; exact ⟨σ', H', I.unwish, q⟩
  | cont => obtain ⟨σ', H', I, q⟩ := h; exact ⟨σ', H', I.unwish, q⟩
  | ret u => obtain ⟨v, σ', H', I, r, q⟩ := h; exact ⟨v, σ', H', I.unwish, r, q⟩
theorem PSs.nox {st : List Stmt} {t : TS} (h : PSs X.nox st t) : PSs X st t := fun pins s σ H D I hw =>
  wpAny_mono (h pins s σ H D (I.wish _) hw) (fun _ _ q => q.unwish) fun _ _ z => False.elim z
end

section
variable {X : Cx} {st : Stmt} {rest : List Stmt} {t u : TS} {e : Expr} {te : TE} {pos : Pos}
noncomputable def tNext : TS := fun D σ H => D.nx σ H
noncomputable def tSeq (t u : TS) : TS := fun D σ H => t { D with nx := u D } σ H
theorem pss_nil : PSs X [] tNext := fun _ _ σ H _ I h => wpAny_execs_nil ⟨σ, H, I, h⟩
theorem pss_cons (h1 : PS X st t) (h2 : PSs X rest u) : PSs X (st :: rest) (tSeq t u) := by
  intro pins s σ H D I h
  refine wpAny_execs_cons (thn (h1 pins s σ H { D with nx := u D } I h) fun f s1 q => ?_)
  cases f with
  | next =>
    obtain ⟨σ', H', I', q⟩ := q
    exact h2 pins s1 σ' H' D I' q
  | ret v => exact q
  | brk => exact q
  | cont => exact q
theorem pss_one (h1 : PS X st t) : PSs X [st] t := by
  intro pins s σ H D I h
  refine wpAny_execs_cons (thn (h1 pins s σ H D I h) fun f s1 q => ?_)
  cases f with
  | next => exact wpAny_execs_nil q
  | ret v => exact q
  | brk => exact q
  | cont => exact q
noncomputable def tCont : TS := fun D σ H => D.ct σ H
theorem Inv.quiet {pins : List (Addr × Obj)} {σ : St} {H : Hp} {s : Shared} (I : Inv X pins σ H s) : interactive X.env = false := by simp [interactive, I.ok.kind]
noncomputable def tDrop (te : TE) : TS := fun D σ H => te σ H fun _ H1 => D.nx σ H1
theorem ps_expr (he : PE X e te) (hs : swapsWith e none pos.line X.env = pure false := by rfl) : PS X (.Expr e pos) (tDrop te) := by
  intro pins s σ H D I h
  exact wpAny_Expr_any (thn (he pins s σ H _ I h) fun v s1 ⟨x, H1, I1, r1, q1⟩ => ⟨σ, H1, I1, q1⟩) I.quiet hs
noncomputable def tRet (te : TE) : TS := fun D σ H => te σ H D.rt
theorem ps_ret (he : PE X e te) : PS X (.Return (some e) pos) (tRet te) := by
  intro pins s σ H D I h
  exact wpAny_Return_some (thn (he pins s σ H _ I h) fun v s1 ⟨x, H1, I1, r1, q1⟩ => ⟨x, σ, H1, I1, r1, q1⟩)
noncomputable def tIfS (c : TT) (t u : TS) : TS := fun D σ H => c σ H fun b H1 => if b = true then t D σ H1 else u D σ H1
theorem ps_if {c : Expr} {a b : List Stmt} {tc : TT} (hc : PT X c tc) (ha : PSs X a t) (hb : PSs X b u) : PS X (.If c a b pos) (tIfS tc t u) := by
  intro pins s σ H D I h
  refine wpAny_If (thn (hc pins s σ H _ I h) fun d s1 ⟨H1, I1, q1⟩ => ?_)
  cases d with
  | true => exact ha pins s1 σ H1 D I1 q1
  | false => exact hb pins s1 σ H1 D I1 q1
noncomputable def tNever : TS := fun _ _ _ => False
theorem ps_never : PS X st tNever := fun _ _ _ _ _ _ h => h.elim
end

noncomputable abbrev TG := V → St → Hp → (St → Hp → Prop) → Prop
noncomputable abbrev TGs := List V → St → Hp → (St → Hp → Prop) → Prop
noncomputable def PG (X : Cx) (target : Expr) (t : TG) : Prop :=
  ∀ (pins : List (Addr × Obj)) (s : Shared) (σ : St) (H : Hp) (v : V) (u : Value) (Q : St → Hp → Prop), Inv X pins σ H s → RelV v u → t v σ H Q →
    wpAny (model X.prog X.w) X.A (assign target X.env u) (fun _ s' => ∃ σ' H', Inv X pins σ' H' s' ∧ Q σ' H') X.xe s
noncomputable def PGs (X : Cx) (ts : List Expr) (t : TGs) : Prop :=
  ∀ (pins : List (Addr × Obj)) (s : Shared) (σ : St) (H : Hp) (vs : List V) (us : List Value) (Q : St → Hp → Prop), Inv X pins σ H s → Vals vs us → t vs σ H Q →
    wpAny (model X.prog X.w) X.A (assignInOrder ((assignEach ts X.env).map (·.2)) us) (fun _ s' => ∃ σ' H', Inv X pins σ' H' s' ∧ Q σ' H') X.xe s
noncomputable abbrev TSet := V → V → V → Hp → (Hp → Prop) → Prop
noncomputable def PSet (X : Cx) (t : TSet) : Prop :=
  ∀ (pins : List (Addr × Obj)) (s : Shared) (σ : St) (H : Hp) (o i v : V) (ov iv u : Value) (Q : Hp → Prop), Inv X pins σ H s → RelV o ov → RelV i iv → RelV v u → t o i v H Q →
    wpAny (model X.prog X.w) X.A (setItem ov iv u) (fun _ s' => ∃ H', Inv X pins σ H' s' ∧ Q H') X.xe s
noncomputable abbrev TIp := V → V → Hp → VK → Prop
section
variable {X : Cx} {pos : Pos}
noncomputable def gName (i : Nat) : TG := fun v σ H Q => Q (σ.set i (some v)) H
theorem pg_name {i : Nat} {x : Str} (hN : X.N.Nodup) (hi : X.N[i]? = some x) (hx : Loc X.env.scope x) (hf : X.fn x = true ∨ X.env.scope.names.lookup x = some .local := by first | exact .inl rfl | exact .inr rfl | assumption) : PG X (.Name x pos) (gName i) := by
  intro pins s σ H v u Q I r h
  exact wpAny_assign_Name (store_ok I hN hi hx r (fun s' I' => ⟨_, H, I', h⟩) hf)
noncomputable def gNil : TGs := fun vs σ H Q => vs = [] ∧ Q σ H
noncomputable def gCons (t : TG) (u : TGs) : TGs := fun vs σ H Q => ∃ v r, vs = v :: r ∧ t v σ H fun σ' H' => u r σ' H' Q
theorem pgs_nil : PGs X [] gNil := by
  intro pins s σ H vs us Q I r h
  obtain ⟨e, h⟩ := h
  subst e
  cases r
  exact assignInOrder_nil ⟨σ, H, I, h⟩
theorem pgs_cons {e : Expr} {es : List Expr} {t : TG} {u : TGs} (h1 : PG X e t) (h2 : PGs X es u)
    (hs : (assignEach (e :: es) X.env).map (·.2) = assign e X.env :: (assignEach es X.env).map (·.2) := by rfl) : PGs X (e :: es) (gCons t u) := by
  intro pins s σ H vs us Q I r h
  obtain ⟨v, vr, e1, h⟩ := h
  subst e1
  cases r with
  | cons r rr =>
    rw [hs]
    refine assignInOrder_cons (thn (h1 pins s σ H _ _ _ I r h) fun _ s1 ⟨σ1, H1, I1, q1⟩ => ?_)
    exact h2 pins s1 σ1 H1 _ _ Q I1 rr q1
noncomputable def gTup (K : PySem.W.Frag) (n : Nat) (t : TGs) : TG := fun v σ H Q => ∃ a xs, v = .ref a ∧ SqT K H a xs ∧ xs.length = n ∧ t xs σ H Q
theorem pg_tup {es : List Expr} {k : Nat} {t : TGs} {n : Nat} (hc : X.calm = true) (h : PGs X es t)
    (hn : (assignEach es X.env).length = n := by rfl) (hst : (assignEach es X.env).findIdx? (·.1) = none := by rfl) : PG X (.Tuple es k pos) (gTup X.K n t) := by
  intro pins s σ H v u Q I r hw
  obtain ⟨a, xs, e1, hq, hl, hw⟩ := hw
  subst e1
  cases r
  obtain ⟨its, rv, ht, hz⟩ := I.tuple hq
  refine assign_Tuple_tuple (I.ok.hd hc) ht (by simp [hn, ← hl, rv.length]) hst fun h' hx => ?_
  have I1 : Inv X pins σ H { s with heap := h' } := I.kept (t' := s.toks) fun b o e => hx b o (Nat.ne_of_lt (Heap.lt_size e)) e
  exact h pins _ σ H xs _ Q I1 (by simpa using rv) hw
noncomputable def gSub (to ti : TE) (t : TSet) : TG := fun v σ H Q => to σ H fun o H1 => ti σ H1 fun i H2 => t o i v H2 fun H3 => Q σ H3
theorem pg_sub {o i : Expr} {to ti : TE} {t : TSet} (ho : PE X o to) (hi : PE X i ti) (hs : PSet X t)
    (ha : ∀ v, assign (.Subscript o i pos) X.env v = (do
      let ov ← holding [v] (eval o X.env)
      let iv ← holding [v, ov] (eval i X.env)
      standAt pos
      holding [v, ov, iv] (setItem ov iv v)
      release [v, ov, iv] []) := by intro _; rfl) : PG X (.Subscript o i pos) (gSub to ti t) := by
  intro pins s σ H v u Q I r h
  rw [ha]
  refine wpAny_bind (wpAny_holding (thn (ho pins s σ H _ I h) fun ov s1 ⟨x, H1, I1, r1, q1⟩ => ?_))
  refine wpAny_bind (wpAny_holding (thn (hi pins s1 σ H1 _ I1 q1) fun iv s2 ⟨y, H2, I2, r2, q2⟩ => ?_))
  refine wpAny_bind (wpAny_standAt (wpAny_bind (wpAny_holding (thn (hs pins s2 σ H2 x y v ov iv u _ I2 r1 r2 r q2) fun _ s3 ⟨H3, I3, q3⟩ => ?_))))
  exact wpAny_release ⟨σ, H3, I3, q3⟩
noncomputable def tAsg (te : TE) (g : TG) : TS := fun D σ H => te σ H fun x H1 => g x σ H1 D.nx
theorem ps_asg {tg e : Expr} {te : TE} {g : TG} (he : PE X e te) (hg : PG X tg g) (hs : swapsWithSole [tg] e pos.line X.env = pure false := by rfl) (hw : swappedStores [tg] e X.env = pure none := by rfl)
    (h1 : (assignEach [tg] X.env).map (·.2) = [assign tg X.env] := by rfl) : PS X (.Assign [tg] e pos) (tAsg te g) := by
  intro pins s σ H D I h
  refine wpAny_Assign_stores (thn (he pins s σ H _ I h) fun v s1 ⟨x, H1, I1, r1, q1⟩ => ?_) hs hw
  rw [h1]
  exact thn (hg pins s1 σ H1 x v _ I1 r1 q1) fun _ s2 q => q
theorem ps_set {i : Nat} {x : Str} {e : Expr} {te : TE} {pos' : Pos} (hN : X.N.Nodup) (hi : X.N[i]? = some x) (hx : Loc X.env.scope x) (he : PE X e te) (hs : swapsWith e (some (.Name x pos')) pos.line X.env = pure false := by rfl) (hf : X.fn x = true ∨ X.env.scope.names.lookup x = some .local := by first | exact .inl rfl | exact .inr rfl | assumption) :
    PS X (.Assign [.Name x pos'] e pos) (tAsg te (gName i)) := by
  intro pins s σ H D I h
  refine wpAny_Assign_Name (thn (he pins s σ H _ I h) fun v s1 ⟨y, H1, I1, r1, q1⟩ => ?_) hs
  exact store_ok I1 hN hi hx r1 (fun s2 I2 => ⟨_, H1, I2, q1⟩) hf
noncomputable def tPar (i j : Nat) (ta : TA) : TS := fun D σ H => ta σ H fun vs H1 => ∃ v w, vs = [v, w] ∧ D.nx ((σ.set i (some v)).set j (some w)) H1
theorem ps_par {i j : Nat} {x y : Str} {a b : Expr} {ta : TA} {px py pt : Pos} {kt k2 pt2} (hc : X.calm = true) (hN : X.N.Nodup) (hi : X.N[i]? = some x) (hj : X.N[j]? = some y) (hij : i ≠ j)
    (hx : X.env.scope.names.lookup x = some .local) (hy : X.env.scope.names.lookup y = some .local) (ha : PA X [a, b] ta)
    (hw : swappedStores [.Tuple [.Name x px, .Name y py] kt pt] (.Tuple [a, b] k2 pt2) X.env = pure (some [x, y]))
    (hs : swapsWithSole [.Tuple [.Name x px, .Name y py] kt pt] (.Tuple [a, b] k2 pt2) pos.line X.env = pure false := by rfl) :
    PS X (.Assign [.Tuple [.Name x px, .Name y py] kt pt] (.Tuple [a, b] k2 pt2) pos) (tPar i j ta) := by
  intro pins s σ H D I h
  rw [exec_Assign_arm]
  refine wpAny_bind (wpAny_standAt ?_)
  rw [hs]
  refine wpAny_bind (wpAny_pure ?_)
  rw [if_neg (by decide)]
  refine wpAny_bind (Tuple_ (thn (ha _ pins s σ H _ I h) fun us s1 ⟨vs, H1, I1, r1, q1⟩ => ?_))
  obtain ⟨v, w, e1, q1⟩ := q1
  subst e1
  obtain ⟨u1, u2, rfl, rv, rw'⟩ : ∃ u1 u2, us = [u1, u2] ∧ RelV v u1 ∧ RelV w u2 := by
    cases r1 with
    | cons p q =>
      cases q with
      | cons p' q' =>
        cases q'
        exact ⟨_, _, rfl, p, p'⟩
  refine wpAny_newObj_type ?_ (by show 2 ≤ sizeLine; decide)
  have I2 : Inv X pins σ H1 { s1 with heap := s1.heap.push { cls := .type "tuple", data := .seq [u1, u2].toArray } } := I1.kept (t' := s1.toks) fun b o e => Heap.get?_push_of_some _ e
  rw [hw]
  refine wpAny_bind (wpAny_pure ?_)
  show wpAny (model X.prog X.w) X.A (do rule "assign.swapped-stores"; let items ← unpackItems (.ref s1.heap.objs.size) 2 none; assignInOrder [fun v => bindName X.env y v, fun v => bindName X.env x v] items.reverse; pure Flow.next) _ _ _
  refine wpAny_bind (wpAny_rule (wpAny_bind (unpackItems_tuple (items := #[u1, u2]) (I.ok.hd hc) (IsTup.new s1.heap _) fun h' hx' => ?_)))
  have I3 := I2.kept (h' := h') (t' := s1.toks) fun b o e => hx' b o (Nat.ne_of_lt (Heap.lt_size e)) e
  show wpAny _ _ (assignInOrder [fun v => bindName X.env y v, fun v => bindName X.env x v] [u2, u1] >>= fun _ => pure Flow.next) _ _ _
  refine wpAny_bind (assignInOrder_cons (wpAny_bindName (store_ok I3 hN hj (.inl hy) rw' (fun s2 I4 => ?_) (.inr hy))))
  refine assignInOrder_cons (wpAny_bindName (store_ok I4 hN hi (.inl hx) rv (fun s3 I5 => assignInOrder_nil (wpAny_pure ?_)) (.inr hx)))
  rw [List.set_comm _ _ (Ne.symm hij)] at I5
  exact ⟨_, H1, I5, q1⟩
noncomputable def tAug (i : Nat) (te : TE) (ti : TIp) : TS := fun D σ H => ∃ x, σ[i]? = some (some x) ∧ te σ H fun y H1 => ti x y H1 fun z H2 => D.nx (σ.set i (some z)) H2
noncomputable def tAugS (to ti te : TE) (tget : V → V → Hp → VK → Prop) (tip : TIp) (tset : TSet) : TS := fun D σ H => to σ H fun o H1 => ti σ H1 fun i H2 => tget o i H2 fun x H3 => te σ H3 fun y H4 => tip x y H4 fun z H5 => tset o i z H5 fun H6 => D.nx σ H6
end

section
variable {X : Cx} {pos : Pos}
noncomputable def tWhile (c : TT) (tb : TS) : TS := fun D σ H => ∃ W : Nat → St → Hp → Prop, (∃ m, W m σ H) ∧ ∀ m σ H, W m σ H →
  c σ H fun b H1 => if b = true then ∃ N : St → Hp → Prop, (∀ σ' H', N σ' H' → ∃ m', m' < m ∧ W m' σ' H') ∧ tb { D with nx := N, ct := N, bk := D.nx } σ H1 else D.nx σ H1
theorem ps_while {c : Expr} {body : List Stmt} {tc : TT} {tb : TS} (hp : PassesOwn (model X.prog X.w) X.A X.env X.xe) (hc : PT X c tc) (hb : PSs X body tb) : PS X (.While c body [] pos) (tWhile tc tb) := by
  intro pins s σ H D I h
  obtain ⟨W, ⟨m0, w0⟩, turn⟩ := h
  refine wpAny_While (codeAny_whileLoop (fun n s' => ∃ σ' H', Inv X pins σ' H' s' ∧ W n σ' H') ?_ m0 ⟨σ, H, I, w0⟩)
  rintro n s1 ⟨σ1, H1, I1, w1⟩
  refine wpAny_passesOwn hp (thn (hc pins s1 σ1 H1 _ I1 (turn n σ1 H1 w1)) fun b s2 ⟨H2, I2, q2⟩ => ?_)
  cases b with
  | true =>
    obtain ⟨N, hN, q2⟩ := q2
    rw [if_pos rfl]
    refine wpAny_passesOwn hp (thn (hb pins s2 σ1 H2 _ I2 q2) fun f s3 q3 => ?_)
    cases f with
    | next =>
      obtain ⟨σ3, H3, I3, n3⟩ := q3
      obtain ⟨m', hm, w3⟩ := hN σ3 H3 n3
      exact ⟨m', hm, σ3, H3, I3, w3⟩
    | cont =>
      obtain ⟨σ3, H3, I3, n3⟩ := q3
      obtain ⟨m', hm, w3⟩ := hN σ3 H3 n3
      exact ⟨m', hm, σ3, H3, I3, w3⟩
    | brk => exact q3
    | ret v => exact q3
  | false =>
    rw [if_neg Bool.false_ne_true]
    exact wpAny_execs_nil ⟨σ1, H2, I2, q2⟩
end

structure It where
  go : Nat → Hp → Prop
  yld : Nat → Hp → V → Hp → Prop
  stop : Nat → Hp → Prop
noncomputable def FpOk (X : Cx) (pins : List (Addr × Obj)) (H : Hp) (b : Addr) : Prop :=
  H b = none ∧ b ≠ X.env.locals ∧ b ∉ X.fs ∧ (b ∈ X.ex ∨ X.s₀.heap.objs.size ≤ b) ∧ (∀ x c, X.env.cells.lookup x = some c → c ≠ b) ∧ ∀ p ∈ X.pn ++ pins, p.1 ≠ b
theorem Inv.fpOk {X : Cx} {pins : List (Addr × Obj)} {σ : St} {H H' : Hp} {s : Shared} {b : Addr} (I : Inv X pins σ H s) (hb : s.heap.objs.size ≤ b) (hn : H' b = none) : FpOk X pins H' b := by
  refine ⟨hn, Nat.ne_of_gt (Nat.lt_of_lt_of_le I.lt hb), I.nofs hb, .inr (Nat.le_trans I.sz hb), fun x c e z => ?_, fun p hp z => ?_⟩
  · obtain ⟨v, q⟩ := I.cell x c e
    exact absurd (Nat.lt_of_lt_of_le q.lt (by rw [z]; exact hb)) (Nat.lt_irrefl _)
  · exact absurd (Nat.lt_of_lt_of_le (Heap.lt_size (I.pin p hp).1) (by rw [z]; exact hb)) (Nat.lt_irrefl _)
structure Turn (P : Program) (w : World) (K : PySem.W.Frag) (tg : Expr) (J : It) (fp : List Addr) (it : Addr) (tn : Nat → Heap → Prop) : Prop where
  mem : it ∈ fp
  obj : ∀ i h, tn i h → ∀ b ∈ fp, ∃ o, h.get? b = some o ∧ ∀ v, o.data ≠ .cell v
  keep : ∀ i h h', tn i h → (∀ b ∈ fp, ∀ o, h.get? b = some o → h'.get? b = some o) → tn i h'
  item : ∀ (X : Cx), X.prog = P → X.w = w → X.K = K → X.calm = true → ∀ (i : Nat) (pins : List (Addr × Obj)) (s : Shared) (σ : St) (H : Hp) (E : Value → Shared → Prop), Inv X pins σ H s → (∀ b ∈ fp, FpOk X pins H b) → tn i s.heap → J.go i H →
    wpAny (model P w) X.A (pyNext (.ref it)) (fun r s1 => ∃ u, r = some u ∧
      wpAny (model P w) X.A (letOwnedTupleGo tg (.ref it) u) (fun _ s2 => ∃ x H', Inv X pins σ H' s2 ∧ RelV x u ∧ J.yld i H x H' ∧ tn (i + 1) s2.heap ∧ ∀ b ∈ fp, H' b = none) E s1) E s
  done : ∀ (X : Cx), X.prog = P → X.w = w → X.K = K → X.calm = true → ∀ (i : Nat) (pins : List (Addr × Obj)) (s : Shared) (σ : St) (H : Hp) (E : Value → Shared → Prop), Inv X pins σ H s → (∀ b ∈ fp, FpOk X pins H b) → tn i s.heap → J.stop i H →
    wpAny (model P w) X.A (pyNext (.ref it)) (fun r s1 => r = none ∧ Inv X pins σ H s1) E s
  self : ∀ (A : Around) (i : Nat) (s : Shared) (Q : Value → Shared → Prop) (E : Value → Shared → Prop), tn i s.heap → Q (.ref it) s → wpAny (model P w) A (pyIter (.ref it)) Q E s
noncomputable abbrev TI := St → Hp → (It → Hp → Prop) → Prop
noncomputable def PIE (X : Cx) (pins : List (Addr × Obj)) (σ : St) (tg : Expr) (R : It → Hp → Prop) (itv : Value) (s2 : Shared) : Prop :=
  ∃ (it : Addr) (fp : List Addr) (tn : Nat → Heap → Prop) (J : It) (H' : Hp), itv = .ref it ∧ Inv X pins σ H' s2 ∧ Turn X.prog X.w X.K tg J fp it tn ∧ tn 0 s2.heap ∧ (∀ b ∈ fp, FpOk X pins H' b) ∧ R J H'
noncomputable def PI (X : Cx) (tg iter : Expr) (wi : TI) : Prop :=
  ∀ (pins : List (Addr × Obj)) (s : Shared) (σ : St) (H : Hp) (R : It → Hp → Prop), Inv X pins σ H s → wi σ H R →
    wpAny (model X.prog X.w) X.A (eval iter X.env) (fun v s1 => wpAny (model X.prog X.w) X.A (pyIter v) (PIE X pins σ tg R) X.xe s1) X.xe s

theorem go_of {M : Model} {A : Around} {E : Value → Shared → Prop} {s : Shared} {tg : Expr} {it : Addr} {u : Value} {o : Obj} {n : String} {vs : Array Value} {Q : Unit → Shared → Prop} (ho : s.heap.get? it = some o) (hc : o.cls = .type n) (hd : o.data = .fields vs)
    (hn : ["enumerate", "zip", "dict_itemiterator", "dict_reverseitemiterator", "odict_iterator", "itertools.zip_longest", "itertools.pairwise"].contains n = false) (hQ : Q () s) : wpAny M A (letOwnedTupleGo tg (.ref it) u) Q E s := by
  unfold letOwnedTupleGo
  cases tg <;> first
    | exact wpAny_pure hQ
    | (cases u <;> first
        | exact wpAny_pure hQ
        | (refine wpAny_bind (wpAny_load ho ?_)
           rw [hc, hd]
           show wpAny M A (if (["enumerate", "zip", "dict_itemiterator", "dict_reverseitemiterator", "odict_iterator", "itertools.zip_longest", "itertools.pairwise"].contains n && vs[0]? == some (rawInt _)) = true then _ else _) Q E s
           rw [if_neg (by intro h; rw [hn, Bool.false_and] at h; cases h)]
           exact wpAny_pure hQ))

noncomputable def Itl (K : PySem.W.Frag) (a : Addr) : It :=
  ⟨fun i H => ∃ xs x, SqL K H a xs ∧ xs[i]? = some x, fun i H x H' => H' = H ∧ ∀ xs, SqL K H a xs → xs[i]? = some x, fun i H => ∃ xs, SqL K H a xs ∧ xs.length ≤ i⟩
noncomputable def Itt (K : PySem.W.Frag) (a : Addr) : It :=
  ⟨fun i H => ∃ xs x, SqT K H a xs ∧ xs[i]? = some x, fun i H x H' => H' = H ∧ ∀ xs, SqT K H a xs → xs[i]? = some x, fun i H => ∃ xs, SqT K H a xs ∧ xs.length ≤ i⟩
noncomputable def Itr (lo : Int) (n : Nat) : It := ⟨fun i _ => i < n, fun i H x H' => H' = H ∧ x = .int (lo + i), fun i _ => n ≤ i⟩
theorem turn_list {P : Program} {w : World} {K : PySem.W.Frag} {tg : Expr} (a it : Addr) : Turn P w K tg (Itl K a) [it] it (fun i h => h.IsListIter it a i) where
  mem := by simp
  obj := fun i h st b hb => by
    have e : b = it := by simpa using hb
    subst e
    obtain ⟨o, e, c, d⟩ := st
    exact ⟨o, e, fun v z => by rw [d] at z; cases z⟩
  keep := fun i h h' st k => st.at fun o e => k it (by simp) o e
  item := by
    intro X hP hw hK hc i pins s σ H E I hf st hg
    subst hP hw hK
    obtain ⟨xs, x, hq, hx⟩ := hg
    obtain ⟨its, rv, p, hz⟩ := I.list hq
    obtain ⟨u, hu, ru⟩ := rv.get hx
    obtain ⟨f0, f1, f2, f3, f4, f5⟩ := hf it (by simp)
    refine wpAny_pyNext_list_item st p.isList (x := u) (by simpa using hu) fun h' st' sb => ?_
    have I1 : Inv X pins σ H { s with heap := h' } := I.turned (t' := s.toks) (fun b o hb e => (sb.2 b hb).trans e) f0 f1 f3 f4 f5
    obtain ⟨o, e, c, d⟩ := id st'
    exact ⟨u, rfl, go_of (s := { s with heap := h' }) e c d (by decide) ⟨x, H, I1, ru, ⟨rfl, fun ys hy => by rw [I.list_inj hy hq]; exact hx⟩, st', fun b hb => (hf b hb).1⟩⟩
  done := by
    intro X hP hw hK hc i pins s σ H E I hf st hg
    subst hP hw hK
    obtain ⟨xs, hq, hx⟩ := hg
    obtain ⟨its, rv, p, hz⟩ := I.list hq
    obtain ⟨f0, f1, f2, f3, f4, f5⟩ := hf it (by simp)
    have hl := rv.length
    exact wpAny_pyNext_list_end (I.ok.hd hc) st p.isList (by simp; omega) fun h' eb => ⟨rfl, I.turned (t' := s.toks) (fun b o hb e => eb b o hb e) f0 f1 f3 f4 f5⟩
  self := fun _ _ _ _ _ st h => wpAny_pyIter_listiter st h
theorem turn_tuple {P : Program} {w : World} {K : PySem.W.Frag} {tg : Expr} (a it : Addr) : Turn P w K tg (Itt K a) [it] it (fun i h => h.IsTupleIter it a i) where
  mem := by simp
  obj := fun i h st b hb => by
    have e : b = it := by simpa using hb
    subst e
    obtain ⟨o, e, c, d⟩ := st
    exact ⟨o, e, fun v z => by rw [d] at z; cases z⟩
  keep := fun i h h' st k => st.at fun o e => k it (by simp) o e
  item := by
    intro X hP hw hK hc i pins s σ H E I hf st hg
    subst hP hw hK
    obtain ⟨xs, x, hq, hx⟩ := hg
    obtain ⟨its, rv, p, hz⟩ := I.tuple hq
    obtain ⟨u, hu, ru⟩ := rv.get hx
    obtain ⟨f0, f1, f2, f3, f4, f5⟩ := hf it (by simp)
    refine wpAny_pyNext_tuple_item st (show s.heap.IsTuple a its.toArray from p) (x := u) (by simpa using hu) fun h' st' sb => ?_
    have I1 : Inv X pins σ H { s with heap := h' } := I.turned (t' := s.toks) (fun b o hb e => (sb.2 b hb).trans e) f0 f1 f3 f4 f5
    obtain ⟨o, e, c, d⟩ := id st'
    exact ⟨u, rfl, go_of (s := { s with heap := h' }) e c d (by decide) ⟨x, H, I1, ru, ⟨rfl, fun ys hy => by rw [I.tuple_inj hy hq]; exact hx⟩, st', fun b hb => (hf b hb).1⟩⟩
  done := by
    intro X hP hw hK hc i pins s σ H E I hf st hg
    subst hP hw hK
    obtain ⟨xs, hq, hx⟩ := hg
    obtain ⟨its, rv, p, hz⟩ := I.tuple hq
    obtain ⟨f0, f1, f2, f3, f4, f5⟩ := hf it (by simp)
    have hl := rv.length
    exact wpAny_pyNext_tuple_end (I.ok.hd hc) st (show s.heap.IsTuple a its.toArray from p) (by simp; omega) fun h' eb => ⟨rfl, I.turned (t' := s.toks) (fun b o hb e => eb b o hb e) f0 f1 f3 f4 f5⟩
  self := fun _ _ _ _ _ st h => wpAny_pyIter_tupleiter st h
theorem turn_range {P : Program} {w : World} {K : PySem.W.Frag} {tg : Expr} (it : Addr) (lo : Int) (n : Nat) : Turn P w K tg (Itr lo n) [it] it (fun i h => IsRangeIter h it (lo + (i : Nat) * 1) ((n : Int) - (i : Nat)) 1) where
  mem := by simp
  obj := fun i h st b hb => by
    have e : b = it := by simpa using hb
    subst e
    exact ⟨_, st, fun v z => by
      have z' : Data.fields _ = Data.cell v := z
      cases z'⟩
  keep := fun i h h' st k => k it (by simp) _ st
  item := by
    intro X hP hw hK hc i pins s σ H E I hf st hg
    subst hP hw hK
    obtain ⟨f0, f1, f2, f3, f4, f5⟩ := hf it (by simp)
    have W := Walks.range (prog := X.prog) (w := X.w) (I.ok.hd hc) it lo 1 n
    refine W.item i s _ _ hg st fun v h' tk hv st' kk => ?_
    obtain ⟨t, rfl⟩ := hv
    have I1 : Inv X pins σ H { s with heap := h', toks := tk } := I.turned (fun b o hb e => kk b o (by simpa using hb) e) f0 f1 f3 f4 f5
    refine ⟨_, rfl, go_of (s := { s with heap := h', toks := tk }) (n := "range_iterator") st' rfl rfl (by decide) ⟨.int (lo + i), H, I1, ⟨t, ?_⟩, ⟨rfl, rfl⟩, st', fun b hb => (hf b hb).1⟩⟩
    rw [Int.mul_one]
  done := by
    intro X hP hw hK hc i pins s σ H E I hf st hg
    subst hP hw hK
    obtain ⟨f0, f1, f2, f3, f4, f5⟩ := hf it (by simp)
    exact wpAny_pyNext_range_end (I.ok.hd hc) st (by have : n ≤ i := hg; omega) fun h' eb => ⟨rfl, I.turned (t' := s.toks) (fun b o hb e => eb b o hb e) f0 f1 f3 f4 f5⟩
  self := fun _ _ _ _ _ st h => wpAny_pyIter_rangeiter st h
end L2

namespace L2
open PySem PySem.Spec PyProof.Rows
section
variable {X : Cx} {tg : Expr}
noncomputable def iList (K : PySem.W.Frag) (tl : TE) : TI := fun σ H R => tl σ H fun x H1 => ∃ a, x = .ref a ∧ (∃ xs, SqL K H1 a xs) ∧ R (Itl K a) H1
noncomputable def iTup (K : PySem.W.Frag) (tl : TE) : TI := fun σ H R => tl σ H fun x H1 => ∃ a, x = .ref a ∧ (∃ xs, SqT K H1 a xs) ∧ R (Itt K a) H1
theorem pi_list {l : Expr} {tl : TE} (hl : PE X l tl) : PI X tg l (iList X.K tl) := by
  intro pins s σ H R I h
  refine thn (hl pins s σ H _ I h) fun v s1 ⟨x, H1, I1, r1, q1⟩ => ?_
  obtain ⟨a, e, ⟨xs, hq⟩, q⟩ := q1
  subst e
  cases r1
  obtain ⟨its, rv, p, hz⟩ := I1.list hq
  refine wpAny_pyIter_list p.isList ?_
  refine ⟨s1.heap.objs.size, [s1.heap.objs.size], _, _, H1, rfl, I1.kept (t' := s1.toks) fun b o e => Heap.get?_push_of_some _ e, turn_list a _, ⟨_, Heap.get?_push_size _ rfl, rfl, rfl⟩, fun b hb => ?_, q⟩
  have e : b = s1.heap.objs.size := by simpa using hb
  subst e
  exact I1.fpOk (Nat.le_refl _) (I1.hok.fresh (Nat.le_refl _))
theorem pi_tup {l : Expr} {tl : TE} (hl : PE X l tl) : PI X tg l (iTup X.K tl) := by
  intro pins s σ H R I h
  refine thn (hl pins s σ H _ I h) fun v s1 ⟨x, H1, I1, r1, q1⟩ => ?_
  obtain ⟨a, e, ⟨xs, hq⟩, q⟩ := q1
  subst e
  cases r1
  obtain ⟨its, rv, p, hz⟩ := I1.tuple hq
  refine wpAny_pyIter_tuple (show s1.heap.IsTuple a its.toArray from p) ?_
  refine ⟨s1.heap.objs.size, [s1.heap.objs.size], _, _, H1, rfl, I1.kept (t' := s1.toks) fun b o e => Heap.get?_push_of_some _ e, turn_tuple a _, ⟨_, Heap.get?_push_size _ rfl, rfl, rfl⟩, fun b hb => ?_, q⟩
  have e : b = s1.heap.objs.size := by simpa using hb
  subst e
  exact I1.fpOk (Nat.le_refl _) (I1.hok.fresh (Nat.le_refl _))
theorem range_it {pins : List (Addr × Obj)} {σ : St} {H : Hp} {s : Shared} {R : It → Hp → Prop} {E : Value → Shared → Prop} {lo hi : Int} {t u v : Tok} {tk : Nat} (I : Inv X pins σ H s) (h1 : -(2 ^ 62) ≤ lo) (h2 : lo < 2 ^ 62) (h3 : -(2 ^ 62) ≤ hi) (h4 : hi < 2 ^ 62)
    (q : R (Itr lo (hi - lo).toNat) H) : wpAny (model X.prog X.w) X.A (pyIter (.ref s.heap.objs.size)) (PIE X pins σ tg R) E { s with heap := s.heap.push { cls := .type "range", data := .fields #[.int lo t, .int hi u, .int 1 v] }, toks := tk } := by
  refine wpAny_pyIter_range (IsRange.new ..) (small_one h1 h2 h3 h4) ?_
  have I1 : Inv X pins σ H { s with heap := s.heap.push { cls := .type "range", data := .fields #[.int lo t, .int hi u, .int 1 v] }, toks := tk } := I.kept fun b o e => Heap.get?_push_of_some _ e
  refine ⟨(s.heap.push { cls := .type "range", data := .fields #[.int lo t, .int hi u, .int 1 v] }).objs.size, [(s.heap.push { cls := .type "range", data := .fields #[.int lo t, .int hi u, .int 1 v] }).objs.size], _, _, H, rfl,
    I1.kept (t' := tk) fun b o e => Heap.get?_push_of_some _ e, turn_range _ lo (hi - lo).toNat, ?_, fun b hb => ?_, q⟩
  · have e1 : lo + ((0 : Nat) : Int) * 1 = lo := by simp
    have e2 : (((hi - lo).toNat : Nat) : Int) - ((0 : Nat) : Int) = Builtin.Range.rangeSize lo hi 1 := by rw [rangeSize_one]; split <;> omega
    show IsRangeIter _ _ (lo + ((0 : Nat) : Int) * 1) ((((hi - lo).toNat : Nat) : Int) - ((0 : Nat) : Int)) 1
    rw [e1, e2]
    exact Heap.get?_push_size _ rfl
  · have e : b = (s.heap.push { cls := .type "range", data := .fields #[.int lo t, .int hi u, .int 1 v] }).objs.size := by simpa using hb
    subst e
    exact I1.fpOk (Nat.le_refl _) (I1.hok.fresh (Nat.le_refl _))
noncomputable def iRng1 (ta : TA) : TI := fun σ H R => ta σ H fun vs H1 => ∃ j : Int, vs = [.int j] ∧ -(2 ^ 62) ≤ j ∧ j < 2 ^ 62 ∧ R (Itr 0 j.toNat) H1
noncomputable def iRng2 (ta : TA) : TI := fun σ H R => ta σ H fun vs H1 => ∃ i j : Int, vs = [.int i, .int j] ∧ (-(2 ^ 62) ≤ i ∧ i < 2 ^ 62 ∧ -(2 ^ 62) ≤ j ∧ j < 2 ^ 62) ∧ R (Itr i (j - i).toNat) H1
theorem pi_range1 {a : Expr} {ta : TA} {p pos : Pos} (hg : Gl X "range") (hm : X.mg "range" = none) (ha : PA X [a] ta) (hs : starEach [a] X.env = [(false, eval a X.env)] := by rfl) : PI X tg (.Call (.Name "range" p) [a] [] pos) (iRng1 ta) := by
  intro pins s σ H R I h
  refine Call_ (ld_blt I hg hm boot_range (PyProof.Rows.callWith_type1 (thn (ha pos pins s σ H _ I h) fun us s1 ⟨vs, H1, I1, r1, q1⟩ => ?_) hs rfl))
  obtain ⟨j, e, q1, q2, q⟩ := q1
  subst e
  cases r1 with
  | cons r rr =>
    cases rr
    obtain ⟨t, rfl⟩ := r
    exact call_range_1 (range_it I1 (by omega) (by omega) q1 q2 (by simpa using q))
noncomputable def tFor (wi : TI) (g : TG) (tb : TS) : TS := fun D σ H => wi σ H fun J H1 => ∃ W : Nat → Nat → St → Hp → Prop, (∃ m, W 0 m σ H1) ∧ ∀ i m σ H, W i m σ H →
  (J.stop i H ∧ D.nx σ H) ∨ (J.go i H ∧ ∃ N : St → Hp → Prop, (∀ σ' H', N σ' H' → ∃ m', m' < m ∧ W (i + 1) m' σ' H') ∧ ∀ x H', J.yld i H x H' → g x σ H' fun σ2 H2 => tb { D with nx := N, ct := N, bk := D.nx } σ2 H2)
noncomputable def pinsAt (fp : List Addr) (h : Heap) : List (Addr × Obj) := fp.filterMap fun b => (h.get? b).map fun o => (b, o)
theorem mem_pinsAt {fp : List Addr} {h : Heap} {b : Addr} {o : Obj} (hb : b ∈ fp) (e : h.get? b = some o) : (b, o) ∈ pinsAt fp h := List.mem_filterMap.mpr ⟨b, hb, by rw [e]; rfl⟩
theorem of_pinsAt {fp : List Addr} {h : Heap} {p : Addr × Obj} (hp : p ∈ pinsAt fp h) : p.1 ∈ fp ∧ h.get? p.1 = some p.2 := by
  obtain ⟨b, hb, e⟩ := List.mem_filterMap.mp hp
  cases q : h.get? b with
  | none => rw [q] at e; cases e
  | some o =>
    rw [q] at e
    have e' : (b, o) = p := Option.some.inj e
    subst e'
    exact ⟨hb, q⟩
theorem Inv.pinned {pins : List (Addr × Obj)} {σ : St} {H : Hp} {s : Shared} {fp : List Addr} (I : Inv X pins σ H s) (hf : ∀ b ∈ fp, FpOk X pins H b) (ho : ∀ b ∈ fp, ∃ o, s.heap.get? b = some o ∧ ∀ v, o.data ≠ .cell v) : Inv X (pins ++ pinsAt fp s.heap) σ H s :=
  I.pins_of fun p hp => (List.mem_append.mp hp).elim (fun z => I.pin p (List.mem_append_right _ z)) fun z => by
    obtain ⟨hb, e⟩ := of_pinsAt z
    obtain ⟨f0, f1, f2, _⟩ := hf p.1 hb
    obtain ⟨o, e', d⟩ := ho p.1 hb
    rw [e] at e'; cases e'
    exact ⟨e, f0, f1, f2, d⟩
theorem Inv.unpinned {pins pl : List (Addr × Obj)} {σ : St} {H : Hp} {s : Shared} (I : Inv X (pins ++ pl) σ H s) : Inv X pins σ H s := I.pins_of fun p hp => I.pin p (List.mem_append_right _ (List.mem_append_left _ hp))
theorem ps_for {iter : Expr} {body : List Stmt} {wi : TI} {g : TG} {tb : TS} {pos : Pos} (hp : PassesOwn (model X.prog X.w) X.A X.env X.xe) (hc : X.calm = true) (hi : PI X tg iter wi) (hg : PG X tg g) (hb : PSs X body tb)
    (hs : ∀ x, foldedSetIterable iter X.env x = pure x := by intro _; rfl) : PS X (.For tg iter body [] pos) (tFor wi g tb) := by
  intro pins s σ H D I h
  refine wpAny_For (thn (hi pins s σ H _ I h) fun v s1 h1 => thn h1 fun itv s2 h2 => ?_) hs
  obtain ⟨it, fp, tn, J, H2, e, I2, T, st2, f2, W, ⟨m0, w0⟩, turn⟩ := h2
  subst e
  -- what stays true of the iterator's objects through the loop
  have stat : ∀ {H' : Hp}, (∀ b ∈ fp, H' b = none) → ∀ b ∈ fp, FpOk X pins H' b := fun hn b hb => ⟨hn b hb, (f2 b hb).2⟩
  refine codeAny_forLoop_any (fun n s' => ∃ i σ' H', Inv X pins σ' H' s' ∧ tn i s'.heap ∧ (∀ b ∈ fp, H' b = none) ∧ W i n σ' H') ?_ m0 ⟨0, σ, H2, I2, st2, fun b hb => (f2 b hb).1, w0⟩
  rintro n s3 ⟨i, σ3, H3, I3, st3, fr3, w3⟩
  rcases turn i n σ3 H3 w3 with ⟨stop, qn⟩ | ⟨go, N, hN, step⟩
  · refine wpAny_passesOwn hp (thn (T.done X rfl rfl rfl hc i pins s3 σ3 H3 X.xe I3 (stat fr3) st3 stop) fun r s4 ⟨hr, I4⟩ => ?_)
    subst hr
    exact wpAny_execs_nil ⟨σ3, H3, I4, qn⟩
  · refine wpAny_passesOwn hp (thn (T.item X rfl rfl rfl hc i pins s3 σ3 H3 X.xe I3 (stat fr3) st3 go) fun r s4 ⟨u, hr, h4⟩ => ?_)
    subst hr
    refine wpAny_passesOwn hp (thn h4 fun _ s5 ⟨x, H5, I5, r5, y5, st5, fr5⟩ => ?_)
    have I5' := I5.pinned (stat fr5) (T.obj _ _ st5)
    refine wpAny_passesOwn hp (thn (hg _ s5 σ3 H5 x u _ I5' r5 (step x H5 y5)) fun _ s6 ⟨σ6, H6, I6, q6⟩ => ?_)
    refine wpAny_passesOwn hp (thn (hb _ s6 σ6 H6 _ I6 q6) fun f s7 q7 => ?_)
    have again : ∀ {σ7 : St} {H7 : Hp}, Inv X (pins ++ pinsAt fp s5.heap) σ7 H7 s7 → N σ7 H7 → ∃ m, m < n ∧ ∃ i σ' H', Inv X pins σ' H' s7 ∧ tn i s7.heap ∧ (∀ b ∈ fp, H' b = none) ∧ W i m σ' H' := fun {σ7 H7} I7 n7 => by
      obtain ⟨m', hm, w7⟩ := hN σ7 H7 n7
      refine ⟨m', hm, i + 1, σ7, H7, I7.unpinned, T.keep _ _ _ st5 fun b hb o e => (I7.pin (b, o) (List.mem_append_right _ (List.mem_append_right _ (mem_pinsAt hb e)))).1, fun b hb => ?_, w7⟩
      obtain ⟨o, e, d⟩ := T.obj _ _ st5 b hb
      exact (I7.pin (b, o) (List.mem_append_right _ (List.mem_append_right _ (mem_pinsAt hb e)))).2.1
    cases f with
    | next => obtain ⟨σ7, H7, I7, n7⟩ := q7; exact again I7 n7
    | cont => obtain ⟨σ7, H7, I7, n7⟩ := q7; exact again I7 n7
    | brk => obtain ⟨σ7, H7, I7, q7⟩ := q7; exact ⟨σ7, H7, I7.unpinned, q7⟩
    | ret v => obtain ⟨x7, σ7, H7, I7, r7, q7⟩ := q7; exact ⟨x7, σ7, H7, I7.unpinned, r7, q7⟩
end

theorem for_list {K : PySem.W.Frag} {a : Addr} {xs : List V} {g : TG} {tb : TS} {D : Ends} {σ : St} {H : Hp} (Pv : Nat → St → Hp → Prop) (h0 : Pv 0 σ H) (hl : ∀ i σ H, i ≤ xs.length → Pv i σ H → SqL K H a xs)
    (hs : ∀ i x σ H, xs[i]? = some x → Pv i σ H → g x σ H fun σ2 H2 => tb { D with nx := Pv (i + 1), ct := Pv (i + 1), bk := D.nx } σ2 H2) (hd : ∀ σ H, Pv xs.length σ H → D.nx σ H) :
    ∃ W : Nat → Nat → St → Hp → Prop, (∃ m, W 0 m σ H) ∧ ∀ i m σ H, W i m σ H →
      ((Itl K a).stop i H ∧ D.nx σ H) ∨ ((Itl K a).go i H ∧ ∃ N : St → Hp → Prop, (∀ σ' H', N σ' H' → ∃ m', m' < m ∧ W (i + 1) m' σ' H') ∧ ∀ x H', (Itl K a).yld i H x H' → g x σ H' fun σ2 H2 => tb { D with nx := N, ct := N, bk := D.nx } σ2 H2) := by
  refine ⟨fun i m σ H => m = xs.length - i ∧ i ≤ xs.length ∧ Pv i σ H, ⟨xs.length, by simp, Nat.zero_le _, h0⟩, ?_⟩
  rintro i m σ H ⟨rfl, hi, p⟩
  have q := hl i σ H hi p
  by_cases hlt : i < xs.length
  · refine .inr ⟨⟨xs, xs[i], q, by simp [hlt]⟩, Pv (i + 1), fun σ' H' p' => ⟨xs.length - (i + 1), by omega, rfl, hlt, p'⟩, fun x H' y => ?_⟩
    obtain ⟨e, y⟩ := y
    subst e
    exact hs i x σ _ (y xs q) p
  · have e : i = xs.length := by omega
    subst e
    exact .inl ⟨⟨xs, q, Nat.le_refl _⟩, hd σ H p⟩
theorem for_tup {K : PySem.W.Frag} {a : Addr} {xs : List V} {g : TG} {tb : TS} {D : Ends} {σ : St} {H : Hp} (Pv : Nat → St → Hp → Prop) (h0 : Pv 0 σ H) (hl : ∀ i σ H, i ≤ xs.length → Pv i σ H → SqT K H a xs)
    (hs : ∀ i x σ H, xs[i]? = some x → Pv i σ H → g x σ H fun σ2 H2 => tb { D with nx := Pv (i + 1), ct := Pv (i + 1), bk := D.nx } σ2 H2) (hd : ∀ σ H, Pv xs.length σ H → D.nx σ H) :
    ∃ W : Nat → Nat → St → Hp → Prop, (∃ m, W 0 m σ H) ∧ ∀ i m σ H, W i m σ H →
      ((Itt K a).stop i H ∧ D.nx σ H) ∨ ((Itt K a).go i H ∧ ∃ N : St → Hp → Prop, (∀ σ' H', N σ' H' → ∃ m', m' < m ∧ W (i + 1) m' σ' H') ∧ ∀ x H', (Itt K a).yld i H x H' → g x σ H' fun σ2 H2 => tb { D with nx := N, ct := N, bk := D.nx } σ2 H2) := by
  refine ⟨fun i m σ H => m = xs.length - i ∧ i ≤ xs.length ∧ Pv i σ H, ⟨xs.length, by simp, Nat.zero_le _, h0⟩, ?_⟩
  rintro i m σ H ⟨rfl, hi, p⟩
  have q := hl i σ H hi p
  by_cases hlt : i < xs.length
  · refine .inr ⟨⟨xs, xs[i], q, by simp [hlt]⟩, Pv (i + 1), fun σ' H' p' => ⟨xs.length - (i + 1), by omega, rfl, hlt, p'⟩, fun x H' y => ?_⟩
    obtain ⟨e, y⟩ := y
    subst e
    exact hs i x σ _ (y xs q) p
  · have e : i = xs.length := by omega
    subst e
    exact .inl ⟨⟨xs, q, Nat.le_refl _⟩, hd σ H p⟩
theorem for_range {lo : Int} {n : Nat} {g : TG} {tb : TS} {D : Ends} {σ : St} {H : Hp} (Pv : Nat → St → Hp → Prop) (h0 : Pv 0 σ H)
    (hs : ∀ i σ H, i < n → Pv i σ H → g (.int (lo + i)) σ H fun σ2 H2 => tb { D with nx := Pv (i + 1), ct := Pv (i + 1), bk := D.nx } σ2 H2) (hd : ∀ σ H, Pv n σ H → D.nx σ H) :
    ∃ W : Nat → Nat → St → Hp → Prop, (∃ m, W 0 m σ H) ∧ ∀ i m σ H, W i m σ H →
      ((Itr lo n).stop i H ∧ D.nx σ H) ∨ ((Itr lo n).go i H ∧ ∃ N : St → Hp → Prop, (∀ σ' H', N σ' H' → ∃ m', m' < m ∧ W (i + 1) m' σ' H') ∧ ∀ x H', (Itr lo n).yld i H x H' → g x σ H' fun σ2 H2 => tb { D with nx := N, ct := N, bk := D.nx } σ2 H2) := by
  refine ⟨fun i m σ H => m = n - i ∧ i ≤ n ∧ Pv i σ H, ⟨n, by simp, Nat.zero_le _, h0⟩, ?_⟩
  rintro i m σ H ⟨rfl, hi, p⟩
  by_cases hlt : i < n
  · refine .inr ⟨hlt, Pv (i + 1), fun σ' H' p' => ⟨n - (i + 1), by omega, rfl, hlt, p'⟩, fun x H' y => ?_⟩
    obtain ⟨e, y⟩ := y
    subst e y
    exact hs i σ _ hlt p
  · have e : i = n := by omega
    subst e
    exact .inl ⟨Nat.le_refl _, hd σ H p⟩
end L2

namespace L2
open PySem PySem.Spec PyProof.Rows

noncomputable abbrev R2 := V → V → Hp → VK → Prop
noncomputable def OpR (X : Cx) (f : Value → Value → Sem Value) (r : R2) : Prop :=
  ∀ (pins : List (Addr × Obj)) (s : Shared) (σ : St) (H : Hp) (x y : V) (v u : Value) (Q : VK), Inv X pins σ H s → RelV x v → RelV y u → r x y H Q →
    wpAny (model X.prog X.w) X.A (f v u) (EP X pins σ Q) X.xe s
noncomputable def UnR (X : Cx) (f : Value → Sem Value) (r : V → Hp → VK → Prop) : Prop :=
  ∀ (pins : List (Addr × Obj)) (s : Shared) (σ : St) (H : Hp) (x : V) (v : Value) (Q : VK), Inv X pins σ H s → RelV x v → r x H Q →
    wpAny (model X.prog X.w) X.A (f v) (EP X pins σ Q) X.xe s
noncomputable def CallR (X : Cx) (f : Value) (r : List V → Hp → VK → Prop) : Prop :=
  ∀ (pins : List (Addr × Obj)) (s : Shared) (σ : St) (H : Hp) (xs : List V) (us : List Value) (Q : VK), Inv X pins σ H s → Vals xs us → r xs H Q →
    wpAny (model X.prog X.w) X.A (call f us) (EP X pins σ Q) X.xe s
noncomputable def tOp (r : R2) (ta tb : TE) : TE := fun σ H Q => ta σ H fun x H1 => tb σ H1 fun y H2 => r x y H2 Q
noncomputable def tUn (r : V → Hp → VK → Prop) (ta : TE) : TE := fun σ H Q => ta σ H fun x H1 => r x H1 Q
noncomputable def rI (C : Int → Int → Prop) (g : Int → Int → V) : R2 := fun x y H Q => ∃ i j, x = .int i ∧ y = .int j ∧ C i j ∧ Q (g i j) H
noncomputable def rI0 (g : Int → Int → V) : R2 := fun x y H Q => ∃ i j, x = .int i ∧ y = .int j ∧ Q (g i j) H
noncomputable def rU (g : Int → V) : V → Hp → VK → Prop := fun x H Q => ∃ i, x = .int i ∧ Q (g i) H

section
variable {X : Cx} {a b c : Expr} {ta tb tc : TE} {pos : Pos}

theorem binT (ha : PE X a ta) (hb : PE X b tb) {pins : List (Addr × Obj)} {s : Shared} {σ : St} {H : Hp} {R : V → V → Hp → Prop} (I : Inv X pins σ H s)
    (h : ta σ H fun x H1 => tb σ H1 fun y H2 => R x y H2) {Q : Value → Shared → Prop} {f : Value → Value → Sem Value}
    (hf : ∀ v u s2 x y H2, Inv X pins σ H2 s2 → RelV x v → RelV y u → R x y H2 → wpAny (model X.prog X.w) X.A (f v u) Q X.xe s2) :
    wpAny (model X.prog X.w) X.A (eval a X.env) (fun v s₁ => wpAny (model X.prog X.w) X.A (eval b X.env) (fun u s₂ => wpAny (model X.prog X.w) X.A (f v u) Q X.xe s₂) X.xe s₁) X.xe s := by
  refine thn (ha pins s σ H _ I h) fun v s1 ⟨x, H1, I1, r1, q1⟩ => ?_
  refine thn (hb pins s1 σ H1 _ I1 q1) fun u s2 ⟨y, H2, I2, r2, q2⟩ => ?_
  exact hf v u s2 x y H2 I2 r1 r2 q2

theorem pe_op {op : Operator} {r : R2} (ho : OpR X (binaryOp op) r) (ha : PE X a ta) (hb : PE X b tb) : PE X (.BinOp a op b pos) (tOp r ta tb) := by
  intro pins s σ H Q I h
  exact wpAny_BinOp (binT ha hb I h fun v u s2 x y H2 I2 rx ry q => ho pins s2 σ H2 x y v u Q I2 rx ry q)
theorem pe_un {op : UnaryOp} {r : V → Hp → VK → Prop} (ho : UnR X (unaryOp op) r) (ha : PE X a ta) : PE X (.UnaryOp op a pos) (tUn r ta) := by
  intro pins s σ H Q I h
  exact UnaryOp_ (thn (ha pins s σ H _ I h) fun v s1 ⟨x, H1, I1, r1, q1⟩ => ho pins s1 σ H1 x v Q I1 r1 q1)
theorem opI {f : Value → Value → Sem Value} {C : Int → Int → Prop} {g : Int → Int → Int}
    (rule : ∀ (i j : Int) (t u : Tok) (s : Shared) (Q : Value → Shared → Prop) (E : Value → Shared → Prop), C i j → Q (.int (g i j) s.toks) { s with toks := s.toks + 1 } → wpAny (model X.prog X.w) X.A (f (.int i t) (.int j u)) Q E s) :
    OpR X f (rI C fun i j => .int (g i j)) := by
  intro pins s σ H x y v u Q I rx ry h
  obtain ⟨i, j, rfl, rfl, hc, q⟩ := h
  obtain ⟨t, rfl⟩ := rx
  obtain ⟨t', rfl⟩ := ry
  exact rule i j t t' s _ _ hc ⟨.int (g i j), H, I.tok _, ⟨_, rfl⟩, q⟩
theorem opI0 {f : Value → Value → Sem Value} {g : Int → Int → Int}
    (rule : ∀ (i j : Int) (t u : Tok) (s : Shared) (Q : Value → Shared → Prop) (E : Value → Shared → Prop), Q (.int (g i j) s.toks) { s with toks := s.toks + 1 } → wpAny (model X.prog X.w) X.A (f (.int i t) (.int j u)) Q E s) :
    OpR X f (rI0 fun i j => .int (g i j)) := by
  intro pins s σ H x y v u Q I rx ry h
  obtain ⟨i, j, rfl, rfl, q⟩ := h
  obtain ⟨t, rfl⟩ := rx
  obtain ⟨t', rfl⟩ := ry
  exact rule i j t t' s _ _ ⟨.int (g i j), H, I.tok _, ⟨_, rfl⟩, q⟩
theorem opB0 {f : Value → Value → Sem Value} {g : Int → Int → Bool}
    (rule : ∀ (i j : Int) (t u : Tok) (s : Shared) (Q : Value → Shared → Prop) (E : Value → Shared → Prop), Q (.bool (g i j)) s → wpAny (model X.prog X.w) X.A (f (.int i t) (.int j u)) Q E s) :
    OpR X f (rI0 fun i j => .bl (g i j)) := by
  intro pins s σ H x y v u Q I rx ry h
  obtain ⟨i, j, rfl, rfl, q⟩ := h
  obtain ⟨t, rfl⟩ := rx
  obtain ⟨t', rfl⟩ := ry
  exact rule i j t t' s _ _ ⟨.bl (g i j), H, I, rfl, q⟩

noncomputable def CDiv (i j : Int) : Prop := 0 < j ∧ j < 1073741824
noncomputable def CPow (i j : Int) : Prop := 0 ≤ j ∧ j ≤ 1000000 ∧ i.natAbs < 2 ^ 64
noncomputable def CMul (i j : Int) : Prop := (-(2 ^ 64) < i ∧ i < 2 ^ 64) ∨ (-(2 ^ 64) < j ∧ j < 2 ^ 64)
theorem CMul.ok {i j : Int} (h : CMul i j) : IntMulOk i j := by
  rcases h with ⟨h1, h2⟩ | ⟨h1, h2⟩
  · exact .of_left (intBits_le_64 h1 h2)
  · exact .of_right (intBits_le_64 h1 h2)
theorem op_add : OpR X (binaryOp .Add) (rI0 fun i j => .int (i + j)) := opI0 fun _ _ _ _ _ _ _ q => add_int q
theorem op_sub : OpR X (binaryOp .Sub) (rI0 fun i j => .int (i - j)) := opI0 fun _ _ _ _ _ _ _ q => sub_int q
theorem op_mul : OpR X (binaryOp .Mult) (rI CMul fun i j => .int (i * j)) := opI fun _ _ _ _ _ _ _ hc q => mul_int q hc.ok
theorem op_mod : OpR X (binaryOp .Mod) (rI (fun _ j => 0 < j) fun i j => .int (i % j)) := opI fun i j _ _ _ _ _ hc q => by
  have h1 : (0 : Int) < j := hc
  exact mod_int' (by omega) (by rw [Int.fmod_eq_emod_of_nonneg i (by omega)]; exact q)
theorem op_pow : OpR X (binaryOp .Pow) (rI CPow fun i j => .int (i ^ j.toNat)) := opI fun _ _ _ _ _ _ _ hc q => pow_int_small hc.1 hc.2.1 hc.2.2 q
theorem iop_add : OpR X (inplaceOp .Add) (rI0 fun i j => .int (i + j)) := opI0 fun _ _ _ _ _ _ _ q => iadd_int q
theorem unI {f : Value → Sem Value} {g : Int → Int}
    (rule : ∀ (i : Int) (t : Tok) (s : Shared) (Q : Value → Shared → Prop) (E : Value → Shared → Prop), Q (.int (g i) s.toks) { s with toks := s.toks + 1 } → wpAny (model X.prog X.w) X.A (f (.int i t)) Q E s) :
    UnR X f (rU fun i => .int (g i)) := by
  intro pins s σ H x v Q I rx h
  obtain ⟨i, rfl, q⟩ := h
  obtain ⟨t, rfl⟩ := rx
  exact rule i t s _ _ ⟨.int (g i), H, I.tok _, ⟨_, rfl⟩, q⟩
theorem un_neg : UnR X (unaryOp .USub) (rU fun i => .int (-i)) := unI fun _ _ _ _ _ q => neg_int q
end

noncomputable def scal : V → V → Bool
  | .non, .non => true | .non, .int _ => true | .int _, .non => true | .non, .bl _ => true | .bl _, .non => true | .non, .str _ => true | .str _, .non => true
  | .int _, .int _ => true | .bl _, .bl _ => true | .str _, .str _ => true | .byt _, .byt _ => true
  | .int _, .str _ => true | .str _, .int _ => true | .bl _, .str _ => true | .str _, .bl _ => true
  | _, _ => false
noncomputable def rEq : R2 := fun x y H Q => scal x y = true ∧ Q (.bl (decide (x = y))) H
noncomputable def rNe : R2 := fun x y H Q => scal x y = true ∧ Q (.bl (!decide (x = y))) H

theorem dec_int {i j : Int} : decide (V.int i = V.int j) = (i == j) := by
  rw [Bool.eq_iff_iff]
  simp
theorem dec_bl {i j : Bool} : decide (V.bl i = V.bl j) = (i == j) := by
  rw [Bool.eq_iff_iff]
  simp
theorem dec_str {i j : Str} : decide (V.str i = V.str j) = (i == j) := by
  rw [Bool.eq_iff_iff]
  simp
theorem dec_byt {i j : Array UInt8} : decide (V.byt i = V.byt j) = (i.toList == j.toList) := by
  rw [Bool.eq_iff_iff]
  cases i
  cases j
  simp

section
variable {X : Cx} {a b c : Expr} {ta tb tc : TE} {pos : Pos}
theorem fin_bl {pins : List (Addr × Obj)} {σ : St} {H : Hp} {s : Shared} {Q : VK} {k k' : Bool} (I : Inv X pins σ H s) (q : Q (.bl k) H) (e : k = k') : EP X pins σ Q (.bool k') s := by
  subst e
  exact ⟨.bl k, H, I, rfl, q⟩
theorem op_eq : OpR X (compareOp .Eq) rEq := by
  intro pins s σ H x y v u Q I rx ry h
  obtain ⟨hs, q⟩ := h
  cases x with
  | non =>
    cases rx
    cases y with
    | non => cases ry; exact PySem.EqNone.eq_none_none (fin_bl I q (by simp))
    | bl j => cases ry; exact PySem.EqNone.eq_none_bool (fin_bl I q (by simp))
    | int j => obtain ⟨t', rfl⟩ := ry; exact PySem.EqNone.eq_none_int (fin_bl I q (by simp))
    | str j => obtain ⟨t', rfl⟩ := ry; exact PySem.EqNone.eq_none_str (fin_bl I q (by simp))
    | _ => exact absurd (show false = true from hs) Bool.false_ne_true
  | bl i =>
    cases rx
    cases y with
    | non => cases ry; exact PySem.EqNone.eq_bool_none (fin_bl I q (by simp))
    | bl j => cases ry; exact eq_bool (fin_bl I q dec_bl)
    | str j => obtain ⟨t', rfl⟩ := ry; exact PySem.EqMixed.eq_bool_str (fin_bl I q (by simp))
    | _ => exact absurd (show false = true from hs) Bool.false_ne_true
  | int i =>
    obtain ⟨t, rfl⟩ := rx
    cases y with
    | non => cases ry; exact PySem.EqNone.eq_int_none (fin_bl I q (by simp))
    | int j => obtain ⟨t', rfl⟩ := ry; exact eq_int (fin_bl I q dec_int)
    | str j => obtain ⟨t', rfl⟩ := ry; exact PySem.EqMixed.eq_int_str (fin_bl I q (by simp))
    | _ => exact absurd (show false = true from hs) Bool.false_ne_true
  | str i =>
    obtain ⟨t, rfl⟩ := rx
    cases y with
    | non => cases ry; exact PySem.EqNone.eq_str_none (fin_bl I q (by simp))
    | bl j => cases ry; exact PySem.EqMixed.eq_str_bool (fin_bl I q (by simp))
    | int j => obtain ⟨t', rfl⟩ := ry; exact PySem.EqMixed.eq_str_int (fin_bl I q (by simp))
    | str j => obtain ⟨t', rfl⟩ := ry; exact eq_str (fin_bl I q dec_str)
    | _ => exact absurd (show false = true from hs) Bool.false_ne_true
  | byt i =>
    obtain ⟨t, rfl⟩ := rx
    cases y with
    | byt j => obtain ⟨t', rfl⟩ := ry; exact PySem.W.eq_bytes (fin_bl I q dec_byt)
    | _ => exact absurd (show false = true from hs) Bool.false_ne_true
  | _ => cases y <;> exact absurd (show false = true from hs) Bool.false_ne_true
theorem op_ne : OpR X (compareOp .NotEq) rNe := by
  intro pins s σ H x y v u Q I rx ry h
  obtain ⟨hs, q⟩ := h
  cases x with
  | non =>
    cases rx
    cases y with
    | non => cases ry; exact PySem.EqNone.ne_none_none (fin_bl I q (by simp))
    | bl j => cases ry; exact PySem.EqNone.ne_none_bool (fin_bl I q (by simp))
    | int j => obtain ⟨t', rfl⟩ := ry; exact PySem.EqNone.ne_none_int (fin_bl I q (by simp))
    | str j => obtain ⟨t', rfl⟩ := ry; exact PySem.EqNone.ne_none_str (fin_bl I q (by simp))
    | _ => exact absurd (show false = true from hs) Bool.false_ne_true
  | bl i =>
    cases rx
    cases y with
    | non => cases ry; exact PySem.EqNone.ne_bool_none (fin_bl I q (by simp))
    | bl j => cases ry; exact ne_bool (fin_bl I q (congrArg not dec_bl))
    | str j => obtain ⟨t', rfl⟩ := ry; exact PySem.EqMixed.ne_bool_str (fin_bl I q (by simp))
    | _ => exact absurd (show false = true from hs) Bool.false_ne_true
  | int i =>
    obtain ⟨t, rfl⟩ := rx
    cases y with
    | non => cases ry; exact PySem.EqNone.ne_int_none (fin_bl I q (by simp))
    | int j => obtain ⟨t', rfl⟩ := ry; exact ne_int (fin_bl I q (congrArg not dec_int))
    | str j => obtain ⟨t', rfl⟩ := ry; exact PySem.EqMixed.ne_int_str (fin_bl I q (by simp))
    | _ => exact absurd (show false = true from hs) Bool.false_ne_true
  | str i =>
    obtain ⟨t, rfl⟩ := rx
    cases y with
    | non => cases ry; exact PySem.EqNone.ne_str_none (fin_bl I q (by simp))
    | bl j => cases ry; exact PySem.EqMixed.ne_str_bool (fin_bl I q (by simp))
    | int j => obtain ⟨t', rfl⟩ := ry; exact PySem.EqMixed.ne_str_int (fin_bl I q (by simp))
    | str j => obtain ⟨t', rfl⟩ := ry; exact ne_str (fin_bl I q (congrArg not dec_str))
    | _ => exact absurd (show false = true from hs) Bool.false_ne_true
  | byt i =>
    obtain ⟨t, rfl⟩ := rx
    cases y with
    | byt j => obtain ⟨t', rfl⟩ := ry; exact PySem.W.ne_bytes (fin_bl I q (congrArg not dec_byt))
    | _ => exact absurd (show false = true from hs) Bool.false_ne_true
  | _ => cases y <;> exact absurd (show false = true from hs) Bool.false_ne_true

theorem op_lt : OpR X (compareOp .Lt) (rI0 fun i j => .bl (decide (i < j))) := opB0 fun _ _ _ _ _ _ _ q => lt_int q
theorem op_le : OpR X (compareOp .LtE) (rI0 fun i j => .bl (decide (i ≤ j))) := opB0 fun _ _ _ _ _ _ _ q => le_int q
theorem op_gt : OpR X (compareOp .Gt) (rI0 fun i j => .bl (decide (j < i))) := opB0 fun _ _ _ _ _ _ _ q => gt_int q
theorem op_ge : OpR X (compareOp .GtE) (rI0 fun i j => .bl (decide (j ≤ i))) := opB0 fun _ _ _ _ _ _ _ q => ge_int q
theorem op_isN : OpR X (compareOp .Is) (fun x y H Q => y = .non ∧ Q (.bl (decide (x = .non))) H) := by
  intro pins s σ H x y v u Q I rx ry h
  obtain ⟨rfl, q⟩ := h
  cases ry
  refine is_none_gen (fin_bl I q ?_)
  cases x <;> first
    | (cases rx; rfl)
    | (obtain ⟨t, rfl⟩ := rx; rfl)
theorem op_notN : OpR X (compareOp .IsNot) (fun x y H Q => y = .non ∧ Q (.bl (!decide (x = .non))) H) := by
  intro pins s σ H x y v u Q I rx ry h
  obtain ⟨rfl, q⟩ := h
  cases ry
  refine isnot_none_gen (fin_bl I q ?_)
  cases x <;> first
    | (cases rx; rfl)
    | (obtain ⟨t, rfl⟩ := rx; rfl)

theorem nomark (b : Expr) {op : CmpOp} (h : op ≠ .In := by decide) (h2 : op ≠ .NotIn := by decide) : behindInMarks op b = false := by
  have e1 : (op == CmpOp.In) = false := by cases op <;> first | rfl | exact absurd rfl h
  have e2 : (op == CmpOp.NotIn) = false := by cases op <;> first | rfl | exact absurd rfl h2
  cases b <;> simp [behindInMarks, e1, e2]
theorem pe_cmpR {op : CmpOp} {r : R2} (ho : OpR X (compareOp op) r) (ha : PE X a ta) (hb : PE X b tb) (hm : behindInMarks op b = false) : PE X (.Compare a [op] [b] pos) (tOp r ta tb) := by
  intro pins s σ H Q I h
  exact wpAny_Compare1 (binT ha hb I h fun v u s2 x y H2 I2 rx ry q => ho pins s2 σ H2 x y v u Q I2 rx ry q) hm
noncomputable def tTest (t : TE) : TT := fun σ H Q => t σ H fun x H' => ∃ k, x = .bl k ∧ Q k H'
theorem pt_cmpR {op : CmpOp} {r : R2} (ho : OpR X (compareOp op) r) (ha : PE X a ta) (hb : PE X b tb) (hm : behindInMarks op b = false) : PT X (.Compare a [op] [b] pos) (tTest (tOp r ta tb)) := by
  intro pins s σ H Q I h
  refine wpAny_isTrue_Compare1 (thn (ha pins s σ H _ I h) fun v s1 ⟨x, H1, I1, r1, q1⟩ => thn (hb pins s1 σ H1 _ I1 q1) fun u s2 ⟨y, H2, I2, r2, q2⟩ =>
    thn (ho pins s2 σ H2 x y v u _ I2 r1 r2 q2) fun c s3 ⟨z, H3, I3, r3, k, e, q3⟩ => ?_) hm
  subst e
  cases r3
  exact wpAny_truthy_bool ⟨H3, I3, q3⟩
noncomputable def tChain (r r' : R2) (ta tb tc : TE) : TE := fun σ H Q => ta σ H fun x H1 => tb σ H1 fun y H2 => r x y H2 fun z H3 => ∃ k, z = .bl k ∧
  (if k = true then tc σ H3 fun w' H4 => r' y w' H4 Q else Q (.bl false) H3)
noncomputable def TruV (K : PySem.W.Frag) (x : V) (H : Hp) (k : Bool) : Prop :=
  match x with
  | .non => k = false
  | .bl b => k = b
  | .int i => k = (i != 0)
  | .str y => y.length ≤ sizeLine ∧ k = ((y.length : Int) != 0)
  | .byt y => y.size ≤ sizeLine ∧ k = ((y.size : Int) != 0)
  | .ref p => (∃ xs, SqL K H p xs ∧ k = !xs.isEmpty) ∨ (∃ xs, SqT K H p xs ∧ k = !xs.isEmpty) ∨ ∃ kvs, H p = some (.dK kvs) ∧ k = !kvs.isEmpty
  | _ => False
theorem line63 : (sizeLine : Nat) < 2 ^ 63 := by rw [sizeLine_eq]; decide
theorem vals1 {x : V} {us : List Value} (r : Vals [x] us) : ∃ u, us = [u] ∧ RelV x u := by
  cases r with
  | cons r1 r2 => cases r2; exact ⟨_, rfl, r1⟩
theorem vals2 {x y : V} {us : List Value} (r : Vals [x, y] us) : ∃ u w', us = [u, w'] ∧ RelV x u ∧ RelV y w' := by
  cases r with
  | cons r1 r2 =>
    cases r2 with
    | cons r3 r4 => cases r4; exact ⟨_, _, rfl, r1, r3⟩
theorem call_abs : CallR X (.builtin "abs") (fun xs H Q => ∃ i, xs = [.int i] ∧ Q (.int (if i < 0 then -i else i)) H) := by
  intro pins s σ H xs us Q I r h
  obtain ⟨i, rfl, q⟩ := h
  obtain ⟨u, rfl, t, rfl⟩ := vals1 r
  exact call_abs_int fun u tk => ⟨.int (if i < 0 then -i else i), H, I.tok _, ⟨_, rfl⟩, q⟩
theorem call_min2 (hc : X.calm = true) : CallR X (.builtin "min") (fun xs H Q => ∃ i j, xs = [.int i, .int j] ∧ Q (.int (if j < i then j else i)) H) := by
  intro pins s σ H xs us Q I r h
  obtain ⟨i, j, rfl, q⟩ := h
  obtain ⟨u, w', rfl, ⟨t, rfl⟩, ⟨t', rfl⟩⟩ := vals2 r
  refine min_two_ints (I.ok.hd hc) fun h' tk k => ⟨_, H, I.kept k, ?_, q⟩
  by_cases hj : j < i
  · rw [if_pos hj, if_pos hj]; exact ⟨_, rfl⟩
  · rw [if_neg hj, if_neg hj]; exact ⟨_, rfl⟩
theorem call_int1 : CallR X (.type "int") (fun xs H Q => (∃ i, xs = [.int i] ∧ Q (.int i) H) ∨ ∃ k, xs = [.bl k] ∧ Q (.int (if k then 1 else 0)) H) := by
  intro pins s σ H xs us Q I r h
  rcases h with ⟨i, rfl, q⟩ | ⟨k, rfl, q⟩
  · obtain ⟨u, rfl, t, rfl⟩ := vals1 r
    exact call_int_int ⟨.int i, H, I, ⟨_, rfl⟩, q⟩
  · obtain ⟨u, rfl, r1⟩ := vals1 r
    cases r1
    exact call_int_bool ⟨.int (if k then 1 else 0), H, I.tok _, ⟨_, rfl⟩, q⟩
end
end L2

namespace L2
open PySem PySem.Spec PyProof.Rows

structure ObjM (h : Heap) (x dx C : Addr) (mA : Str → Option Value) : Prop where
  obj : h.get? x = some (PySem.W.instObj C dx)
  ns : h.Ns1 dx mA
  ne : dx ≠ x

theorem lookIn_ns {h : Heap} {dx : Addr} {mA : Str → Option Value} (n : h.Ns1 dx mA) : ∃ od, h.get? dx = some od ∧ ∀ name, PySem.W.lookIn name od = some (mA name) := by
  obtain ⟨o, es, ep, ho, hd, hk, _, hm⟩ := n
  refine ⟨o, ho, fun name => ?_⟩
  have e := hm name
  unfold nsFind findBy at e
  rw [← Array.find?_toList] at e
  unfold PySem.W.lookIn
  rw [hd]
  dsimp only
  split
  · rename_i y q
    rw [q] at e
    exact congrArg some e
  · rename_i q
    rw [q] at e
    have a : es.toList.any (·.refKey) = false := by
      rw [List.any_eq_false]
      intro y hy
      obtain ⟨z, t, hkey⟩ := hk y (Array.mem_toList_iff.mp hy)
      simp [DictEntry.refKey, hkey]
    have a' : ¬ es.toList.any (·.refKey) = true := by rw [a]; exact Bool.false_ne_true
    rw [if_neg a']
    exact congrArg some e

theorem ObjM.look {h : Heap} {x dx C : Addr} {mA : Str → Option Value} (I : ObjM h x dx C mA) : ∃ od, PySem.W.InstAt h x (PySem.W.instObj C dx) C (some od) ∧ ∀ name, PySem.W.lookIn name od = some (mA name) :=
  let ⟨od, ho, hl⟩ := lookIn_ns I.ns
  ⟨od, ⟨I.obj, rfl, rfl, ho⟩, hl⟩

section
variable {prog : Program} {w : World} {A : Around} {E : Value → Shared → Prop} {s : Shared} {K : PySem.W.Frag} {x dx C f : Addr} {mA : Str → Option Value} {name : Str} {v : Value}

theorem get_map {expr : Bool} {Q : Value → Shared → Prop} (X : K.In s.heap) (I : ObjM s.heap x dx C mA) (hg : PySem.W.plainGet K C name = true) (hh : PySem.W.hasDictIn K C = true)
    (ha : PySem.W.findIn K (.ref C) name = some none) (hv : mA name = some v) (hv' : PySem.W.handedIn v = true) (h : Q v { s with toks := s.toks + 1 }) :
    wpAny (model prog w) A (getAttr (.ref x) name expr) Q E s := by
  obtain ⟨od, J, hl⟩ := I.look
  exact PySem.W.get_value X J (PySem.W.plainGet_of hg).1 (PySem.W.findObj_own hh ha rfl (by rw [hl, hv])) hv' h

theorem get_meth {pl : Sem Bool} {Q : Value × List Value → Shared → Prop} (X : K.In s.heap) (I : ObjM s.heap x dx C mA) (hg : PySem.W.plainGet K C name = true)
    (hf : PySem.W.findIn K (.ref C) name = some (some (.ref f))) (ht : PySem.W.isFn K (.ref f) = true) (hv : mA name = none) (h : Q (.ref f, [.ref x]) s) :
    wpAny (model prog w) A (getMethod (.ref x) name pl) Q E s := by
  obtain ⟨od, J, hl⟩ := I.look
  exact PySem.W.method_fn X J (PySem.W.plainGet_of hg).1 (PySem.W.plainGet_of hg).2 hf (beq_iff_eq.mp ht) (by show (PySem.W.lookIn name od).map (·.isSome) = some false; rw [hl, hv]; rfl) h

theorem set_map {ns : List Str} {Q : Unit → Shared → Prop} (X : K.In s.heap) (I : ObjM s.heap x dx C mA)
    (hs : PySem.W.findIn K (.ref C) "__setattr__" = some (some (.builtin "object.__setattr__"))) (hp : PySem.W.plainOver K C = true) (ht : PySem.W.takerIn K C name = some none) (hh : PySem.W.hasDictIn K C = true)
    (hw : PySem.Within mA ns) (hsz : ns.length ≤ sizeLine)
    (h : ∀ h', ObjM h' x dx C (fun y => if y = name then some v else mA y) → Heap.SameBut dx s.heap h' → Q () { s with heap := h', toks := s.toks + 2 }) :
    wpAny (model prog w) A (setAttr (.ref x) name v) Q E s := by
  obtain ⟨od, J, hl⟩ := I.look
  refine PySem.W.set_plain X J hs (PySem.W.osa_open (s := { s with toks := s.toks + 1 }) (r := none) X J hp ht fun b => ?_)
  obtain ⟨cd, hc, hd'⟩ := PySem.W.any_some hh
  have hx : s.heap.get? x = some ⟨.ref C, some dx, .plain, #[]⟩ := I.obj
  refine wpAny_bind (wpAny_pure (wpAny_bind (wpAny_bind (wpAny_loadPart hx (wpAny_bind (PySem.W.Looks.here (s := { s with toks := s.toks + 1 }) (PySem.W.looks_clsIn X hc) ?_))))))
  rw [hd']
  refine wpAny_pure (a := some dx) (wpAny_bind (wpAny_pure (wpAny_bind ?_)))
  refine wpAny_nsSet1 (s := { s with toks := s.toks + 1 }) I.ns fun h' hn2 hs2 => ?_
  obtain ⟨oD, esD, epD, hoD, hdD, hcD⟩ := hn2.count (PySem.Within.cons name v hw)
  refine wpAny_bind (wpAny_lookBehind hoD (by rw [hdD]; exact pastItsLine_dict (Nat.le_trans hcD (by rw [List.length_cons]; omega))) ?_)
  exact wpAny_pure (h _ ⟨(hs2.2 _ (Ne.symm I.ne)).trans I.obj, hn2, I.ne⟩ hs2)

theorem make_map {R : Result → Shared → Prop} {vs : List Value} {kw : List (Str × Value)} (X : K.In s.heap) (hm : PySem.W.makesIn K C = true)
    (hi : PySem.W.findIn K (.ref C) "__init__" = some (some (.ref f))) (hf : PySem.W.typeIn K (.ref f) = some (.type "function"))
    (h : codeAny (model prog w) (A.under (.builtin "type.__call__" ⟨.ref C :: vs, kw⟩)) (.call (.ref f) ⟨.ref (s.heap.objs.size + 1) :: vs, kw⟩) (PySem.W.InitBack (s.heap.objs.size + 1) R)
      { s with heap := (s.heap.push PySem.W.emptyDict).push (PySem.W.instObj C s.heap.objs.size) }) :
    codeAny (model prog w) A (.call (.ref C) ⟨vs, kw⟩) R s := by
  obtain ⟨hh, g, d, t, os⟩ := s
  exact PySem.W.make_core (PySem.W.makes_of X hm) (PySem.W.looks_findIn X hi) (fun self => PySem.W.bind_fn X self hf) (.inl rfl) h
end

noncomputable def putF (f : Str) (v : V) : List (Str × V) → List (Str × V)
  | [] => [(f, v)]
  | (g, x) :: r => if g = f then (g, v) :: r else (g, x) :: putF f v r
theorem lookup_putF (f g : Str) (v : V) : ∀ fs : List (Str × V), (putF f v fs).lookup g = if g = f then some v else fs.lookup g
  | [] => by
    show List.lookup g [(f, v)] = _
    by_cases h : g = f
    · have hb : (g == f) = true := beq_iff_eq.mpr h
      simp only [List.lookup, hb, if_pos h]
    · have hb : (g == f) = false := beq_eq_false_iff_ne.mpr h
      simp only [List.lookup, hb, if_neg h]
  | (k, x) :: r => by
    have ih := lookup_putF f g v r
    rw [show putF f v ((k, x) :: r) = (if k = f then (k, v) :: r else (k, x) :: putF f v r) from rfl]
    by_cases hk : k = f
    · rw [if_pos hk]
      by_cases h : g = k
      · have hb : (g == k) = true := beq_iff_eq.mpr h
        simp only [List.lookup, hb, if_pos (h.trans hk)]
      · have hb : (g == k) = false := beq_eq_false_iff_ne.mpr h
        simp only [List.lookup, hb, if_neg (fun e : g = f => h (e.trans hk.symm))]
    · rw [if_neg hk]
      by_cases h : g = k
      · have hb : (g == k) = true := beq_iff_eq.mpr h
        simp only [List.lookup, hb, if_neg (fun e : g = f => hk (h.symm.trans e))]
      · have hb : (g == k) = false := beq_eq_false_iff_ne.mpr h
        simp only [List.lookup, hb]
        exact ih
theorem keys_putF (f : Str) (v : V) : ∀ fs : List (Str × V), f ∈ (putF f v fs).map (·.1) ∧ ∀ g, g ∈ fs.map (·.1) → g ∈ (putF f v fs).map (·.1)
  | [] => ⟨by simp [putF], fun g h => by simp at h⟩
  | (k, x) :: r => by
    obtain ⟨i1, i2⟩ := keys_putF f v r
    rw [show putF f v ((k, x) :: r) = (if k = f then (k, v) :: r else (k, x) :: putF f v r) from rfl]
    by_cases hk : k = f
    · rw [if_pos hk]
      subst hk
      exact ⟨by simp, fun g h => by simpa using h⟩
    · rw [if_neg hk]
      refine ⟨?_, fun g h => ?_⟩
      · rw [List.map_cons]
        exact List.mem_cons_of_mem _ i1
      · rw [List.map_cons] at h ⊢
        rcases List.mem_cons.mp h with e | e
        · exact List.mem_cons.mpr (.inl e)
        · exact List.mem_cons_of_mem _ (i2 g e)
theorem length_putF (f : Str) (v : V) : ∀ fs : List (Str × V), (putF f v fs).length ≤ fs.length + 1
  | [] => by simp [putF]
  | (k, x) :: r => by
    have ih := length_putF f v r
    rw [show putF f v ((k, x) :: r) = (if k = f then (k, v) :: r else (k, x) :: putF f v r) from rfl]
    by_cases hk : k = f
    · rw [if_pos hk, List.length_cons, List.length_cons]; omega
    · rw [if_neg hk, List.length_cons, List.length_cons]; omega

theorem RelO.some_of {v : V} {o : Option Value} (r : RelO (some v) o) : ∃ u, o = some u ∧ RelV v u := by
  cases o with
  | none => exact (show False from r).elim
  | some u => exact ⟨u, rfl, r⟩
theorem RelO.none_of {o : Option Value} (r : RelO none o) : o = none := by
  cases o with
  | none => rfl
  | some u => exact (show False from r).elim
theorem handed_of {v : V} {u : Value} (r : RelV v u) : PySem.W.handedIn u = true := by
  cases v with
  | non => cases (show u = Value.none from r); rfl
  | bl b => cases (show u = Value.bool b from r); rfl
  | int i => obtain ⟨t, e⟩ := (show ∃ t, u = Value.int i t from r); cases e; rfl
  | str x => obtain ⟨t, e⟩ := (show ∃ t, u = Value.str x t from r); cases e; rfl
  | byt b => obtain ⟨t, e⟩ := (show ∃ t, u = Value.bytes b t from r); cases e; rfl
  | flt b => obtain ⟨t, e⟩ := (show ∃ t, u = Value.float b t from r); cases e; rfl
  | ref a => cases (show u = Value.ref a from r); rfl
  | ty n => cases (show u = Value.type n from r); rfl

section
variable {P : Program} {w : World} {H H' : Hp} {h h' : Heap} {a C dx : Addr} {fs fs' : List (Str × V)}
theorem ins_get (hok : HOk P w H h) (e : H a = some (.ins C dx fs)) : ∃ mA, ObjM h a dx C mA ∧ (∀ f, RelO (fs.lookup f) (mA f)) ∧ PySem.Within mA (fs.map (·.1)) ∧ fs.length ≤ 1000 ∧ H dx = some (.own a) := by
  obtain ⟨d, z, ne, ob, mA, n, r, q⟩ := (show ObjOk P w H h a (.ins C dx fs) from hok a _ e)
  exact ⟨mA, ⟨ob, n, ne⟩, r, q, z, d⟩
end

structure Cls (K : PySem.W.Frag) (C : Addr) : Prop where
  pg : PySem.W.plainGet K C Str.empty = true
  hd : PySem.W.hasDictIn K C = true
  po : PySem.W.plainOver K C = true
  sa : PySem.W.findIn K (.ref C) "__setattr__" = some (some (.builtin "object.__setattr__"))
theorem Cls.get {K : PySem.W.Frag} {C : Addr} (c : Cls K C) (f : Str) : PySem.W.plainGet K C f = true := c.pg
noncomputable def NoAttr (K : PySem.W.Frag) (C : Addr) (f : Str) : Prop := PySem.W.findIn K (.ref C) f = some none
theorem NoAttr.taker {K : PySem.W.Frag} {C : Addr} {f : Str} (n : NoAttr K C f) : PySem.W.takerIn K C f = some none := by
  unfold PySem.W.takerIn
  rw [show PySem.W.findIn K (.ref C) f = some none from n]
  rfl
structure Meth (K : PySem.W.Frag) (C : Addr) (m : Str) (f : Addr) : Prop where
  at_ : PySem.W.findIn K (.ref C) m = some (some (.ref f))
  fn : PySem.W.isFn K (.ref f) = true
  kp : PySem.W.keepIn K (.ref f) = true

section
variable {X : Cx} {pins : List (Addr × Obj)} {σ : St} {H : Hp} {s : Shared} {a C dx : Addr} {fs : List (Str × V)} {f : Str} {v : V} {A : Around} {E : Value → Shared → Prop}

theorem getattr_ok {b : Bool} {Q : Value → Shared → Prop} (I : Inv X pins σ H s) (e : H a = some (.ins C dx fs)) (c : Cls X.K C) (n : NoAttr X.K C f) (l : fs.lookup f = some v)
    (h : ∀ u s', Inv X pins σ H s' → RelV v u → Q u s') : wpAny (model X.prog X.w) A (getAttr (.ref a) f b) Q E s := by
  obtain ⟨mA, O, r, _, _, _⟩ := ins_get I.hok e
  obtain ⟨u, hu, ru⟩ := RelO.some_of (v := v) (o := mA f) (by rw [← l]; exact r f)
  exact get_map I.kIn O (c.get f) c.hd n hu (handed_of ru) (h u _ (I.tok _) ru)

theorem getmeth_ok {m : Str} {g : Addr} {pl : Sem Bool} {Q : Value × List Value → Shared → Prop} (I : Inv X pins σ H s) (e : H a = some (.ins C dx fs)) (c : Cls X.K C) (k : Meth X.K C m g) (l : fs.lookup m = none)
    (h : Q (.ref g, [.ref a]) s) : wpAny (model X.prog X.w) A (getMethod (.ref a) m pl) Q E s := by
  obtain ⟨mA, O, r, _, _, _⟩ := ins_get I.hok e
  have hn : mA m = none := RelO.none_of (by rw [← l]; exact r m)
  exact get_meth I.kIn O (c.get m) k.at_ k.fn hn h

theorem setattr_ok {y : V} {u : Value} {Q : Unit → Shared → Prop} (I : Inv X pins σ H s) (e : H a = some (.ins C dx fs)) (c : Cls X.K C) (n : NoAttr X.K C f) (hl : fs.length < 1000) (ry : RelV y u)
    (h : ∀ s', Inv X pins σ (upd H a (.ins C dx (putF f y fs))) s' → Q () s') : wpAny (model X.prog X.w) A (setAttr (.ref a) f u) Q E s := by
  obtain ⟨mA, O, r, wi, _, ho⟩ := ins_get I.hok e
  have hz : (fs.map (·.1)).length ≤ sizeLine := by rw [List.length_map, sizeLine_eq]; omega
  refine set_map I.kIn O c.sa c.po n.taker c.hd wi hz fun h' O' sb => h _ ?_
  have hd : ∃ o, h'.get? dx = some o := let ⟨o, _, _, e', _⟩ := O'.ns; ⟨o, e'⟩
  refine I.write (x := a) (e := dx) (by rw [e]; exact True.intro) (.inr ho) (fun b q hb z => (sb.2 b hb).trans z) hd ?_
  refine ⟨by rw [upd_ne O.ne]; exact ho, ?_, O.ne, O'.obj, _, O'.ns, fun g => ?_, fun g hg => ?_⟩
  · have := length_putF f y fs; omega
  · show RelO ((putF f y fs).lookup g) (if g = f then some u else mA g)
    rw [lookup_putF]
    by_cases q : g = f
    · rw [if_pos q, if_pos q]; exact ry
    · rw [if_neg q, if_neg q]; exact r g
  · by_cases q : g = f
    · rw [q]; exact (keys_putF f y fs).1
    · refine (keys_putF f y fs).2 g (wi g fun z => hg ?_)
      show (if g = f then some u else mA g) = none
      rw [if_neg q]; exact z

theorem Inv.made (I : Inv X pins σ H s) : Inv X pins σ (upd (upd H s.heap.objs.size (.own (s.heap.objs.size + 1))) (s.heap.objs.size + 1) (.ins C s.heap.objs.size []))
    { s with heap := (s.heap.push PySem.W.emptyDict).push (PySem.W.instObj C s.heap.objs.size) } := by
  have e1 : (s.heap.push PySem.W.emptyDict).get? s.heap.objs.size = some PySem.W.emptyDict := Heap.get?_push_size s.heap rfl
  have e2 : ((s.heap.push PySem.W.emptyDict).push (PySem.W.instObj C s.heap.objs.size)).get? (s.heap.objs.size + 1) = some (PySem.W.instObj C s.heap.objs.size) := by
    have := Heap.get?_push_size (s.heap.push PySem.W.emptyDict) (o := PySem.W.instObj C s.heap.objs.size) rfl
    rwa [Heap.size_push] at this
  have e3 : (s.heap.push PySem.W.emptyDict).Ns s.heap.objs.size (fun _ => none) := ⟨PySem.W.emptyDict, #[], _, e1, rfl, (fun e he => absurd he (by simp)), fun _ => rfl⟩
  have I1 := I.laid (a := s.heap.objs.size) (o := .own (s.heap.objs.size + 1)) (h' := s.heap.push PySem.W.emptyDict) (t' := s.toks) (fun b u q => Heap.get?_push_of_some _ q) (Nat.le_refl _) ⟨_, e1⟩
  refine I1.laid (a := s.heap.objs.size + 1) (o := .ins C s.heap.objs.size []) (t' := s.toks) (fun b u q => Heap.get?_push_of_some _ q) (Nat.le_of_eq (Heap.size_push _ _)) ?_
  have ne : s.heap.objs.size ≠ s.heap.objs.size + 1 := Nat.ne_of_lt (Nat.lt_succ_self _)
  refine ⟨by rw [upd_ne ne, upd_same], Nat.zero_le _, ne, e2, fun _ => none, (Heap.Ns1.of_empty e3).at fun o q => Heap.get?_push_of_some _ q, fun _ => True.intro, fun y hy => absurd rfl hy⟩

theorem attr_of {prog : Program} {w : World} {env : Env} {e : Expr} {f : Str} {pos : Pos} {s : Shared} {Q : Value → Shared → Prop} (hb : attributeBase e f env (eval e env) = eval e env)
    (h : wpAny (model prog w) A (eval e env) (fun o s₁ => wpAny (model prog w) A (getAttr o f true) Q E s₁) E s) : wpAny (model prog w) A (eval (.Attribute e f pos) env) Q E s :=
  Attribute_any_ h (by rw [arm_eval_Attribute, hb])
end

noncomputable def tFld (K : PySem.W.Frag) (ta : TE) (f : Str) : TE := fun σ H Q => ta σ H fun x H1 => ∃ a C dx fs v, x = .ref a ∧ H1 a = some (.ins C dx fs) ∧ Cls K C ∧ NoAttr K C f ∧ fs.lookup f = some v ∧ Q v H1
noncomputable def sFld (K : PySem.W.Frag) (ta tv : TE) (f : Str) : TS := fun D σ H => tv σ H fun y H1 => ta σ H1 fun x H2 => ∃ a C dx fs, x = .ref a ∧ H2 a = some (.ins C dx fs) ∧ Cls K C ∧ NoAttr K C f ∧ fs.length < 1000 ∧
  D.nx σ (upd H2 a (.ins C dx (putF f y fs)))
noncomputable def InOp (X : Cx) (op : Operator) (rd : V → V → Hp → VK → Prop) : Prop :=
  ∀ (pins : List (Addr × Obj)) (s : Shared) (σ : St) (H : Hp) (x y : V) (u v : Value) (Q : VK), Inv X pins σ H s → RelV x u → RelV y v → rd x y H Q → wpAny (model X.prog X.w) X.A (inplaceOp op u v) (EP X pins σ Q) X.xe s
noncomputable def sFldAug (K : PySem.W.Frag) (ta tv : TE) (rd : V → V → Hp → VK → Prop) (f : Str) : TS := fun D σ H => ta σ H fun x H1 => ∃ a C dx fs v, x = .ref a ∧ H1 a = some (.ins C dx fs) ∧ Cls K C ∧ NoAttr K C f ∧ fs.lookup f = some v ∧
  tv σ H1 fun y H2 => rd v y H2 fun z H3 => ∃ dx' fs', H3 a = some (.ins C dx' fs') ∧ fs'.length < 1000 ∧ D.nx σ (upd H3 a (.ins C dx' (putF f z fs')))

section
variable {X : Cx} {o e value : Expr} {f : Str} {pos pos' tpos : Pos} {ta tv : TE}
theorem pe_fld (he : PE X e ta) (hb : attributeBase e f X.env (eval e X.env) = eval e X.env) : PE X (.Attribute e f pos) (tFld X.K ta f) := by
  intro pins s σ H Q I h
  refine attr_of hb (thn (he pins s σ H _ I h) fun u s1 ⟨x, H1, I1, rx, a, C, dx, fs, v, ex, ea, c, n, l, q⟩ => ?_)
  subst ex
  obtain rfl : u = Value.ref a := rx
  exact getattr_ok I1 ea c n l fun u' s2 I2 ru => ⟨v, H1, I2, ru, q⟩
theorem ps_fld (ha : PE X o ta) (hv : PE X value tv) (hs : swapsWith value (some (.Attribute o f pos')) pos.line X.env = pure false) : PS X (.Assign [.Attribute o f pos'] value pos) (sFld X.K ta tv f) := by
  intro pins s σ H D I h
  refine plainObj_wpAny_Assign_Attribute (thn (hv pins s σ H _ I h) fun u s1 ⟨y, H1, I1, ry, q⟩ => thn (ha pins s1 σ H1 _ I1 q) fun ov s2 ⟨x, H2, I2, rx, a, C, dx, fs, ex, ea, c, n, l, q2⟩ => ?_) hs
  subst ex
  obtain rfl : ov = Value.ref a := rx
  exact setattr_ok I2 ea c n l ry fun s3 I3 => ⟨σ, _, I3, q2⟩
theorem ps_fldaug {op : Operator} {rd : V → V → Hp → VK → Prop} (ha : PE X o ta) (hv : PE X value tv) (hop : InOp X op rd) : PS X (.AugAssign (.Attribute o f tpos) op value pos) (sFldAug X.K ta tv rd f) := by
  intro pins s σ H D I h
  refine wpAny_AugAssign_AttributeAny (thn (ha pins s σ H _ I h) fun ov s1 ⟨x, H1, I1, rx, a, C, dx, fs, v, ex, ea, c, n, l, q⟩ => ?_)
  subst ex
  obtain rfl : ov = Value.ref a := rx
  refine getattr_ok I1 ea c n l fun u s2 I2 ru => thn (hv pins s2 σ H1 _ I2 q) fun w3 s3 ⟨y, H2, I3, ry, q3⟩ => thn (hop pins s3 σ H2 v y u w3 _ I3 ru ry q3) fun w4 s4 ⟨z, H3, I4, rz, dx', fs', ea', l', q4⟩ => ?_
  exact setattr_ok I4 ea' c n l' rz fun s5 I5 => ⟨σ, _, I5, q4⟩
end

section
variable {X : Cx} {pins : List (Addr × Obj)} {σ : St} {H : Hp} {s : Shared} {A : Around} {E : Value → Shared → Prop} {Q : Value → Shared → Prop} {c : Value} {b : Bool}
inductive TyOf (K : PySem.W.Frag) (H : Hp) : V → Value → Prop where
  | non : TyOf K H .non (.type "NoneType")
  | bl (x : Bool) : TyOf K H (.bl x) (.type "bool")
  | int (i : Int) : TyOf K H (.int i) (.type "int")
  | str (x : Str) : TyOf K H (.str x) (.type "str")
  | flt (x : UInt64) : TyOf K H (.flt x) (.type "float")
  | lst {a : Addr} {xs : List V} (e : H a = some (.lst xs)) : TyOf K H (.ref a) (.type "list")
  | frz {a : Addr} {o : Obj} {xs : List V} (e : H a = some (.frz o (.lst xs))) : TyOf K H (.ref a) (.type "list")
  | tup {a : Addr} {xs : List V} (e : H a = some (.tup xs)) : TyOf K H (.ref a) (.type "tuple")
  | dK {a : Addr} {kvs : List (Key × V)} (e : H a = some (.dK kvs)) : TyOf K H (.ref a) (.type "dict")
  | dT {a : Addr} {kvs : List (List Key × V)} (e : H a = some (.dT kvs)) : TyOf K H (.ref a) (.type "dict")
  | ins {a C dx : Addr} {fs : List (Str × V)} (e : H a = some (.ins C dx fs)) (cl : Cls K C) (ha : PySem.W.findIn K (.ref C) "__class__" = some (some (.builtin "object.__class__")))
      (hn : PySem.W.specialIn K (.builtin "object.__class__") "__get__" = some (some (.builtin "getset_descriptor.__get__"))) (htk : PySem.W.takesIn K (.builtin "object.__class__") = some true)
      (hm : PySem.W.mroIn K C (.type "object") = some true) : TyOf K H (.ref a) (.ref C)
theorem isinst_ok {x : V} {u t : Value} (I : Inv X pins σ H s) (rx : RelV x u) (ty : TyOf X.K H x t) (e : PySem.W.kitOne X.K t c = some b) (h : ∀ tk, Q (.bool b) { s with toks := tk }) :
    wpAny (model X.prog X.w) A (call (.builtin "isinstance") [u, c]) Q E s := by
  cases ty with
  | non => cases (show u = Value.none from rx); exact PySem.W.kia_one PySem.W.kitx_none I.kIn True.intro e (fun z => nomatch z) h
  | bl y => cases (show u = Value.bool y from rx); exact PySem.W.kia_one PySem.W.kitx_bool I.kIn True.intro e (fun z => nomatch z) h
  | int i => obtain ⟨t, q⟩ := (show ∃ t, u = Value.int i t from rx); cases q; exact PySem.W.kia_one PySem.W.kitx_int I.kIn True.intro e (fun z => nomatch z) h
  | str y => obtain ⟨t, q⟩ := (show ∃ t, u = Value.str y t from rx); cases q; exact PySem.W.kia_one PySem.W.kitx_str I.kIn True.intro e (fun z => nomatch z) h
  | flt y => obtain ⟨t, q⟩ := (show ∃ t, u = Value.float y t from rx); cases q; exact PySem.W.kia_one PySem.W.kitx_float I.kIn True.intro e (fun z => nomatch z) h
  | @lst a xs ea =>
    cases (show u = Value.ref a from rx)
    obtain ⟨_, _, n, _, h1⟩ := (show ObjOk X.prog X.w H s.heap a (.lst xs) from I.hok a _ ea)
    exact PySem.W.kia_one PySem.W.kitx_list I.kIn ⟨_, h1, rfl⟩ e (fun z => nomatch z) h
  | @frz a ob xs ea =>
    cases (show u = Value.ref a from rx)
    obtain ⟨_, _, _, n, _, h1⟩ := (show ObjOk X.prog X.w H s.heap a (.frz ob (.lst xs)) from I.hok a _ ea)
    exact PySem.W.kia_one PySem.W.kitx_list I.kIn ⟨_, h1, rfl⟩ e (fun z => nomatch z) h
  | @tup a xs ea =>
    cases (show u = Value.ref a from rx)
    obtain ⟨_, _, _, p⟩ := (show ObjOk X.prog X.w H s.heap a (.tup xs) from I.hok a _ ea)
    obtain ⟨o, h1, h2, _⟩ := p
    exact PySem.W.kia_one PySem.W.kitx_tuple I.kIn ⟨o, h1, h2⟩ e (fun z => nomatch z) h
  | @dK a kvs ea =>
    cases (show u = Value.ref a from rx)
    obtain ⟨_, _, vs, _, p⟩ := (show ObjOk X.prog X.w H s.heap a (.dK kvs) from I.hok a _ ea)
    obtain ⟨o, es, ep, h1, h2, _⟩ := p
    exact PySem.W.kia_one PySem.W.kitx_dict I.kIn ⟨o, h1, h2.1⟩ e (fun z => nomatch z) h
  | @dT a kvs ea =>
    cases (show u = Value.ref a from rx)
    obtain ⟨_, _, xs, _, o, es, ep, h1, h2, _⟩ := (show ObjOk X.prog X.w H s.heap a (.dT kvs) from I.hok a _ ea)
    exact PySem.W.kia_one PySem.W.kitx_dict I.kIn ⟨o, h1, h2.1⟩ e (fun z => nomatch z) h
  | @ins a C dx fs ea cl ha hn htk hm =>
    cases (show u = Value.ref a from rx)
    obtain ⟨mA, O, _⟩ := ins_get I.hok ea
    obtain ⟨od, J, _⟩ := O.look
    exact PySem.W.kia_one (PySem.W.kitx_own (cl.get _) cl.hd ha hn htk hm) I.kIn J e (fun z => nomatch z) h
end
end L2

namespace L2
open PySem PySem.Spec PyProof.Rows

structure Room (k : Nat) (A : Around) : Prop where
  hd : A.handled = none
  dp : A.depth + 3 * k + 5 < recursionLimit
  un : A.units + 16 * k + 200 < cLine
  gd : A.guards = some []
theorem Room.mono {j k : Nat} {A : Around} (r : Room k A) (h : j ≤ k) : Room j A := ⟨r.hd, by have := r.dp; omega, by have := r.un; omega, r.gd⟩
theorem Room.deeper {k : Nat} {A : Around} (r : Room (k + 1) A) (env : Env) : Room k (A.deeper env) :=
  ⟨r.hd, by have := r.dp; show A.depth + 1 + 3 * k + 5 < _; omega, by have := r.un; show A.units + 3 + 16 * k + 200 < _; omega, r.gd⟩
theorem make_depth {A : Around} {C : Addr} {us : List Value} {kw : List (Str × Value)} : (A.under (.builtin "type.__call__" ⟨.ref C :: us, kw⟩)).depth = A.depth + 1 := by
  first | rfl | simp [Around.under, Code.weight, Code.isCreation, Code.isGuard, Code.isCaller, Code.frames, Code.isFrame, guardIds]
theorem make_units {A : Around} {C : Addr} {us : List Value} {kw : List (Str × Value)} : (A.under (.builtin "type.__call__" ⟨.ref C :: us, kw⟩)).units = A.units + 1 := by
  first | rfl | simp [Around.under, Code.cUnits, Code.frames, Code.isFrame]
theorem Room.make {k : Nat} {A : Around} (r : Room (k + 1) A) (C : Addr) (us : List Value) (kw : List (Str × Value)) : Room k (A.under (.builtin "type.__call__" ⟨.ref C :: us, kw⟩)) :=
  ⟨r.hd, by have := r.dp; rw [make_depth]; omega, by have := r.un; rw [make_units]; omega, by first | exact r.gd | (simp [Around.under, Code.guards, Code.isGuard, guardIds, pushGuards, r.gd])⟩
theorem Room.depth {k : Nat} {A : Around} (r : Room k A) : A.depth < recursionLimit := by have := r.dp; omega
theorem Room.units {k : Nat} {A : Around} (r : Room k A) : A.units + 64 < cLine := by have := r.un; omega
theorem Room.units0 {k : Nat} {A : Around} (r : Room k A) : A.units < cLine := by have := r.un; omega

noncomputable def tNil : TA := fun _ H Q => Q [] H
noncomputable def tCons (ta : TE) (tr : TA) : TA := fun σ H Q => ta σ H fun x H1 => tr σ H1 fun xs H2 => Q (x :: xs) H2
section
variable {X : Cx} {e : Expr} {es : List Expr} {te : TE} {t : TA} {pos : Pos}
theorem pa_nil : PA X [] tNil := fun _ _ _ _ H Q I h => Calls.spliced_nil ⟨[], H, I, .nil, h⟩
theorem pa_cons (ha : PE X e te) (hr : PA X es t) (hs : starEach (e :: es) X.env = (false, eval e X.env) :: starEach es X.env := by rfl) : PA X (e :: es) (tCons te t) := by
  intro pos pins s σ H Q I h
  rw [hs]
  show wpAny _ _ (spliced ((false, eval e X.env) :: backTo pos (starEach es X.env))) _ _ s
  refine Calls.spliced_cons (thn (ha pins s σ H _ I h) fun u s1 ⟨x, H1, I1, r1, q1⟩ => ?_)
  exact thn (hr pos pins s1 σ H1 _ I1 q1) fun us s2 ⟨xs, H2, I2, r2, q2⟩ => ⟨x :: xs, H2, I2, .cons r1 r2, q2⟩

noncomputable def tTup (t : TA) : TE := fun σ H Q => t σ H fun xs H1 => xs.length ≤ sizeLine ∧ ∀ p, H1 p = none → Q (.ref p) (upd H1 p (.tup xs))
noncomputable def tLst (t : TA) : TE := fun σ H Q => t σ H fun xs H1 => xs.length ≤ sizeLine ∧ ∀ p, H1 p = none → Q (.ref p) (upd H1 p (.lst xs))
theorem pe_tup {x1} (h : PA X es t) : PE X (.Tuple es x1 pos) (tTup t) := by
  intro pins s σ H Q I hq
  refine wpAny_Tuple_spliced (thn (h pos pins s σ H _ I hq) fun us s1 ⟨xs, H1, I1, r, z, q⟩ => ⟨by rw [← r.length]; exact z, ?_⟩)
  have hf : H1 s1.heap.objs.size = none := I1.hok.fresh (Nat.le_refl _)
  refine ⟨.ref s1.heap.objs.size, upd H1 s1.heap.objs.size (.tup xs), I1.laid (t' := s1.toks) (fun b u e => Heap.get?_push_of_some _ e) (Nat.le_refl _) ?_, rfl, q _ hf⟩
  exact ⟨z, us, r, ⟨_, Heap.get?_push_size _ rfl, rfl, _, rfl⟩⟩
theorem pe_lst (h : PA X es t) : PE X (.List es pos) (tLst t) := by
  intro pins s σ H Q I hq
  refine wpAny_List_spliced (thn (h pos pins s σ H _ I hq) fun us s1 ⟨xs, H1, I1, r, z, q⟩ => ⟨by rw [← r.length]; exact z, ?_⟩)
  have hf : H1 s1.heap.objs.size = none := I1.hok.fresh (Nat.le_refl _)
  refine ⟨.ref s1.heap.objs.size, upd H1 s1.heap.objs.size (.lst xs), I1.laid (t' := s1.toks) (fun b u e => Heap.get?_push_of_some _ e) (Nat.le_refl _) ?_, rfl, q _ hf⟩
  exact ⟨z, us, 0, r, Heap.get?_push_size _ rfl⟩
end

noncomputable abbrev Sp := List V → Hp → VK → XK → Prop
noncomputable abbrev CXT := List Env → Hp → Shared → XK → Value → Shared → Prop

structure Env0 (P : Program) (w : World) (K : PySem.W.Frag) (mg : Str → Option Value) (base : Heap) (A : Around) (outer : List Env) (s : Shared) (H : Hp) : Prop where
  frames : A.frames = some outer
  mod : Mod K mg base
  bs : ∀ b o, base.get? b = some o → s.heap.get? b = some o ∧ H b = none
  bsz : base.objs.size ≤ s.heap.objs.size
  funs : s.heap.FunFrames base outer
  frf : ∀ b ∈ frs outer, H b = none
  hok : HOk P w H s.heap
  bare : AllBare s.gens
noncomputable def CE (outer : List Env) (P : Program) (w : World) (H : Hp) (s : Shared) (Q : VK) (u : Value) (s' : Shared) : Prop :=
  ∃ v H', s'.os = s.os ∧ AllBare s'.gens ∧ Un (frs outer) [] H H' s.heap s'.heap ∧ HOk P w H' s'.heap ∧ RelV v u ∧ Q v H'
noncomputable def CR (CX : CXT) (outer : List Env) (P : Program) (w : World) (H : Hp) (s : Shared) (Q : VK) (E : XK) (r : Result) (s' : Shared) : Prop :=
  match r with
  | .ok (.ret u) => CE outer P w H s Q u s'
  | .ok _ => False
  | .error e => CX outer H s E e s'
structure FnOk (P : Program) (w : World) (K : PySem.W.Frag) (mg : Str → Option Value) (base : Heap) (CX : CXT) (k : Nat) (f : Addr) (fd : FuncData) (ps : List Str) (sp : Sp) : Prop where
  len : ∀ vs H Q E, sp vs H Q E → vs.length = ps.length
  run : ∀ (A : Around) (outer : List Env) (s : Shared) (H : Hp) (args : Args) (us : List Value) (vs : List V) (Q : VK) (E : XK), Room k A → Env0 P w K mg base A outer s H → BindsTo s fd args (ps.zip us) → Vals vs us → sp vs H Q E →
    codeAny (model P w) A (.call (.ref f) args) (CR CX outer P w H s Q E) s
theorem Env0.make {P : Program} {w : World} {K : PySem.W.Frag} {mg : Str → Option Value} {base : Heap} {A : Around} {outer : List Env} {s : Shared} {H : Hp} (e : Env0 P w K mg base A outer s H) (C : Addr) (us : List Value) (kw : List (Str × Value)) :
    Env0 P w K mg base (A.under (.builtin "type.__call__" ⟨.ref C :: us, kw⟩)) outer s H := ⟨by first | exact e.frames | (simpa [Around.under, Code.envs, Code.isFrame, pushEnvs] using e.frames), e.mod, e.bs, e.bsz, e.funs, e.frf, e.hok, e.bare⟩
section
variable {X : Cx} {pins : List (Addr × Obj)} {σ : St} {H : Hp} {s s' : Shared}
theorem Inv.env0 (I : Inv X pins σ H s) : Env0 X.prog X.w X.K X.mg X.base X.A X.stack s H :=
  ⟨I.ok.frames, I.ok.mod, I.bs, Nat.le_trans I.ok.bsz I.sz, I.stack, I.stkFree, I.hok, I.bare⟩
theorem Inv.after {Q : VK} {u : Value} (I : Inv X pins σ H s) (h : CE X.stack X.prog X.w H s Q u s') : EP X pins σ Q u s' := by
  obtain ⟨v, H', os, bare, un, hok, r, q⟩ := h
  obtain ⟨hh, g, d, t, os'⟩ := s'
  obtain rfl : os' = s.os := os
  exact ⟨v, H', I.call (h' := hh) (g' := g) (d' := d) (t' := t) (ch := []) un hok bare (fun b z => absurd z (by simp)), r, q⟩
end

noncomputable def tCall (sp : Sp) (dvs : List V) (E : XK) (t : TA) : TE := fun σ H Q => t σ H fun vs H1 => sp (vs ++ dvs) H1 Q E
noncomputable def tMeth (C : Addr) (m : Str) (sp : Sp) (dvs : List V) (E : XK) (ta : TE) (t : TA) : TE := fun σ H Q => ta σ H fun x H1 => ∃ a dx fs, x = .ref a ∧ H1 a = some (.ins C dx fs) ∧ fs.lookup m = none ∧
  t σ H1 fun vs H2 => sp (x :: (vs ++ dvs)) H2 Q E
noncomputable def tMake (C : Addr) (sp : Sp) (dvs : List V) (E : XK) (t : TA) : TE := fun σ H Q => t σ H fun vs H1 => ∀ x dx, H1 x = none → H1 dx = none → dx ≠ x →
  sp (.ref x :: (vs ++ dvs)) (upd (upd H1 dx (.own x)) x (.ins C dx [])) (fun v H2 => v = .non ∧ Q (.ref x) H2) E

noncomputable def Binds (K : PySem.W.Frag) (fd : FuncData) (ps : List Str) (ds : List Value) : Prop :=
  ∀ (s : Shared) (us : List Value), K.In s.heap → (us ++ ds).length = ps.length → BindsTo s fd ⟨us, []⟩ (ps.zip (us ++ ds))
theorem Binds.all {K : PySem.W.Frag} {fd : FuncData} {ps : List Str} (h : ∀ us : List Value, us.length = ps.length → bindArgs fd ⟨us, []⟩ = pure (ps.zip us)) : Binds K fd ps [] := fun s us _ hl => by
  rw [List.append_nil] at hl ⊢
  exact .of_eq (h us hl)

noncomputable def Passes (CX : CXT) (X : Cx) (E : XK) : Prop := ∀ (pins : List (Addr × Obj)) (σ : St) (H : Hp) (s : Shared) (e : Value) (s' : Shared), Inv X pins σ H s → CX X.stack H s E e s' → X.xe e s'

section
variable {X : Cx} {CX : CXT} {k : Nat} {f C : Addr} {fd : FuncData} {ps : List Str} {sp : Sp} {dvs : List V} {ds : List Value} {E : XK} {x m : Str} {p pos apos : Pos} {e o : Expr} {es : List Expr} {ta : TE} {t : TA}

theorem run_fn {pins : List (Addr × Obj)} {σ : St} {H : Hp} {s : Shared} {Q : VK} {us : List Value} {vs : List V} (F : FnOk X.prog X.w X.K X.mg X.base CX k f fd ps sp) (hr : Room k X.A) (hb : Binds X.K fd ps ds) (hd : Vals dvs ds) (hx : Passes CX X E)
    (I : Inv X pins σ H s) (r : Vals vs us) (h : sp (vs ++ dvs) H Q E) : wpAny (model X.prog X.w) X.A (call (.ref f) us) (EP X pins σ Q) X.xe s := by
  have r2 : Vals (vs ++ dvs) (us ++ ds) := r.append hd
  have hl : (us ++ ds).length = ps.length := by rw [← r2.length]; exact F.len _ _ _ _ h
  refine wpAny_call (codeAny_mono (F.run X.A X.stack s H ⟨us, []⟩ (us ++ ds) (vs ++ dvs) Q E hr I.env0 (hb s us I.kIn hl) r2 h) fun r s' hq => ?_)
  cases r with
  | error e => exact hx pins σ H s e s' I hq
  | ok fl =>
    cases fl with
    | ret u => exact I.after hq
    | next => exact False.elim hq
    | brk => exact False.elim hq
    | cont => exact False.elim hq

theorem pe_call (F : FnOk X.prog X.w X.K X.mg X.base CX k f fd ps sp) (hr : Room k X.A) (hg : Gl X x) (hm : X.mg x = some (.ref f)) (hk : PySem.W.keepIn X.K (.ref f) = true) (hb : Binds X.K fd ps ds) (hd : Vals dvs ds) (hx : Passes CX X E)
    (ha : PA X (e :: es) t) (hdb : (x == ("__debug__" : Str)) = false := by decide) (he : starEach (e :: es) X.env = (false, eval e X.env) :: starEach es X.env := by rfl) (hpl : (backTo pos (starEach es X.env)).any (·.1) = false := by rfl) :
    PE X (.Call (.Name x p) (e :: es) [] pos) (tCall sp dvs E t) := by
  intro pins s σ H Q I h
  refine wpAny_Call_Name_kw (ld_glob I hg hm ?_ hdb)
  refine PySem.W.callWith_K (h₀ := X.base) I.ok.mod.kin hk (thn (ha pos pins s σ H _ I h) fun us s1 ⟨vs, H1, I1, r, q⟩ => ⟨I1.kIn, ?_⟩) he hpl
  exact run_fn F hr hb hd hx I1 r q
theorem pe_meth0 {pl : Sem Bool} (he : PE X o ta) (c : Cls X.K C) (hm : Meth X.K C m f) (F : FnOk X.prog X.w X.K X.mg X.base CX k f fd ps sp) (hr : Room k X.A) (hb : Binds X.K fd ps ds) (hd : Vals dvs ds) (hx : Passes CX X E)
    (ht : eval (.Call (.Attribute o m apos) [] [] pos) X.env = (do
      let ov ← eval o X.env
      standAt apos.atName
      let (f, first) ← holding [ov] (getMethod ov m pl)
      callWith pos f first (backTo pos (starEach [] X.env)) (backToKw pos (keywordEach [] X.env))) := by rfl) :
    PE X (.Call (.Attribute o m apos) [] [] pos) (tMeth C m sp dvs E ta tNil) := by
  intro pins s σ H Q I h
  refine PySem.W.methodCall_KW (pl := pl) (thn (he pins s σ H _ I h) fun u s1 ⟨x, H1, I1, rx, a, dx, fs, ex, ea, l, q⟩ => ?_) ht
  subst ex
  obtain rfl : u = Value.ref a := rx
  refine getmeth_ok I1 ea c hm l ?_
  exact PySem.W.callWith_K0 (first := [.ref a]) I1.kIn hm.kp (run_fn (us := [.ref a]) (vs := [.ref a]) F hr hb hd hx I1 (.cons rfl .nil) q)

structure Mk (K : PySem.W.Frag) (C f : Addr) : Prop where
  makes : PySem.W.makesIn K C = true
  init : PySem.W.findIn K (.ref C) "__init__" = some (some (.ref f))
  fn : PySem.W.isFn K (.ref f) = true
  kp : PySem.W.keepIn K (.ref C) = true

theorem run_make {pins : List (Addr × Obj)} {σ : St} {H : Hp} {s : Shared} {Q : VK} {us : List Value} {vs : List V} (M : Mk X.K C f) (F : FnOk X.prog X.w X.K X.mg X.base CX k f fd ps sp) (hr : Room (k + 1) X.A) (hb : Binds X.K fd ps ds) (hd : Vals dvs ds)
    (hx : Passes CX X E) (I : Inv X pins σ H s) (r : Vals vs us)
    (h : ∀ x dx, H x = none → H dx = none → dx ≠ x → sp (.ref x :: (vs ++ dvs)) (upd (upd H dx (.own x)) x (.ins C dx [])) (fun v H2 => v = .non ∧ Q (.ref x) H2) E) :
    wpAny (model X.prog X.w) X.A (call (.ref C) us) (EP X pins σ Q) X.xe s := by
  have hq := h (s.heap.objs.size + 1) s.heap.objs.size (I.hok.fresh (Nat.le_succ _)) (I.hok.fresh (Nat.le_refl _)) (Nat.ne_of_lt (Nat.lt_succ_self _))
  have I2 := Inv.made (C := C) I
  have r2 : Vals (V.ref (s.heap.objs.size + 1) :: (vs ++ dvs)) (Value.ref (s.heap.objs.size + 1) :: (us ++ ds)) := .cons rfl (r.append hd)
  have hl : (Value.ref (s.heap.objs.size + 1) :: us ++ ds).length = ps.length := by
    have e := r2.length
    rw [F.len _ _ _ _ hq] at e
    exact e.symm
  refine wpAny_call (make_map (f := f) I.kIn M.makes M.init (beq_iff_eq.mp M.fn) (codeAny_mono (F.run _ X.stack _ _ ⟨Value.ref (s.heap.objs.size + 1) :: us, []⟩ (Value.ref (s.heap.objs.size + 1) :: (us ++ ds)) _ _ E (hr.make C us [])
    (I2.env0.make C us []) (hb _ (Value.ref (s.heap.objs.size + 1) :: us) I2.kIn hl) r2 hq) fun r s' hq' => ?_))
  cases r with
  | error e => exact hx pins σ _ _ e s' I2 hq'
  | ok fl =>
    cases fl with
    | ret u =>
      obtain ⟨v, H', I3, rv, ev, q3⟩ := I2.after hq'
      subst ev
      exact ⟨rv, ⟨V.ref (s.heap.objs.size + 1), H', I3, rfl, q3⟩⟩
    | next => exact False.elim hq'
    | brk => exact False.elim hq'
    | cont => exact False.elim hq'
theorem pe_make (M : Mk X.K C f) (F : FnOk X.prog X.w X.K X.mg X.base CX k f fd ps sp) (hr : Room (k + 1) X.A) (hg : Gl X x) (hm : X.mg x = some (.ref C)) (hb : Binds X.K fd ps ds) (hd : Vals dvs ds) (hx : Passes CX X E)
    (ha : PA X (e :: es) t) (hdb : (x == ("__debug__" : Str)) = false := by decide) (he : starEach (e :: es) X.env = (false, eval e X.env) :: starEach es X.env := by rfl) (hpl : (backTo pos (starEach es X.env)).any (·.1) = false := by rfl) :
    PE X (.Call (.Name x p) (e :: es) [] pos) (tMake C sp dvs E t) := by
  intro pins s σ H Q I h
  refine wpAny_Call_Name_kw (ld_glob I hg hm ?_ hdb)
  refine PySem.W.callWith_K (h₀ := X.base) I.ok.mod.kin M.kp (thn (ha pos pins s σ H _ I h) fun us s1 ⟨vs, H1, I1, r, q⟩ => ⟨I1.kIn, ?_⟩) he hpl
  exact run_make M F hr hb hd hx I1 r q
end

section
variable {X : Cx} {CX : CXT} {k : Nat} {f C : Addr} {fd : FuncData} {ps ks : List Str} {sp : Sp} {E : XK} {x m : Str} {p pos apos kpos : Pos} {e o : Expr} {es : List Expr} {kws : List Keyword} {te ta : TE} {t tk : TA} {nm : Option Str}
variable {g : List Value → List Value → List Value} {gV : List V → List V → List V}
end

structure FnScope (N P : List Str) (sc : Scope) : Prop where
  kind : sc.kind = .function
  co : sc.isCoroutine = false
  gen : sc.isGenerator = false
  nd : N.Nodup
  pre : N.take P.length = P
  par : ∀ x ∈ P, sc.names.lookup x = some .local ∨ sc.names.lookup x = some .cell
  nofree : ∀ y ∈ sc.names, y.2 ≠ .free

theorem bindL_out {kindOf : Str → Option NameKind} {x : Str} : ∀ {binds : List (Str × Value)} {m : Str → Option Value}, (∀ v, (x, v) ∉ binds) → bindL kindOf binds m x = m x
  | [], _, _ => rfl
  | (n, v) :: r, m, h => by
    unfold bindL
    rw [bindL_out fun w hw => h w (List.mem_cons_of_mem _ hw)]
    split
    · have : x ≠ n := by rintro rfl; exact h v List.mem_cons_self
      simp [this]
    · rfl
theorem bindC_out {kindOf : Str → Option NameKind} {x : Str} : ∀ {binds : List (Str × Value)} {m : Str → Option Value}, (∀ v, (x, v) ∉ binds) → bindC kindOf binds m x = m x
  | [], _, _ => rfl
  | (n, v) :: r, m, h => by
    unfold bindC
    rw [bindC_out fun w hw => h w (List.mem_cons_of_mem _ hw)]
    split
    · rfl
    · have : x ≠ n := by rintro rfl; exact h v List.mem_cons_self
      simp [this]
theorem bindL_get {kindOf : Str → Option NameKind} {x : Str} {v : Value} : ∀ {P : List Str} {vs : List Value} {i : Nat} {m : Str → Option Value}, P.Nodup → P[i]? = some x → vs[i]? = some v → kindOf x = some .local →
    bindL kindOf (P.zip vs) m x = some v
  | [], _, _, _, _, h, _, _ => by simp at h
  | _ :: _, [], _, _, _, _, h, _ => by simp at h
  | p :: P, w :: vs, 0, m, nd, h1, h2, hk => by
    simp at h1 h2; subst h1; subst h2
    show bindL kindOf ((p, w) :: P.zip vs) m p = _
    unfold bindL
    rw [bindL_out fun v hv => (List.nodup_cons.mp nd).1 (List.of_mem_zip hv).1, if_pos hk]
    simp
  | p :: P, w :: vs, i + 1, m, nd, h1, h2, hk => by
    show bindL kindOf ((p, w) :: P.zip vs) m x = _
    unfold bindL
    exact bindL_get (i := i) (List.nodup_cons.mp nd).2 (by simpa using h1) (by simpa using h2) hk
theorem bindC_get {kindOf : Str → Option NameKind} {x : Str} {v : Value} : ∀ {P : List Str} {vs : List Value} {i : Nat} {m : Str → Option Value}, P.Nodup → P[i]? = some x → vs[i]? = some v → kindOf x ≠ some .local →
    bindC kindOf (P.zip vs) m x = some v
  | [], _, _, _, _, h, _, _ => by simp at h
  | _ :: _, [], _, _, _, _, h, _ => by simp at h
  | p :: P, w :: vs, 0, m, nd, h1, h2, hk => by
    simp at h1 h2; subst h1; subst h2
    show bindC kindOf ((p, w) :: P.zip vs) m p = _
    unfold bindC
    rw [bindC_out fun v hv => (List.nodup_cons.mp nd).1 (List.of_mem_zip hv).1, if_neg hk]
    simp
  | p :: P, w :: vs, i + 1, m, nd, h1, h2, hk => by
    show bindC kindOf ((p, w) :: P.zip vs) m x = _
    unfold bindC
    exact bindC_get (i := i) (List.nodup_cons.mp nd).2 (by simpa using h1) (by simpa using h2) hk

noncomputable def start (N : List Str) (vs : List V) : St := vs.map some ++ List.replicate (N.length - vs.length) none

noncomputable def cxOf (CX : CXT) (P : Program) (w : World) (K : PySem.W.Frag) (mg : Str → Option Value) (base : Heap) (N : List Str) (qual : Str) (scope : Scope) (f : Addr) (cd : Value) (A : Around) (outer : List Env) (s : Shared) (H : Hp) (E : XK) : Cx where
  prog := P
  w := w
  K := K
  mg := mg
  base := base
  A := A.deeper (envOfC qual scope s.heap.objs.size f cd)
  N := N
  s₀ := s
  H₀ := H
  env := envOfC qual scope s.heap.objs.size f cd
  outer := outer
  stack := envOfC qual scope s.heap.objs.size f cd :: outer
  ex := []
  calm := true
  fn := fun _ => true
  pn := []
  xe := fun e s' => wpAny (model P w) (A.deeper (envOfC qual scope s.heap.objs.size f cd)) (leaving (envOfC qual scope s.heap.objs.size f cd) e) (fun _ s'' => CX outer H s E e s'') (fun e' s'' => CX outer H s E e' s'') s'

theorem cell_has {sc : Scope} {n : Nat} {x : Str} (h : sc.names.lookup x = some .cell) : ∃ c, (cellsFrom n sc.names []).lookup x = some c := by
  have q := PySem.W.cellsFrom_some sc.names n [] (.inl h)
  exact Option.isSome_iff_exists.mp q

theorem inv_start {CX : CXT} {P : Program} {w : World} {K : PySem.W.Frag} {mg : Str → Option Value} {base : Heap} {N ps : List Str} {qual : Str} {scope : Scope} {f : Addr} {cd : Value} {A : Around} {outer : List Env} {s s1 : Shared} {H : Hp} {E : XK} {us : List Value} {vs : List V}
    (S : FnScope N ps scope) (hd : A.handled = none) (e0 : Env0 P w K mg base A outer s H) (hl : vs.length = ps.length) (r : Vals vs us)
    (x : InCallC s s.heap.objs.size (bindL (envOfC qual scope s.heap.objs.size f cd).kindOf (ps.zip us) fun _ => none) (cellsFrom (s.heap.objs.size + 1) scope.names []) (bindC (envOfC qual scope s.heap.objs.size f cd).kindOf (ps.zip us) fun _ => none) s1) :
    Inv (cxOf CX P w K mg base N qual scope f cd A outer s H E) [] (start N vs) H s1 := by
  have hpl : ps.length ≤ N.length := by have := congrArg List.length S.pre; rw [List.length_take] at this; omega
  obtain ⟨h1, tk, rfl, hk⟩ := x.done
  have noA : ∀ b : Addr, b ∉ (cxOf CX P w K mg base N qual scope f cd A outer s H E).ex := fun b z => absurd (show b ∈ ([] : List Addr) from z) (by simp)
  refine ⟨⟨e0.mod, S.kind, rfl, rfl, Nat.le_refl _, fun y z c h1 h2 => ?_, fun y hy => ?_, fun y c _ h => ?_, fun _ => hd, Around.frames_deeper e0.frames, .inr ⟨rfl, rfl⟩, fun b z => absurd z (noA b), e0.bs, e0.bsz, fun b _ _ => noA b, fun b z => absurd z (noA b), e0.funs, e0.frf⟩,
    rfl, e0.bare, Un.kept hk, ⟨_, x.toInCall.ns, fun i y v h1 h2 h3 => ?_⟩, fun y c h => ⟨_, x.cell y c h⟩, e0.hok.fresh (Nat.le_refl _), fun y c h => ?_, fun p hp => absurd (show p ∈ ([] : List (Addr × Obj)) from hp) (by simp), e0.hok.kept hk, ?_⟩
  · exact name_of_addr x.apart (PySem.mem_of_lookup h1) (PySem.mem_of_lookup h2)
  · have hy : scope.names.lookup y = some .cell ∨ scope.names.lookup y = some .free := hy
    rcases hy with hy | hy
    · exact cell_has hy
    · exact absurd rfl (S.nofree _ (PySem.mem_of_lookup hy))
  · exact Nat.le_of_lt (x.above y c (PySem.mem_of_lookup h))
  · have hi : i < vs.length := by
      unfold start at h2
      by_cases hi : i < vs.length
      · exact hi
      · rw [List.getElem?_append_right (by simpa using hi)] at h2
        rw [List.getElem?_replicate] at h2
        split at h2 <;> cases h2
    have ha : vs[i]? = some v := by
      unfold start at h2
      rw [List.getElem?_append_left (by simpa using hi), List.getElem?_map] at h2
      cases e : vs[i]? with
      | none => rw [e] at h2; cases h2
      | some a => rw [e] at h2; cases h2; rfl
    obtain ⟨u, hu, rv⟩ := r.get ha
    have hp : ps[i]? = some y := by
      rw [← S.pre, List.getElem?_take_of_lt (by omega)]; exact h1
    have ndP : ps.Nodup := by rw [← S.pre]; exact S.nd.sublist (List.take_sublist _ _)
    refine ⟨u, rv, ?_⟩
    rcases S.par y (List.mem_of_getElem? hp) with k | k
    · exact .inl ⟨k, bindL_get ndP hp hu k⟩
    · obtain ⟨c, e⟩ := cell_has (n := s.heap.objs.size + 1) k
      refine .inr ⟨.inl k, c, e, ?_⟩
      have q := x.cell y c e
      rw [bindC_get ndP hp hu (by show scope.names.lookup y ≠ _; rw [k]; decide)] at q
      exact q
  · exact e0.hok.fresh (Nat.le_of_lt (x.above y c (PySem.mem_of_lookup h)))
  · unfold start
    show _ = N.length
    rw [List.length_append, List.length_map, List.length_replicate]
    omega

theorem fn_of {CX : CXT} {P : Program} {w : World} {K : PySem.W.Frag} {mg : Str → Option Value} {base : Heap} {k : Nat} {f : Addr} {name qual : Str} {params : Arguments} {body : List Stmt} {scope : Scope} {dV kV doc pm cdv ct oc : Value} {an od : Option Addr}
    {osl : Array (Option Value)} {N ps : List Str} {sp : Sp} (lk : K.lookup f = some ⟨oc, od, .func (PySem.W.fnOf name qual params body scope dV kV doc pm an cdv ct), osl⟩) (hcd : PySem.W.codeIn K cdv qual = true) (S : FnScope N ps scope)
    (len : ∀ vs H Q E, sp vs H Q E → vs.length = ps.length)
    (hbody : ∀ (A : Around) (outer : List Env) (s : Shared) (H : Hp) (vs : List V) (Q : VK) (E : XK), Room k (A.deeper (envOfC qual scope s.heap.objs.size f cdv)) → sp vs H Q E →
      ∃ t, PSs (cxOf CX P w K mg base N qual scope f cdv A outer s H E) body t ∧ t { nx := fun _ H' => Q .non H', rt := Q } (start N vs) H) :
    FnOk P w K mg base CX (k + 1) f (PySem.W.fnOf name qual params body scope dV kV doc pm an cdv ct) ps sp := by
  refine ⟨len, fun A outer s H args us vs Q E hr e0 hb r hsp => ?_⟩
  have hl := len _ _ _ _ hsp
  have KX : K.In s.heap := e0.mod.kin.keeps fun b o e => (e0.bs b o e).1
  have lim : s.heap.NoLimit := e0.mod.nolimit.keeps fun b o e => (e0.bs b o e).1
  have hkind : ∀ y ∈ ps.zip us, scope.names.lookup y.1 = some .local ∨ (scope.names.lookup y.1 = some .cell ∧ ((cellsFrom (s.heap.objs.size + 1) scope.names []).lookup y.1).isSome = true) := fun ⟨n, v⟩ hy => by
    rcases S.par n (List.of_mem_zip hy).1 with q | q
    · exact .inl q
    · exact .inr ⟨q, PySem.W.cellsFrom_some _ _ _ (.inl q)⟩
  refine codeAny_call_function hr.depth (KX _ _ lk) rfl S.co S.gen rfl (PySem.W.codeRec_of KX hcd) (hb _ _ _ _ ?_)
  refine wpAny_newFunctionEnv_cells S.kind hkind fun env he s1 x => ?_
  subst he
  refine ⟨lim.keeps x.toInCall.keep, codeAny_func ?_⟩
  obtain ⟨t, ht, hq⟩ := hbody A outer s H vs Q E (hr.deeper _) hsp
  have I : Inv (cxOf CX P w K mg base N qual scope f cdv A outer s H E) [] (start N vs) H s1 := inv_start S hr.hd e0 hl r x
  refine wpAny_mono (ht [] s1 (start N vs) H _ I hq) (fun fl s' hs => ?_) fun e s' hs => hs
  have fin : ∀ {σ' : St} {H' : Hp} {v : V} {u : Value}, Inv (cxOf CX P w K mg base N qual scope f cdv A outer s H E) [] σ' H' s' → RelV v u → Q v H' → CE outer P w H s Q u s' :=
    fun {σ' H' v u} J rv q => ⟨v, H', J.os, J.bare, J.base, J.hok, rv, q⟩
  cases fl with
  | ret u =>
    obtain ⟨v, σ', H', J, rv, q⟩ := hs
    exact fin J rv q
  | next =>
    obtain ⟨σ', H', J, q⟩ := hs
    exact fin (v := V.non) (u := Value.none) J rfl q
  | brk =>
    obtain ⟨_, _, _, q⟩ := hs
    exact False.elim q
  | cont =>
    obtain ⟨_, _, _, q⟩ := hs
    exact False.elim q
end L2

namespace L2
open PySem PySem.Spec PyProof.Rows
section
variable {X : Cx} {x : Str} {p pos : Pos} {e : Expr} {es : List Expr} {t : TA} {id T : String} {r : List V → Hp → VK → Prop}

noncomputable def tCB (r : List V → Hp → VK → Prop) (t : TA) : TE := fun σ H Q => t σ H fun vs H1 => r vs H1 Q
theorem pe_callB (hc : CallR X (.builtin id) r) (hg : Gl X x) (hm : X.mg x = none) (hv : bootBuiltins x = some (.builtin id)) (ha : PA X (e :: es) t) (hn : x ≠ "__name__" := by decide) (hdb : (x == ("__debug__" : Str)) = false := by decide)
    (he : starEach (e :: es) X.env = (false, eval e X.env) :: starEach es X.env := by rfl) (hpl : (backTo pos (starEach es X.env)).any (·.1) = false := by rfl) : PE X (.Call (.Name x p) (e :: es) [] pos) (tCB r t) := by
  intro pins s σ H Q I h
  refine wpAny_Call_Name_kw (ld_blt I hg hm hv ?_ hn hdb)
  exact PyProof.Rows.callWith_builtin1 (thn (ha pos pins s σ H _ I h) fun us s1 ⟨vs, H1, I1, r1, q1⟩ => hc pins s1 σ H1 vs us Q I1 r1 q1) he hpl
theorem pe_callTy (hc : CallR X (.type T) r) (hg : Gl X x) (hm : X.mg x = none) (hv : bootBuiltins x = some (.type T)) (ha : PA X (e :: es) t) (hn : x ≠ "__name__" := by decide) (hdb : (x == ("__debug__" : Str)) = false := by decide)
    (he : starEach (e :: es) X.env = (false, eval e X.env) :: starEach es X.env := by rfl) (hpl : (backTo pos (starEach es X.env)).any (·.1) = false := by rfl) : PE X (.Call (.Name x p) (e :: es) [] pos) (tCB r t) := by
  intro pins s σ H Q I h
  refine wpAny_Call_Name_kw (ld_blt I hg hm hv ?_ hn hdb)
  exact PyProof.Rows.callWith_type1 (thn (ha pos pins s σ H _ I h) fun us s1 ⟨vs, H1, I1, r1, q1⟩ => hc pins s1 σ H1 vs us Q I1 r1 q1) he hpl
end
end L2

namespace HT
open PySem PyProof.Rows

noncomputable def lexLt : List Int → List Int → Bool
  | [], [] => false
  | [], _ :: _ => true
  | _ :: _, [] => false
  | x :: xs, y :: ys => if x = y then lexLt xs ys else decide (x < y)
theorem lexLt_cons (x y : Int) (xs ys : List Int) : lexLt (x :: xs) (y :: ys) = if x = y then lexLt xs ys else decide (x < y) := rfl
theorem lexLt_nil_nil : lexLt [] [] = false := rfl
theorem lexLt_nil_cons (y : Int) (ys : List Int) : lexLt [] (y :: ys) = true := rfl
theorem lexLt_cons_nil (x : Int) (xs : List Int) : lexLt (x :: xs) [] = false := rfl

theorem eqAt_int (A : Around) (s : Shared) (a : Int) (t : Tok) (c : Int) (u : Tok) : ∃ e, SeqAt.EqAt A s (.int a t) (.int c u) e ∧ (e = true ↔ a = c) :=
  ⟨(a == c), SeqAt.EqAt.int_int a t c u, by simp⟩
theorem rcLt_int (A : Around) (s : Shared) (a : Int) (t : Tok) (c : Int) (u : Tok) (prog : Program) (w : World) (E : Value → Shared → Prop) (Q : Value → Shared → Prop) (h : Q (.bool (decide (a < c))) s) :
    wpAny (model prog w) A (richCompare .Lt (.int a t) (.int c u)) Q E s :=
  (PyProof.Rows.lt_int h : wpAny (model prog w) A (compareOp .Lt (.int a t) (.int c u)) Q E s)

section
open PySem.SeqAt
open PySem.AutoSeq1 (wpAny_loadPart')
open PySem.MeetsSeq PySem.MeetsSeq2 PySem.MeetsSeq3

theorem tuple_lt_ints (l b : Addr) (items items2 : Array Value) (n n2 : Nat) (dd dd2 : Option Addr) (sl sl2 : Array (Option Value)) (ns ms : List Int) (hi : IntsAre items.toList ns) (hj : IntsAre items2.toList ms) :
    Meets (Builtin.«tuple.__lt__» ⟨[.ref l, .ref b], []⟩)
      (fun _ R s => s.heap.get? l = some { cls := .type "tuple", dict := dd, data := .seq items n, slots := sl } ∧ s.heap.get? b = some { cls := .type "tuple", dict := dd2, data := .seq items2 n2, slots := sl2 } ∧
        R (.ok (.ret (.bool (lexLt ns ms)))) s) :=
  .of_wp fun prog w A R s h => by
    obtain ⟨hp, g, d, tk, os⟩ := s; obtain ⟨hl, hb, h⟩ := h
    have f2 := AutoSeq1.sub_tuple_tuple
    have z1 : items.size = ns.length := by rw [← hi.length]; simp
    have z2 : items2.size = ms.length := by rw [← hj.length]; simp
    wp_walk using wpAny_loadPart' hl, wpAny_loadPart' hb, wpAny_forIn_list _ (fun rest b s' => b.1 = none ∧ s' = ⟨hp, g, d, tk, os⟩ ∧ ∃ (vs ws : List Value) (ns' ms' : List Int), rest = vs.zip ws ∧
      IntsAre vs ns' ∧ IntsAre ws ms' ∧ ns'.length + items2.size = ms'.length + items.size ∧ R (.ok (.ret (.bool (lexLt ns' ms')))) ⟨hp, g, d, tk, os⟩) _
    case turn =>
      rintro ⟨y, x⟩ rest b s' ⟨hb', rfl, vs, ws, ns', ms', hz, hvi, hwi, hlen, hR⟩
      cases hvi with
      | nil => rw [List.zip_nil_left] at hz; cases hz
      | cons a t hvi' =>
        cases hwi with
        | nil => rw [List.zip_nil_right] at hz; cases hz
        | cons c u hwi' =>
          rw [List.zip_cons_cons] at hz
          injection hz with hyx hrest
          injection hyx with hy hx
          subst hy hx
          rw [lexLt_cons] at hR
          simp only [List.length_cons] at hlen
          obtain ⟨e, he, hiff⟩ := eqAt_int A.in1 ⟨hp, g, d, tk, os⟩ a t c u
          refine wpAny_bind (he prog w _ _ ?_)
          cases e with
          | true =>
            rw [if_pos (hiff.mp rfl)] at hR
            wp_walk
            exact ⟨rfl, rfl, _, _, _, _, hrest, hvi', hwi', by omega, hR⟩
          | false =>
            rw [if_neg (fun q => absurd (hiff.mpr q) Bool.false_ne_true)] at hR
            have hri := rcLt_int A.in1 ⟨hp, g, d, tk, os⟩ a t c u prog w
            wp_walk using hri
            exact ⟨_, rfl, by simpa using hR⟩
    case fin =>
      rintro ⟨b1, b2⟩ s' ⟨hb', rfl, vs, ws, ns', ms', hz, hvi, hwi, hlen, hR⟩
      simp only at hb'
      subst hb'
      have hv : lexLt ns' ms' = decide (items.size < items2.size) := by
        cases hvi with
        | nil =>
          cases hwi with
          | nil =>
            simp only [List.length_nil] at hlen
            rw [lexLt_nil_nil]
            exact (decide_eq_false (by omega)).symm
          | cons c u hw =>
            simp only [List.length_nil, List.length_cons] at hlen
            rw [lexLt_nil_cons]
            exact (decide_eq_true (by omega)).symm
        | cons a t hv =>
          cases hwi with
          | nil =>
            simp only [List.length_nil, List.length_cons] at hlen
            rw [lexLt_cons_nil]
            exact (decide_eq_false (by omega)).symm
          | cons c u hw =>
            rw [List.zip_cons_cons] at hz
            cases hz
      rw [hv] at hR
      wp_walk
      exact ⟨_, rfl, by simpa [Builtin.Tuple.tupleCompareSizes] using hR⟩
    case h =>
      exact ⟨rfl, rfl, items.toList, items2.toList, ns, ms, rfl, hi, hj, by omega, h⟩
end

section
variable {prog : Program} {w : World} {A : Around} {E : Value → Shared → Prop} {s : Shared}

theorem lt_tupInts {l b : Addr} {items items2 : Array Value} {ns ms : List Int} {Q : Value → Shared → Prop} (hl : IsTup s.heap l items) (hb : IsTup s.heap b items2) (hi : IntsAre items.toList ns) (hj : IntsAre items2.toList ms)
    (hu : A.units < cLine) (h : Q (.bool (lexLt ns ms)) s) : wpAny (model prog w) A (compareOp .Lt (.ref l) (.ref b)) Q E s := by
  obtain ⟨⟨cls, dd, data, sl⟩, ho, hc, n, hd⟩ := id hl
  obtain ⟨⟨cls2, dd2, data2, sl2⟩, ho2, hc2, n2, hd2⟩ := id hb
  simp only at hc hd hc2 hd2
  subst hc hd hc2 hd2
  exact richCompare_meets_room (op := .Lt) ⟨_, ho, rfl⟩ ⟨_, ho2, rfl⟩ PySem.F.slot_tuple_lt PySem.F.entry_tuple_lt (PySem.F.args_tuple_lt_2 _ _) (tuple_lt_ints l b items items2 n n2 dd dd2 sl sl2 ns ms hi hj)
    ⟨ho, ho2, show Value.bool (lexLt ns ms) ≠ Value.notImplemented ∧ Q (.bool (lexLt ns ms)) s from ⟨(fun x => nomatch x), h⟩⟩ hu

theorem cat_tup {t b : Addr} {vs ws : List Value} {Q : Value → Shared → Prop} (ht : IsTup s.heap t vs.toArray) (hb : IsTup s.heap b ws.toArray) (hv : vs ≠ [])
    (h1 : ws = [] → Q (.ref t) s) (h2 : ws ≠ [] → Q (.ref s.heap.objs.size) { s with heap := s.heap.push { cls := .type "tuple", data := .seq (vs ++ ws).toArray } })
    (hsz : vs.length + ws.length ≤ sizeLine) : wpAny (model prog w) A (binaryOp .Add (.ref t) (.ref b)) Q E s := by
  obtain ⟨⟨cls, dd, data, sl⟩, ho, hc, n, hd⟩ := id ht
  obtain ⟨⟨cls2, dd2, data2, sl2⟩, ho2, hc2, n2, hd2⟩ := id hb
  simp only at hc hd hc2 hd2
  subst hc hd hc2 hd2
  have e : vs.toArray ++ ws.toArray = (vs ++ ws).toArray := by simp
  by_cases hw : ws = []
  · exact concat_meets ⟨_, ho, rfl⟩ ⟨_, ho2, rfl⟩ noFill_tuple_add seq_tuple_add PySem.F.slot_tuple_add PySem.F.entry_tuple_add (PySem.F.args_tuple_add_2 _ _)
      (tuple_addW1 t b vs.toArray ws.toArray n n2 dd dd2 sl sl2 (by simpa using hv) (by simp [hw])) ⟨ho, ho2, h1 hw⟩
  · refine concat_meets ⟨_, ho, rfl⟩ ⟨_, ho2, rfl⟩ noFill_tuple_add seq_tuple_add PySem.F.slot_tuple_add PySem.F.entry_tuple_add (PySem.F.args_tuple_add_2 _ _)
      (tuple_addW2 t b vs.toArray ws.toArray n n2 dd dd2 sl sl2 (by simpa using hv) (by simpa using hw) (by rw [List.size_toArray, List.size_toArray]; exact hsz)) ⟨ho, ho2, ?_⟩
    rw [e]
    exact h2 hw

noncomputable def sIx (n d : Nat) : Option Int → Nat
  | none => d
  | some v => if v < 0 then (v + (n : Int)).toNat else min v.toNat n
theorem sIx_none (n d : Nat) : sIx n d none = d := rfl
theorem sIx_nat (n d k : Nat) : sIx n d (some (k : Int)) = min k n := by
  show (if (k : Int) < 0 then ((k : Int) + (n : Int)).toNat else min (k : Int).toNat n) = min k n
  rw [if_neg (by omega), Int.toNat_natCast]
theorem sIx_le (n d : Nat) (hd : d ≤ n) (o : Option Int) : sIx n d o ≤ n := by
  cases o with
  | none => exact hd
  | some v =>
    show (if v < 0 then (v + (n : Int)).toNat else min v.toNat n) ≤ n
    by_cases hv : v < 0
    · rw [if_pos hv]; omega
    · rw [if_neg hv]; exact Nat.min_le_right _ _
theorem clip_eq (v : Int) (n d : Nat) : (if v < 0 then max (v + (n : Int)) 0 else min v (n : Int)) = ((sIx n d (some v) : Nat) : Int) := by
  show (if v < 0 then max (v + (n : Int)) 0 else min v (n : Int)) = (((if v < 0 then (v + (n : Int)).toNat else min v.toNat n) : Nat) : Int)
  by_cases hv : v < 0
  · simp only [if_pos hv]; omega
  · simp only [if_neg hv]; omega
theorem adjust_gen (lo hi : Option Int) (n : Nat) : Builtin.Slice.sliceAdjust lo hi 1 (n : Int) = (((sIx n 0 lo : Nat) : Int), ((sIx n n hi : Nat) : Int)) := by
  have h1 : ¬ ((1 : Int) < 0) := by omega
  unfold Builtin.Slice.sliceAdjust
  simp only [h1, if_false]
  refine Prod.ext ?_ ?_
  · cases lo with
    | none => rfl
    | some v => exact clip_eq v n 0
  · cases hi with
    | none => rfl
    | some v => exact clip_eq v n n
theorem places_gen (i j : Nat) : Builtin.Slice.slicePlaces (i : Int) (j : Int) 1 = j - i := by
  unfold Builtin.Slice.slicePlaces
  have h1 : (1 : Int) > 0 := by omega
  simp only [h1, if_true, Int.ediv_one]
  split <;> omega
theorem slicePart_ {v : Value} {o : Option Int} {Q : Option Int → Shared → Prop} (p : IsPart v o) (h : Q o s) : wpAny (model prog w) A (Builtin.Slice.slicePartIndex v) Q E s := by
  cases p with
  | none => exact slicePart_none h
  | int i t => exact slicePart_int h
theorem sliceApplied_gen {sl : Addr} {vl vu : Value} {lo hi : Option Int} {n : Nat} {Q : Int × Int × Nat → Shared → Prop} (hs : s.heap.IsSliceOf sl vl vu .none) (pl : IsPart vl lo) (pu : IsPart vu hi)
    (h : Q (((sIx n 0 lo : Nat) : Int), 1, sIx n n hi - sIx n 0 lo) s) : wpAny (model prog w) A (Builtin.Slice.sliceApplied (.ref sl) (pure (n : Int))) Q E s := by
  obtain ⟨os, hos, hcs, hds⟩ := id hs
  unfold Builtin.Slice.sliceApplied Builtin.Slice.sliceFields
  refine wpAny_bind (wpAny_bind (wpAny_field hos hds (x := vl) rfl (wpAny_bind (wpAny_field hos hds (x := vu) rfl (wpAny_bind (wpAny_field hos hds (x := .none) rfl (wpAny_pure ?_)))))))
  refine wpAny_bind (slicePart_none ?_)
  show wpAny _ _ (if ((1 : Int) == 0) = true then _ else _) _ _ s
  rw [if_neg (by decide)]
  refine wpAny_bind (slicePart_ pl (wpAny_bind (slicePart_ pu (wpAny_bind (wpAny_pure ?_)))))
  show wpAny _ _ (match Builtin.Slice.sliceAdjust lo hi 1 (n : Int) with | (lo, hi) => pure (lo, (1 : Int), Builtin.Slice.slicePlaces lo hi 1)) _ _ s
  rw [adjust_gen lo hi n]
  show wpAny _ _ (pure (((sIx n 0 lo : Nat) : Int), (1 : Int), Builtin.Slice.slicePlaces ((sIx n 0 lo : Nat) : Int) ((sIx n n hi : Nat) : Int) 1)) _ _ s
  rw [places_gen]
  exact wpAny_pure h
theorem pick_gen (xs : Array Value) (i k : Nat) : ((List.range k).filterMap fun (m : Nat) => xs[((i : Int) + (m : Int) * 1).toNat]?).toArray = ((xs.toList.drop i).take k).toArray := by
  have e : (fun (m : Nat) => xs[((i : Int) + (m : Int) * 1).toNat]?) = fun m => xs[i + m]? := by
    funext m
    have : ((i : Int) + (m : Int) * 1).toNat = i + m := by omega
    rw [this]
  rw [e]
  have := pick_run xs i k
  rw [List.filterMap_map] at this
  have e2 : ((fun x => xs[x]?) ∘ fun x => i + x) = fun m => xs[i + m]? := rfl
  rw [e2] at this
  rw [this]

theorem getItem_tuple_cut {t sl : Addr} {items : Array Value} {vl vu : Value} {lo hi : Option Int} {Q : Value → Shared → Prop} (ht : IsTup s.heap t items) (hs : s.heap.IsSliceOf sl vl vu .none) (pl : IsPart vl lo) (pu : IsPart vu hi)
    (hw : ¬ (sIx items.size 0 lo = 0 ∧ sIx items.size items.size hi = items.size))
    (h : Q (.ref s.heap.objs.size) { s with heap := s.heap.push { cls := .type "tuple", data := .seq ((items.toList.drop (sIx items.size 0 lo)).take (sIx items.size items.size hi - sIx items.size 0 lo)).toArray } })
    (hsz : items.size ≤ sizeLine) : wpAny (model prog w) A (getItem (.ref t) (.ref sl)) Q E s := by
  have htake : sizeOk (.seq ((items.toList.drop (sIx items.size 0 lo)).take (sIx items.size items.size hi - sIx items.size 0 lo)).toArray) := by
    show ((items.toList.drop (sIx items.size 0 lo)).take (sIx items.size items.size hi - sIx items.size 0 lo)).toArray.size ≤ sizeLine
    rw [List.size_toArray, List.length_take, List.length_drop, Array.length_toList]
    omega
  have hj : sIx items.size items.size hi ≤ items.size := sIx_le _ _ (Nat.le_refl _) hi
  obtain ⟨os, hos, hcs, hds⟩ := id hs
  have hTs : s.TypeIs (.ref sl) "slice" := ⟨os, hos, hcs⟩
  unfold getItem
  try with_reducible refine wpAny_holding ?_
  first | refine wpAny_bind (wpAny_pure ?_) | skip
  refine wpAny_bind (wpAny_sequenceKey ht.typeIs (by decide) ?_)
  refine wpAny_bind (wpAny_callSpecial?_slot (name := Str.ofString "__getitem__") ht.typeIs PyProof.Rows.slot_tuple_getitem
    (wpAny_call_entry PyProof.Rows.slot_tuple_getitem ht.typeIs entry_tuple_getitem ?_ (args_tuple_getitem _ _)))
  show wpAny _ _ (Builtin.Tuple.tupleItemsOf (.ref t) >>= _) _ _ s
  refine wpAny_bind (tupleItemsOf_ ht ?_)
  refine wpAny_bind (wpAny_typeOf hTs ?_)
  rw [if_pos (by decide)]
  refine wpAny_bind (sliceApplied_gen hs pl pu ?_)
  have hno : ¬ ((((sIx items.size 0 lo : Nat) : Int) == 0 && (1 : Int) == 1 && (sIx items.size items.size hi - sIx items.size 0 lo) == items.size) = true) := by
    intro q
    rw [Bool.and_eq_true, Bool.and_eq_true] at q
    have q1 : ((sIx items.size 0 lo : Nat) : Int) = 0 := eq_of_beq q.1.1
    have q2 : sIx items.size items.size hi - sIx items.size 0 lo = items.size := eq_of_beq q.2
    exact hw ⟨by omega, by omega⟩
  show wpAny _ _ (if (((sIx items.size 0 lo : Nat) : Int) == 0 && (1 : Int) == 1 && (sIx items.size items.size hi - sIx items.size 0 lo) == items.size) = true then _ else _) _ _ s
  rw [if_neg hno, pick_gen]
  first
    | exact wpAny_bind (m := Builtin.Tuple.tupleExact _) (wpAny_newObj_type (wpAny_pure ⟨_, rfl, wpAny_pure h⟩) htake)
    | exact wpAny_bind (m := Builtin.Tuple.tupleExact _) (wpAny_newObj_type (wpAny_bind (wpAny_pure (wpAny_pure ⟨_, rfl, wpAny_pure h⟩))) htake)
    | exact wpAny_bind (wpAny_bind (m := Builtin.Tuple.tupleExact _) (wpAny_newObj_type (wpAny_pure (wpAny_pure ⟨_, rfl, wpAny_pure h⟩)) htake))
    | exact wpAny_bind (wpAny_bind (m := Builtin.Tuple.tupleExact _) (wpAny_newObj_type (wpAny_pure ⟨_, rfl, wpAny_pure h⟩) htake))
end
end HT

namespace L2
open PySem PySem.Spec PyProof.Rows

noncomputable abbrev TO := St → Hp → (Option Int → Hp → Prop) → Prop
noncomputable def PO (X : Cx) (e : Option Expr) (t : TO) : Prop :=
  ∀ (pins : List (Addr × Obj)) (s : Shared) (σ : St) (H : Hp) (Q : Option Int → Hp → Prop), Inv X pins σ H s → t σ H Q →
    wpAny (model X.prog X.w) X.A (evalPart e X.env) (fun u s' => ∃ o H', Inv X pins σ H' s' ∧ IsPart u o ∧ Q o H') X.xe s
noncomputable def tNoPart : TO := fun _ H Q => Q none H
noncomputable def tPart (t : TE) : TO := fun σ H Q => t σ H fun x H1 => ∃ i, x = .int i ∧ Q (some i) H1

theorem intsAre_of {ns : List Int} : ∀ {us : List Value}, Vals (ns.map V.int) us → IntsAre us ns := by
  induction ns with
  | nil => intro us r; rw [List.map_nil] at r; cases r; exact .nil
  | cons n ns ih =>
    intro us r
    rw [List.map_cons] at r
    cases r with
    | cons r1 r2 =>
      obtain ⟨t, e⟩ := r1
      subst e
      exact .cons n t (ih r2)

section
variable {X : Cx} {e : Expr} {te : TE} {lo hi : Option Expr} {tl th : TO} {pos p2 : Pos}

theorem po_none : PO X none tNoPart := by
  intro pins s σ H Q I h
  rw [evalPart_none]
  exact wpAny_pure ⟨none, H, I, .none, h⟩
theorem po_some (h : PE X e te) : PO X (some e) (tPart te) := by
  intro pins s σ H Q I hw
  rw [evalPart_some]
  refine thn (h pins s σ H _ I hw) fun u s1 ⟨x, H1, I1, r1, q1⟩ => ?_
  obtain ⟨i, rfl, q⟩ := q1
  obtain ⟨t, rfl⟩ := r1
  exact ⟨some i, H1, I1, .int i t, q⟩

noncomputable def SlR (X : Cx) (r : V → Option Int → Option Int → Hp → VK → Prop) : Prop :=
  ∀ (pins : List (Addr × Obj)) (s : Shared) (σ : St) (H : Hp) (x : V) (v vl vu : Value) (lo hi : Option Int) (sl : Addr) (Q : VK), Inv X pins σ H s → RelV x v → s.heap.IsSliceOf sl vl vu .none → IsPart vl lo → IsPart vu hi → r x lo hi H Q →
    ∃ T id, typeLookup (.type T) "__getitem__" = pure (some (.builtin id)) ∧ s.TypeIs v T ∧ wpAny (model X.prog X.w) X.A (getItem v (.ref sl)) (EP X pins σ Q) X.xe s
noncomputable def tSl (r : V → Option Int → Option Int → Hp → VK → Prop) (te : TE) (tl th : TO) : TE := fun σ H Q => te σ H fun x H1 => tl σ H1 fun l H2 => th σ H2 fun u H3 => r x l u H3 Q
theorem pe_slice {r : V → Option Int → Option Int → Hp → VK → Prop} (hr : SlR X r) (he : PE X e te) (hl : PO X lo tl) (hu : PO X hi th) : PE X (.Subscript e (.Slice lo hi none p2) pos) (tSl r te tl th) := by
  intro pins s σ H Q I h
  refine Subscript_ (thn (he pins s σ H _ I h) fun v s1 ⟨x, H1, I1, r1, q1⟩ => ?_)
  refine wpAny_Slice (thn (hl pins s1 σ H1 _ I1 q1) fun vl s2 ⟨l, H2, I2, pl, q2⟩ => thn (hu pins s2 σ H2 _ I2 q2) fun vu s3 ⟨u, H3, I3, pu, q3⟩ => ?_)
  rw [evalPart_none]
  refine wpAny_pure ?_
  have I4 : Inv X pins σ H3 { s3 with heap := s3.heap.push { cls := .type "slice", data := .fields #[vl, vu, .none] } } := I3.kept (t' := s3.toks) fun b ob q => Heap.get?_push_of_some _ q
  obtain ⟨T, id, hT, ht, hg⟩ := hr pins { s3 with heap := s3.heap.push { cls := .type "slice", data := .fields #[vl, vu, .none] } } σ H3 x v vl vu l u s3.heap.objs.size Q I4 r1 (Heap.IsSliceOf.new ..) pl pu q3
  show wpAny (model X.prog X.w) X.A (subscriptTail e (.Slice lo hi none p2) v (.ref s3.heap.objs.size)) (EP X pins σ Q) X.xe { s3 with heap := s3.heap.push { cls := .type "slice", data := .fields #[vl, vu, .none] } }
  exact tail_any (ops := [.ref s3.heap.objs.size, v]) ht hT hg (by with_unfolding_all rfl)

noncomputable def cutV (xs : List V) (lo hi : Option Int) : List V := (xs.drop (HT.sIx xs.length 0 lo)).take (HT.sIx xs.length xs.length hi - HT.sIx xs.length 0 lo)
theorem cutV_length (xs : List V) (lo hi : Option Int) : (cutV xs lo hi).length ≤ xs.length := by
  unfold cutV
  rw [List.length_take, List.length_drop]
  omega
noncomputable def rSlT (K : PySem.W.Frag) : V → Option Int → Option Int → Hp → VK → Prop := fun x lo hi H Q => ∃ a xs, x = .ref a ∧ SqT K H a xs ∧
  ¬ (HT.sIx xs.length 0 lo = 0 ∧ HT.sIx xs.length xs.length hi = xs.length) ∧ ∀ p, H p = none → Q (.ref p) (upd H p (.tup (cutV xs lo hi)))
theorem sl_tup : SlR X (rSlT X.K) := by
  intro pins s σ H x v vl vu lo hi sl Q I rx hs pl pu h
  obtain ⟨a, xs, rfl, hx, hw, q⟩ := h
  cases rx
  obtain ⟨its, r, ht, hz⟩ := I.tuple hx
  have hlen : its.toArray.size = xs.length := by rw [List.size_toArray]; exact r.length.symm
  refine ⟨"tuple", _, PyProof.Rows.slot_tuple_getitem.lookup, ht.typeIs, ?_⟩
  refine HT.getItem_tuple_cut ht hs pl pu (by rw [hlen]; exact hw) ?_ (by rw [hlen]; exact hz)
  rw [hlen]
  refine ⟨.ref s.heap.objs.size, _, I.laid (t' := s.toks) (o := .tup (cutV xs lo hi)) (fun b ob q => Heap.get?_push_of_some _ q) (Nat.le_refl _) ?_, rfl, q _ (I.hok.fresh (Nat.le_refl _))⟩
  exact ⟨Nat.le_trans (cutV_length xs lo hi) hz, _, (r.drop (HT.sIx xs.length 0 lo)).take (HT.sIx xs.length xs.length hi - HT.sIx xs.length 0 lo), IsTup.new _ _⟩

noncomputable def rCatT (K : PySem.W.Frag) : R2 := fun x y H Q => ∃ a b xs ys, x = .ref a ∧ y = .ref b ∧ SqT K H a xs ∧ SqT K H b ys ∧ xs ≠ [] ∧ xs.length + ys.length ≤ sizeLine ∧
  (ys = [] → Q (.ref a) H) ∧ (ys ≠ [] → ∀ p, H p = none → Q (.ref p) (upd H p (.tup (xs ++ ys))))
theorem Vals.nil_iff {xs : List V} {us : List Value} (r : Vals xs us) : us = [] ↔ xs = [] := by
  cases r with
  | nil => simp
  | cons _ _ => simp
theorem op_catT : OpR X (binaryOp .Add) (rCatT X.K) := by
  intro pins s σ H x y v u Q I rx ry h
  obtain ⟨a, b, xs, ys, rfl, rfl, ha, hb, hx, hz, q1, q2⟩ := h
  cases rx
  cases ry
  obtain ⟨its, r1, p1, _⟩ := I.tuple ha
  obtain ⟨its2, r2, p2, _⟩ := I.tuple hb
  refine HT.cat_tup p1 p2 (fun z => hx (r1.nil_iff.mp z)) (fun z => ⟨.ref a, H, I, rfl, q1 (r2.nil_iff.mp z)⟩) (fun z => ?_) (by rw [← r1.length, ← r2.length]; exact hz)
  refine ⟨.ref s.heap.objs.size, _, I.laid (t' := s.toks) (o := .tup (xs ++ ys)) (fun b ob q => Heap.get?_push_of_some _ q) (Nat.le_refl _) ?_, rfl, q2 (fun w => z (r2.nil_iff.mpr w)) _ (I.hok.fresh (Nat.le_refl _))⟩
  exact ⟨by rw [List.length_append]; exact hz, _, r1.append r2, IsTup.new _ _⟩
end
end L2

namespace L2
open PySem PySem.Spec PyProof.Rows

noncomputable def ixN (n : Nat) (i : Int) : Option Nat := if 0 ≤ i then (if i < n then some i.toNat else none) else if -(n : Int) ≤ i then some (i + n).toNat else none
noncomputable def atI {α : Type} (xs : List α) (i : Int) : Option α := (ixN xs.length i).bind fun j => xs[j]?
theorem ixN_seq {n : Nat} {i : Int} {j : Nat} (h : ixN n i = some j) : seqIndex? i n = some j ∧ j < n ∧ -(n : Int) ≤ i ∧ i < n := by
  unfold ixN at h
  by_cases h0 : 0 ≤ i
  · rw [if_pos h0] at h
    by_cases h1 : i < n
    · rw [if_pos h1] at h
      have e : i.toNat = j := Option.some.inj h
      exact ⟨by rw [seqIndex_of h0 h1, e], by omega, by omega, h1⟩
    · rw [if_neg h1] at h; cases h
  · rw [if_neg h0] at h
    by_cases h1 : -(n : Int) ≤ i
    · rw [if_pos h1] at h
      have e : (i + n).toNat = j := Option.some.inj h
      exact ⟨by rw [seqIndex_neg (by omega) h1, e], by omega, h1, by omega⟩
    · rw [if_neg h1] at h; cases h
theorem atI_get {α : Type} {xs : List α} {i : Int} {v : α} (h : atI xs i = some v) : ∃ j, seqIndex? i xs.length = some j ∧ xs[j]? = some v ∧ j < xs.length ∧ -(xs.length : Int) ≤ i ∧ i < xs.length := by
  unfold atI at h
  cases e : ixN xs.length i with
  | none => rw [e] at h; cases h
  | some j =>
    rw [e] at h
    obtain ⟨h1, h2, h3, h4⟩ := ixN_seq e
    exact ⟨j, h1, h, h2, h3, h4⟩
theorem atI_nat {α : Type} {xs : List α} {j : Nat} {v : α} (h : xs[j]? = some v) : atI xs (j : Int) = some v := by
  have hj : j < xs.length := (List.getElem?_eq_some_iff.mp h).1
  have e : ixN xs.length (j : Int) = some j := by
    unfold ixN
    rw [if_pos (by omega), if_pos (by omega)]; simp
  unfold atI; rw [e]; exact h
theorem atI_last {α : Type} (xs : List α) (v : α) : atI (xs ++ [v]) (-1) = some v := by
  have hl : (xs ++ [v]).length = xs.length + 1 := by simp
  have e : ixN (xs ++ [v]).length (-1) = some xs.length := by
    unfold ixN
    rw [hl, if_neg (by decide), if_pos (by omega)]
    congr 1
    omega
  unfold atI
  rw [e]
  show (xs ++ [v])[xs.length]? = some v
  simp

noncomputable def PlainIx (b : Expr) : Prop := ∀ o i, subscripted b false o i = operate [o, i] (getItem o i)
noncomputable def IxR (X : Cx) (r : R2) : Prop :=
  ∀ (value slice : Expr) (pins : List (Addr × Obj)) (s : Shared) (σ : St) (H : Hp) (x y : V) (v u : Value) (Q : VK), Inv X pins σ H s → RelV x v → RelV y u → r x y H Q →
    subscripted slice false v u = operate [v, u] (getItem v u) → wpAny (model X.prog X.w) X.A (subscriptTail value slice v u) (EP X pins σ Q) X.xe s
noncomputable def MtR (X : Cx) (id : String) (r : V → List V → Hp → VK → Prop) : Prop :=
  ∀ (pins : List (Addr × Obj)) (s : Shared) (σ : St) (H : Hp) (x : V) (xs : List V) (v : Value) (us : List Value) (Q : VK), Inv X pins σ H s → RelV x v → Vals xs us → r x xs H Q →
    wpAny (model X.prog X.w) X.A (call (.builtin id) (v :: us)) (EP X pins σ Q) X.xe s
section
variable {X : Cx} {a b : Expr} {ta tb : TE} {pos : Pos}
theorem pe_ix {r : R2} (hr : IxR X r) (ha : PE X a ta) (hb : PE X b tb) (hs : PlainIx b) : PE X (.Subscript a b pos) (tOp r ta tb) := by
  intro pins s σ H Q I h
  exact Subscript_ (binT ha hb I h fun v u s2 x y H2 I2 rx ry q => hr a b pins s2 σ H2 x y v u Q I2 rx ry q (hs _ _))

noncomputable def rIxL (K : PySem.W.Frag) : R2 := fun x y H Q => ∃ p xs i v, x = .ref p ∧ y = .int i ∧ SqL K H p xs ∧ atI xs i = some v ∧ Q v H
noncomputable def rIxT (K : PySem.W.Frag) : R2 := fun x y H Q => ∃ p xs i v, x = .ref p ∧ y = .int i ∧ SqT K H p xs ∧ atI xs i = some v ∧ Q v H
theorem ix_list : IxR X (rIxL X.K) := by
  intro value slice pins s σ H x y v u Q I rx ry h hs
  obtain ⟨p, xs, i, z, rfl, rfl, hq, he, q⟩ := h
  cases rx
  obtain ⟨t, rfl⟩ := ry
  obtain ⟨its, r, pl, hz⟩ := I.list hq
  obtain ⟨j, h1, h2, h3, h4, h5⟩ := atI_get he
  obtain ⟨w, ew, rw'⟩ := r.get h2
  have hl := r.length
  have hn := line63
  have fin : EP X pins σ Q w s := ⟨z, H, I, rw', q⟩
  by_cases h0 : 0 ≤ i
  · have hj : i.toNat = j := by
      rw [seqIndex_of h0 h5] at h1
      exact Option.some.inj h1
    exact item_listR pl.isList h0 (by omega) (by rw [hj]; simpa using ew) fin hs
  · have hj : (i + (its.toArray.size : Int)).toNat = j := by
      rw [seqIndex_neg (by omega) h4] at h1
      rw [List.size_toArray, ← hl]
      exact Option.some.inj h1
    exact subscriptTail_builtinR (x := w) pl.isList.typeIs slot_list_getitem.lookup
      (wpAny_getItem_list_neg (Q := fun r s' => r = w ∧ EP X pins σ Q r s') pl.isList (by omega) (by rw [List.size_toArray] <;> omega) (by omega) (by rw [hj]; simpa using ew) ⟨rfl, fin⟩) hs
theorem ix_tup : IxR X (rIxT X.K) := by
  intro value slice pins s σ H x y v u Q I rx ry h hs
  obtain ⟨p, xs, i, z, rfl, rfl, hq, he, q⟩ := h
  cases rx
  obtain ⟨t, rfl⟩ := ry
  obtain ⟨its, r, pl, hz⟩ := I.tuple hq
  obtain ⟨j, h1, h2, h3, h4, h5⟩ := atI_get he
  obtain ⟨w, ew, rw'⟩ := r.get h2
  have hl := r.length
  have hn := line63
  have fin : EP X pins σ Q w s := ⟨z, H, I, rw', q⟩
  exact subscriptTail_builtinR (x := w) pl.typeIs slot_tuple_getitem.lookup
    (getItem_tuple (j := j) (Q := fun r s' => r = w ∧ EP X pins σ Q r s') pl (by omega) (by omega) (by rw [List.size_toArray, ← hl]; exact h1) (by simpa using ew) ⟨rfl, fin⟩) hs
theorem mapSeq_set (its : List Value) (n j : Nat) (u : Value) : Obj.mapSeq (·.setIfInBounds j u) { cls := .type "list", data := .seq its.toArray n } = { cls := .type "list", data := .seq (its.set j u).toArray n } := by
  simp [Obj.mapSeq]
theorem Inv.lst {pins : List (Addr × Obj)} {σ : St} {H : Hp} {s : Shared} {p : Addr} {xs : List V} (I : Inv X pins σ H s) (h : H p = some (.lst xs)) :
    ∃ (its : List Value) (n : Nat), Vals xs its ∧ s.heap.get? p = some { cls := .type "list", data := .seq its.toArray n } ∧ xs.length ≤ sizeLine := by
  obtain ⟨z, its, n, r, e⟩ := I.hok p _ h
  exact ⟨its, n, r, e, z⟩
theorem Inv.lstUpd {pins : List (Addr × Obj)} {σ : St} {H : Hp} {s : Shared} {p : Addr} {xs ys : List V} {its its' : List Value} {n n' : Nat} {f : Obj → Obj} (I : Inv X pins σ H s) (h : H p = some (.lst xs))
    (ho : s.heap.get? p = some { cls := .type "list", data := .seq its.toArray n }) (hf : f { cls := .type "list", data := .seq its.toArray n } = { cls := .type "list", data := .seq its'.toArray n' }) (r : Vals ys its') (hz : ys.length ≤ sizeLine) (t : Nat) :
    Inv X pins σ (upd H p (.lst ys)) { s with heap := s.heap.update p f, toks := t } := by
  have e : (s.heap.update p f).get? p = some { cls := .type "list", data := .seq its'.toArray n' } := by
    rw [Heap.get?_update_self f ho (by rw [hf] <;> rfl), hf]
  refine I.write (x := p) (e := p) (by rw [h]; trivial) (.inl rfl) (fun b u hb q => (Heap.get?_update_other _ _ (Ne.symm hb)).trans q) ⟨_, e⟩ ?_
  exact ⟨hz, its', n', r, e⟩
noncomputable def rSetL : V → V → V → Hp → (Hp → Prop) → Prop := fun o i v H Q => ∃ p xs k j, o = .ref p ∧ i = .int k ∧ H p = some (.lst xs) ∧ ixN xs.length k = some j ∧ Q (upd H p (.lst (xs.set j v)))
theorem set_list : PSet X rSetL := by
  intro pins s σ H o i v ov iv u Q I ro ri rv h
  obtain ⟨p, xs, k, j, rfl, rfl, hp, hj, q⟩ := h
  cases ro
  obtain ⟨t, rfl⟩ := ri
  obtain ⟨its, n, r, ho, hz⟩ := I.lst hp
  obtain ⟨h1, h2, h3, h4⟩ := ixN_seq hj
  have hl := r.length
  have hn := line63
  have I' : Inv X pins σ (upd H p (.lst (xs.set j v))) { s with heap := s.heap.update p (Obj.mapSeq (·.setIfInBounds j u)) } :=
    I.lstUpd hp ho (mapSeq_set its n j u) (r.set rv j) (by rw [List.length_set]; exact hz) s.toks
  by_cases h0 : 0 ≤ k
  · have hk : k.toNat = j := by
      rw [seqIndex_of h0 h4] at h1
      exact Option.some.inj h1
    exact PySem.W.ki_setAt ho h0 (by omega) (by rw [List.size_toArray, ← hl]; exact h4) (by rw [hk]; exact ⟨_, I', q⟩)
  · have hk : (k + (its.toArray.size : Int)).toNat = j := by
      rw [seqIndex_neg (by omega) h3] at h1
      rw [List.size_toArray, ← hl]
      exact Option.some.inj h1
    exact PySem.W.ki_setBack ho (by omega) (by rw [List.size_toArray, ← hl]; exact h3) (by omega) (by rw [hk]; exact ⟨_, I', q⟩)

theorem slice_bounds (lo hi : Option Int) (n : Nat) : (sliceBounds lo hi none n).1 = ((HT.sIx n 0 lo : Nat) : Int) ∧ (sliceBounds lo hi none n).2.1 = ((HT.sIx n n hi : Nat) : Int) ∧ (sliceBounds lo hi none n).2.2 = 1 := by
  refine ⟨?_, ?_, rfl⟩
  · cases lo with
    | none => simp [sliceBounds, HT.sIx]
    | some i =>
      simp only [sliceBounds, HT.sIx, Option.getD_none, show (1 : Int) > 0 by decide, if_true]
      by_cases h : i < 0
      · simp only [h, if_true] <;> omega
      · simp only [h, if_false] <;> omega
  · cases hi with
    | none => simp [sliceBounds, HT.sIx]
    | some i =>
      simp only [sliceBounds, HT.sIx, Option.getD_none, show (1 : Int) > 0 by decide, if_true]
      by_cases h : i < 0
      · simp only [h, if_true] <;> omega
      · simp only [h, if_false] <;> omega
theorem slicePick_cut (its : List Value) (lo hi : Option Int) : slicePick its.toArray lo hi none = ((its.drop (HT.sIx its.length 0 lo)).take (HT.sIx its.length its.length hi - HT.sIx its.length 0 lo)).toArray := by
  obtain ⟨h1, h2, h3⟩ := slice_bounds lo hi its.toArray.size
  unfold slicePick
  rw [h1, h2, h3]
  simp only [sliceRange_one, pick_run, List.size_toArray] <;> rfl
noncomputable def rSlL (K : PySem.W.Frag) : V → Option Int → Option Int → Hp → VK → Prop := fun x lo hi H Q => ∃ a xs, x = .ref a ∧ SqL K H a xs ∧ ∀ p, H p = none → Q (.ref p) (upd H p (.lst (cutV xs lo hi)))
theorem sl_list : SlR X (rSlL X.K) := by
  intro pins s σ H x v vl vu lo hi sl Q I rx hs pl pu h
  obtain ⟨a, xs, rfl, hx, q⟩ := h
  cases rx
  obtain ⟨its, r, ht, hz⟩ := I.list hx
  have hlen := r.length
  refine ⟨"list", _, slot_list_getitem.lookup, ht.isList.typeIs, ?_⟩
  refine wpAny_getItem_list_slice ht.isList hs pl pu .none (by simp) ?_ (by rw [List.size_toArray] <;> omega)
  rw [slicePick_cut, ← hlen]
  refine ⟨.ref s.heap.objs.size, _, I.laid (t' := s.toks) (o := .lst (cutV xs lo hi)) (fun b ob q => Heap.get?_push_of_some _ q) (Nat.le_refl _) ?_, rfl, q _ (I.hok.fresh (Nat.le_refl _))⟩
  exact ⟨Nat.le_trans (cutV_length xs lo hi) hz, _, 0, (r.drop (HT.sIx xs.length 0 lo)).take (HT.sIx xs.length xs.length hi - HT.sIx xs.length 0 lo), Heap.get?_push_size _ rfl⟩

theorem call_len_seq : CallR X (.builtin "len") (fun xs H Q => ∃ p ys, xs = [.ref p] ∧ (SqL X.K H p ys ∨ SqT X.K H p ys) ∧ Q (.int ys.length) H) := by
  intro pins s σ H xs us Q I r h
  obtain ⟨p, ys, rfl, hq, q⟩ := h
  obtain ⟨u, rfl, rx⟩ := vals1 r
  cases rx
  have hn := line63
  rcases hq with hq | hq
  · obtain ⟨its, r', pl, hz⟩ := I.list hq
    have hlen := r'.length
    exact Calls.call_len_list pl.isList (by simp only [List.size_toArray] <;> omega) ⟨.int ys.length, H, I.tok _, ⟨s.toks + 1, by rw [List.size_toArray, hlen]⟩, q⟩
  · obtain ⟨its, r', pl, hz⟩ := I.tuple hq
    have hlen := r'.length
    exact len_tuple pl (by simp only [List.size_toArray] <;> omega) ⟨.int ys.length, H, I.tok _, ⟨s.toks + 1, by rw [List.size_toArray, hlen]⟩, q⟩
theorem call_tuple_of : CallR X (.type "tuple") (fun xs H Q => ∃ p ys, xs = [.ref p] ∧ ((SqL X.K H p ys ∧ ∀ l, H l = none → Q (.ref l) (upd H l (.tup ys))) ∨ (SqT X.K H p ys ∧ Q (.ref p) H))) := by
  intro pins s σ H xs us Q I r h
  obtain ⟨p, ys, rfl, h⟩ := h
  obtain ⟨u, rfl, rx⟩ := vals1 r
  cases rx
  rcases h with ⟨hq, q⟩ | ⟨hq, q⟩
  · obtain ⟨its, r', pl, hz⟩ := I.list hq
    have hlen := r'.length
    refine call_tuple_list pl.isList (fun h' kp => ?_) (by simp only [List.size_toArray] <;> omega)
    have I1 : Inv X pins σ H { s with heap := h' } := I.kept (t' := s.toks) kp
    have I2 : Inv X pins σ (upd H h'.objs.size (.tup ys)) { s with heap := h'.push { cls := .type "tuple", data := .seq its.toArray } } :=
      I1.laid (t' := s.toks) (fun b o e => Heap.get?_push_of_some _ e) (Nat.le_refl _) (show ObjOk X.prog X.w _ _ _ (.tup ys) from ⟨hz, its, r', IsTup.new _ _⟩)
    exact ⟨.ref h'.objs.size, _, I2, rfl, q _ (I1.hok.fresh (Nat.le_refl _))⟩
  · obtain ⟨its, r', pl, hz⟩ := I.tuple hq
    exact call_tuple_same pl ⟨.ref p, H, I, rfl, q⟩

noncomputable def tyV (K : PySem.W.Frag) (T : String) (x : V) (H : Hp) : Prop := match x with
  | .str _ => T = "str"
  | .int _ => T = "int"
  | .ref p => (T = "list" ∧ ∃ xs, SqL K H p xs) ∨ (T = "tuple" ∧ ∃ o, K.lookup p = some o ∧ o.cls = .type "tuple" ∧ o.dict = none) ∨
      (T = "dict" ∧ ((∃ kvs, H p = some (.dK kvs)) ∨ ∃ kvs, H p = some (.dT kvs))) ∨ (T = "set" ∧ ∃ S n, H p = some (.set S n))
  | _ => False
theorem tyV_is {pins : List (Addr × Obj)} {σ : St} {H : Hp} {s : Shared} {T : String} {x : V} {v : Value} (I : Inv X pins σ H s) (r : RelV x v) (ty : tyV X.K T x H) :
    s.TypeIs v T ∧ ∀ a, v = .ref a → ∃ ob, s.heap.get? a = some ob ∧ ob.dict = none := by
  cases x with
  | str z =>
    obtain ⟨t, rfl⟩ := r
    cases (show T = "str" from ty)
    exact ⟨typeIs_str s z t, fun _ e => nomatch e⟩
  | int i =>
    obtain ⟨t, rfl⟩ := r
    cases (show T = "int" from ty)
    exact ⟨typeIs_int s i t, fun _ e => nomatch e⟩
  | ref p =>
    cases r
    rcases ty with ⟨rfl, xs, hq⟩ | ⟨rfl, o, hk, hc, hd⟩ | ⟨rfl, hk⟩ | ⟨rfl, S, n, hk⟩
    · obtain ⟨its, _, pl, _⟩ := I.list hq
      refine ⟨pl.isList.typeIs, fun a e => ?_⟩
      cases e
      obtain ⟨o, n, e, c, hd, _⟩ := pl
      exact ⟨o, e, hd⟩
    · refine ⟨⟨o, I.kIn p o hk, hc⟩, fun a e => ?_⟩
      cases e
      exact ⟨o, I.kIn _ o hk, hd⟩
    · have z : ∃ o, s.heap.get? p = some o ∧ o.ExactDict := by
        rcases hk with ⟨kvs, hk⟩ | ⟨kvs, hk⟩
        · obtain ⟨_, _, _, _, o, _, _, e, ex, _⟩ := I.hok p _ hk
          exact ⟨o, e, ex⟩
        · obtain ⟨_, _, _, _, o, _, _, e, ex, _⟩ := I.hok p _ hk
          exact ⟨o, e, ex⟩
      obtain ⟨o, e, ex⟩ := z
      refine ⟨⟨o, e, ex.1⟩, fun a e2 => ?_⟩
      cases e2
      exact ⟨o, e, ex.2.1⟩
    · obtain ⟨o, _, _, _, e, ex, _⟩ := I.hok p _ hk
      refine ⟨⟨o, e, ex.1⟩, fun a e2 => ?_⟩
      cases e2
      exact ⟨o, e, ex.2.1⟩
  | _ => exact False.elim ty
noncomputable def tBM0 (K : PySem.W.Frag) (T : String) (r : V → List V → Hp → VK → Prop) (to : TE) : TE := fun σ H Q => to σ H fun x H1 => tyV K T x H1 ∧ r x [] H1 Q
noncomputable def tBM (K : PySem.W.Frag) (T : String) (r : V → List V → Hp → VK → Prop) (to : TE) (t : TA) : TE := fun σ H Q => to σ H fun x H1 => tyV K T x H1 ∧ t σ H1 fun xs H2 => r x xs H2 Q
variable {o e : Expr} {es : List Expr} {to : TE} {t : TA} {name : Str} {apos cpos : Pos} {T id : String} {r : V → List V → Hp → VK → Prop}
theorem pe_bm (pa : PlainAttrs T) (slot : Slot T name id) (hty : typeOf (.builtin id) = pure (.type "method_descriptor")) (hm : MtR X id r) (ho : PE X o to) (ha : PA X (e :: es) t)
    (hbase : attributeBase o name X.env (eval o X.env) = eval o X.env := by rfl)
    (hfew : ((backTo cpos (starEach (e :: es) X.env)).all (fun x => !x.1) && (backToKw cpos (keywordEach [] X.env)).all (fun x => x.1.isSome)
      && decide ((e :: es).length + ([] : List Keyword).length + (if ([] : List Keyword).isEmpty then 0 else 1) < 30)) = true := by rfl)
    (hline : (apos.endLine == cpos.line) = true := by rfl) (hs : starEach (e :: es) X.env = (false, eval e X.env) :: starEach es X.env := by rfl) (hplain : (backTo cpos (starEach es X.env)).any (·.1) = false := by rfl) :
    PE X (.Call (.Attribute o name apos) (e :: es) [] cpos) (tBM X.K T r to t) := by
  intro pins s σ H Q I h
  refine wpAny_Call_method_late hbase hfew hline rfl (thn (ho pins s σ H _ I h) fun v s1 ⟨x, H1, I1, r1, ty, q1⟩ => ?_)
  obtain ⟨h1, h2⟩ := tyV_is I1 r1 ty
  refine ⟨T, id, pa, slot, hty, h1, h2, ?_⟩
  have hA := ha cpos pins s1 σ H1 _ I1 q1
  rw [hs] at hA ⊢
  refine Calls.callWith_builtin (by show (false || (backTo cpos (starEach es X.env)).any (·.1)) = false; rw [hplain] <;> rfl) (Calls.evalArgs_plain ?_)
  exact thn hA fun us s2 ⟨vs, H2, I2, r2, q2⟩ => hm pins s2 σ H2 x vs v us Q I2 r1 r2 q2
end
end L2

namespace L2
open PySem PySem.Spec PyProof.Rows

noncomputable def MtM (X : Cx) (id : String) (r : V → List V → Hp → VK → Prop) : Prop :=
  ∀ (pins : List (Addr × Obj)) (s : Shared) (σ : St) (H : Hp) (x : V) (xs : List V) (v : Value) (us : List Value) (Q : VK), Inv X pins σ H s → RelV x v → Vals xs us → r x xs H Q →
    wpAny (model X.prog X.w) X.A (call (.builtin id) (v :: us)) (EP X pins σ Q) X.xe s

theorem Vals.one : ∀ {x : V} {us : List Value}, Vals [x] us → ∃ u, us = [u] ∧ RelV x u
  | _, _, .cons r .nil => ⟨_, rfl, r⟩
theorem Vals.eraseIdx : ∀ {xs : List V} {us : List Value} (i : Nat), Vals xs us → Vals (xs.eraseIdx i) (us.eraseIdx i)
  | _, _, _, .nil => .nil
  | _, _, 0, .cons _ t => t
  | _, _, i + 1, .cons r t => .cons r (Vals.eraseIdx i t)
theorem Vals.reverse {xs : List V} {us : List Value} (h : Vals xs us) : Vals xs.reverse us.reverse := by
  induction h with
  | nil => exact .nil
  | cons r t ih => rw [List.reverse_cons, List.reverse_cons]; exact Vals.append ih (.cons r .nil)
theorem Vals.rep {xs : List V} {us : List Value} (h : Vals xs us) : ∀ k : Nat, Vals (List.replicate k xs).flatten (List.replicate k us).flatten
  | 0 => .nil
  | k + 1 => by
    rw [List.replicate_succ, List.replicate_succ, List.flatten_cons, List.flatten_cons]
    exact Vals.append h (Vals.rep h k)
theorem len_erase {α : Type} : ∀ (l : List α) (i : Nat), (l.eraseIdx i).length ≤ l.length
  | [], _ => Nat.le_refl _
  | _ :: _, 0 => Nat.le_succ _
  | _ :: r, i + 1 => Nat.succ_le_succ (len_erase r i)
theorem foldl_rep (its : List Value) : ∀ (k : Nat) (acc : List Value),
    List.foldl (fun x1 x2 => x1 ++ x2) acc.toArray (List.replicate k its.toArray) = (acc ++ (List.replicate k its).flatten).toArray
  | 0, acc => by simp
  | k + 1, acc => by
    have e : acc.toArray ++ its.toArray = (acc ++ its).toArray := by simp
    have e2 : (acc ++ its) ++ (List.replicate k its).flatten = acc ++ (List.replicate (k + 1) its).flatten := by
      rw [List.replicate_succ, List.flatten_cons, List.append_assoc]
    rw [← e2, ← foldl_rep its k (acc ++ its), ← e, List.replicate_succ, List.foldl_cons]

section
variable {X : Cx} {pins : List (Addr × Obj)} {σ : St} {H : Hp} {s : Shared} {l b : Addr} {xs ys zs : List V}

theorem Inv.lset {its its' : List Value} {n : Nat} {f : Array Value → Array Value} {t' : Nat} (I : Inv X pins σ H s) (hH : H l = some (.lst xs))
    (e : s.heap.get? l = some { cls := .type "list", data := .seq its.toArray n }) (hf : f its.toArray = its'.toArray) (hv : Vals ys its') (hz : ys.length ≤ sizeLine) :
    Inv X pins σ (upd H l (.lst ys)) { s with heap := s.heap.update l (Obj.mapSeq f), toks := t' } := by
  have q := PySem.IsL.update e f
  rw [hf] at q
  refine I.write (x := l) (e := l) (by rw [hH]; exact trivial) (.inl rfl) (fun b' u hb hu => (Heap.get?_update_other s.heap (Obj.mapSeq f) (Ne.symm hb)).trans hu) ⟨_, q⟩ ?_
  exact ⟨hz, its', _, hv, q⟩
theorem Inv.lnew {its : List Value} {t' : Nat} (I : Inv X pins σ H s) (hv : Vals ys its) (hz : ys.length ≤ sizeLine) :
    Inv X pins σ (upd H s.heap.objs.size (.lst ys)) { s with heap := s.heap.push { cls := .type "list", data := .seq its.toArray }, toks := t' } :=
  I.laid (fun _ _ q => Heap.get?_push_of_some _ q) (Nat.le_refl _) ⟨hz, its, 0, hv, Heap.get?_push_size _ rfl⟩
theorem Inv.fresh (I : Inv X pins σ H s) : H s.heap.objs.size = none := I.hok.fresh (Nat.le_refl _)
theorem Inv.lstM (I : Inv X pins σ H s) (hH : H l = some (.lst xs)) : xs.length ≤ sizeLine ∧ ∃ (its : List Value) (n : Nat), Vals xs its ∧ xs.length = its.length ∧ s.heap.get? l = some { cls := .type "list", data := .seq its.toArray n } := by
  obtain ⟨z, its, n, r, e⟩ := I.hok l _ hH
  exact ⟨z, its, n, r, r.length, e⟩

theorem notLongL {n : Nat} (h : n ≤ sizeLine) : Builtin.List.listTooLong n = false := by
  unfold Builtin.List.listTooLong
  exact decide_eq_false (by omega)
end

section
variable {X : Cx}

noncomputable def rAppend : V → List V → Hp → VK → Prop := fun x vs H Q => ∃ l xs y, x = .ref l ∧ vs = [y] ∧ H l = some (.lst xs) ∧ xs.length < sizeLine ∧ Q .non (upd H l (.lst (xs ++ [y])))
theorem mt_append : MtM X "list.append" rAppend := by
  intro pins s σ H x vs v us Q I rx rv h
  obtain ⟨l, xs, y, rfl, rfl, hH, hz, q⟩ := h
  cases rx
  obtain ⟨u, rfl, ru⟩ := rv.one
  obtain ⟨z, its, n, r, hl, e⟩ := I.lstM hH
  refine call_meets F.slot_list_append ⟨_, e, rfl⟩ F.entry_list_append (F.args_list_append_2 _ _) (PySem.list_append l its.toArray n u (by rw [List.size_toArray]; omega)) ⟨e, ?_⟩
  refine ⟨.non, _, I.lset (its' := its ++ [u]) hH e (by simp) (r.append (.cons ru .nil)) ?_, rfl, q⟩
  rw [List.length_append, List.length_singleton]
  omega

noncomputable def rPopAt : V → List V → Hp → VK → Prop := fun x vs H Q => ∃ l xs i k y, x = .ref l ∧ vs = [.int i] ∧ H l = some (.lst xs) ∧ -(2 ^ 63) ≤ i ∧ i < 2 ^ 63 ∧ seqIndex? i xs.length = some k ∧ xs[k]? = some y ∧ Q y (upd H l (.lst (xs.eraseIdx k)))
theorem mt_popAt : MtM X "list.pop" rPopAt := by
  intro pins s σ H x vs v us Q I rx rv h
  obtain ⟨l, xs, i, k, y, rfl, rfl, hH, h1, h2, hk, hy, q⟩ := h
  cases rx
  obtain ⟨u, rfl, ru⟩ := rv.one
  obtain ⟨t, rfl⟩ := ru
  obtain ⟨z, its, n, r, hl, e⟩ := I.lstM hH
  obtain ⟨w, hw, rw'⟩ := r.get hy
  refine call_meets F.slot_list_pop ⟨_, e, rfl⟩ F.entry_list_pop (F.args_list_pop_2 _ _)
    (MeetsSeq.list_pop_at l its.toArray n i t k w (fitsIndex_both h1 h2) (by rw [List.size_toArray, ← hl]; exact hk) (by rw [← Array.getElem?_toList]; exact hw) (by rw [List.size_toArray]; omega)) ⟨e, ?_⟩
  refine ⟨y, _, I.lset (its' := its.eraseIdx k) hH e ?_ (r.eraseIdx k) ?_, rw', q⟩
  · show its.toArray.eraseIdxIfInBounds k = (its.eraseIdx k).toArray
    rw [List.eraseIdxIfInBounds_toArray]
  · have := len_erase xs k
    omega

noncomputable def rCat : R2 := fun x y H Q => ∃ l b xs zs, x = .ref l ∧ y = .ref b ∧ H l = some (.lst xs) ∧ H b = some (.lst zs) ∧ xs.length + zs.length ≤ sizeLine ∧ ∀ p, H p = none → Q (.ref p) (upd H p (.lst (xs ++ zs)))
theorem op_cat : OpR X (binaryOp .Add) rCat := by
  intro pins s σ H x y v u Q I rx ry h
  obtain ⟨l, b, xs, zs, rfl, rfl, hH, hB, hz, q⟩ := h
  cases rx
  cases ry
  obtain ⟨z, its, n, r, hl, e⟩ := I.lstM hH
  obtain ⟨z2, its2, n2, r2, hl2, e2⟩ := I.lstM hB
  refine PySem.P.add_list e e2 ?_ (by rw [List.size_toArray, List.size_toArray]; omega)
  have ea : its.toArray ++ its2.toArray = (its ++ its2).toArray := by simp
  rw [ea]
  exact ⟨.ref _, _, I.lnew (t' := s.toks) (r.append r2) (by rw [List.length_append]; omega), rfl, q _ I.fresh⟩
noncomputable def rRep : R2 := fun x y H Q => ∃ l k xs, x = .ref l ∧ y = .int k ∧ H l = some (.lst xs) ∧ -(2 ^ 63) ≤ k ∧ k < 2 ^ 63 ∧ xs.length * k.toNat ≤ sizeLine ∧
  ∀ p, H p = none → Q (.ref p) (upd H p (.lst (List.replicate k.toNat xs).flatten))
theorem len_rep {α : Type} (xs : List α) (k : Nat) : (List.replicate k xs).flatten.length = k * xs.length := by
  induction k with
  | zero => simp
  | succ k ih => rw [List.replicate_succ, List.flatten_cons, List.length_append, ih, Nat.succ_mul, Nat.add_comm]
theorem op_rep : OpR X (binaryOp .Mult) rRep := by
  intro pins s σ H x y v u Q I rx ry h
  obtain ⟨l, k, xs, rfl, rfl, hH, h1, h2, hz, q⟩ := h
  cases rx
  obtain ⟨t, rfl⟩ := ry
  obtain ⟨z, its, n, r, hl, e⟩ := I.lstM hH
  have hlen : its.toArray.size * k.toNat ≤ sizeLine := by rw [List.size_toArray, ← hl]; exact hz
  have hcap : ¬ its.toArray.size * k.toNat > (2 ^ 63 - 1) / 8 := by
    have : (sizeLine : Nat) ≤ (2 ^ 63 - 1) / 8 := by decide
    omega
  have hfit : ¬ (!Builtin.List.listFitsIndex k) = true := by
    rw [fitsIndex_both h1 h2]
    exact Bool.false_ne_true
  have hlong : ¬ Builtin.List.listTooLong (its.toArray.size * k.toNat) = true := by
    rw [notLongL hlen]
    exact Bool.false_ne_true
  have hnew : List.foldl (fun x1 x2 => x1 ++ x2) #[] (List.replicate (if its.toArray.isEmpty = true then 0 else k.toNat) its.toArray) = (List.replicate k.toNat its).flatten.toArray := by
    have f0 : ∀ m : Nat, List.foldl (fun x1 x2 => x1 ++ x2) #[] (List.replicate m its.toArray) = (List.replicate m its).flatten.toArray := fun m => by
      have := foldl_rep its m []
      rw [List.nil_append] at this
      exact this
    rw [f0]
    cases its with
    | nil => simp
    | cons a r' => rw [if_neg (by simp)]
  refine wpAny_binaryOp_repeat_ref (T := "list") (U := "int") (by decide) ⟨_, e, rfl⟩ (fun s' => typeIs_int s' k t) noFill_list_mul F.fills_int_mul F.slot_int_rmul repeat_list F.slot_int_index.lookup
    (call_meets F.slot_int_rmul (typeIs_int s k t) F.entry_int_rmul (F.args_int_rmul_2 _ _) (int___rmul___int_list k t l its.toArray n)
      ⟨e, rfl, ⟨_, e, rfl⟩, call_meets F.slot_list_mul ⟨_, e, rfl⟩ F.entry_list_mul (F.args_list_mul_2 _ _) (AutoListH.list___mul___list_int_3 l its.toArray n k t hfit hcap hlong) ⟨e, ?_⟩⟩)
  rw [hnew]
  exact ⟨.ref _, _, I.lnew (t' := s.toks) (r.rep k.toNat) (by rw [len_rep, Nat.mul_comm]; exact hz), rfl, q _ I.fresh⟩

end

section
variable {prog : Program} {w : World} {A : Around} {E : Value → Shared → Prop} {s : Shared}
end

section
variable {X : Cx}
end
end L2

namespace Att
open PySem PySem.W PySem.Calls PyProof.Rows

theorem ints_of_wellAll {P : Params} {h : Heap} : ∀ (ns : List Int) (vs : List Value), WellAll P h vs (ns.map WData.int) → IntsAre vs ns := by
  intro ns
  induction ns with
  | nil =>
    intro vs w
    rw [List.map_nil] at w
    cases w
    exact .nil
  | cons n ns ih =>
    intro vs w
    rw [List.map_cons] at w
    cases w with
    | cons a b =>
      cases a
      exact .cons _ _ (ih _ b)

theorem script_of {l : OpenLaw} {n : Nat} (hn : l.most = some n) {P : Params} {h : Heap} {args : List WData} {vals : List Value}
    (hpre : l.row.toRowW.claim.pre args = true) (hwl : WellAll P h vals args) :
    ∃ a vs ns, vals = [Value.ref a] ∧ args = [WData.list (ns.map WData.int)] ∧ h.get? a = some { cls := .type "list", data := .seq vs.toArray } ∧ IntsAre vs ns ∧ ns.length ≤ n := by
  have hsh : WShape.hasAll [] args [.list .int] = true := (pre_splitW hpre).1
  have hc : l.pre.holds [] { args := args } = true := (pre_splitW hpre).2
  obtain ⟨d, r, rfl, h1, h2⟩ := hasAllW_cons hsh
  obtain rfl := hasAllW_nil h2
  obtain ⟨xs, rfl, h3⟩ := hasW_list h1
  obtain ⟨ns, rfl⟩ := items_int h3
  have hlen : ns.length ≤ n := by
    unfold OpenLaw.pre at hc
    have h4 : (WTm.not (.lt (.lit (.int (n : Int))) (.len (.arg 0)))).holds [] { args := [.list (ns.map .int)] } = true := by
      have h4 := (holds_andW hc).1
      rw [hn] at h4
      exact h4
    have h5 := condW_of h4 (w_not (w_lt w_lit (w_len_list (w_arg rfl))))
    rw [List.length_map] at h5
    refine Nat.le_of_not_lt fun q => ?_
    have q' : (n : Int) < ((ns.length : Nat) : Int) := by omega
    first
      | (rw [decide_eq_true q'] at h5; exact absurd h5 (by decide))
      | (simp at h5; omega)
  cases hwl with
  | cons w1 w2 =>
    cases w2
    cases w1 with
    | list ho hall => exact ⟨_, _, ns, rfl, rfl, ho, ints_of_wellAll ns _ hall, hlen⟩

theorem post_true (l : OpenLaw) (args : List WData) : l.row.toRowW.claim.post args (.bool true) args = true :=
  postW_of (r := l.row.toRowW) (X := (true == true))
    (show WShape.has [] (.bool true) .bool = true by first | rfl | decide | simp [WShape.has, WShape.arms, WShape.armsAll])
    (show (WTm.eq .res (.lit (.bool true))).value [] { args := args, res := some (.bool true), after := args } = some (.bool (true == true)) from w_eq_bool (w_res rfl) w_lit) rfl

theorem attach_call {l : OpenLaw} {n : Nat} {q : Program} {loose : List Str} {XP : (Str → Option Value) → Heap → Prop} {YP : World → Heap → Prop} {d : DefRec}
    (hn : l.most = some n) (hdf : d.params.defaults = [])
    (call : ∀ (w : World) (s₀ s₁ : Shared) (mg mb : Str → Option Value) (fa : Addr) (o : Obj) (pm cd doc : Value) (a : Addr) (vs : List Value) (ns : List Int),
      Ground q loose [] XP w s₀ mg mb s₁.heap → YP w s₁.heap →
      s₁.heap.get? fa = some o → o.data = .func (docDef d.name d.params d.body d.scope pm cd doc) → s₁.heap.CodeRec cd d.name → mg d.name = some (.ref fa) →
      s₁.heap.get? a = some { cls := .type "list", data := .seq vs.toArray } → IntsAre vs ns → ns.length ≤ n → s₁.gens = #[] →
      codeAny (model l.prog w) callerA (.call (.ref fa) ⟨[.ref a], []⟩) (fun r s' => r = .ok (.ret (.bool true)) ∧ OldK s₁.heap s'.heap ∧ s'.os = s₁.os ∧ AllBare s'.gens) s₁) :
    WalkO q loose XP YP l.row.toRowW d [] (fun f vs => PySem.call f vs) := by
  intro w s₀ s₁ mg mb G Y fa o pm cd doc dV kV ho hd hcd hD hmg hg args vals as hpre hlay hrd hwl hlo
  obtain rfl : dV = .none := Dflts.none hD hdf
  obtain rfl : kV = .none := Dflts.noKw hD
  obtain ⟨a, vs, ns, rfl, rfl, hobj, hints, hlen⟩ := script_of hn hpre hwl
  refine enter_call (codeAny_mono (call w s₀ s₁ mg mb fa o pm cd doc a vs ns G Y ho (fd_plain hd) hcd hmg hobj hints hlen hg) fun r s' hq => ?_)
  obtain ⟨rfl, h2, h3, h4⟩ := hq
  exact ⟨.inl ⟨.bool true, .bool true, [], rfl, fun _ => rfl, .bool true, post_true l _, fun _ => ⟨List.Pairwise.nil, fun _ hm => (nomatch hm)⟩⟩, h2, h3, h4⟩

section
variable {prog : Program} {w : World} {A : Around} {E : Value → Shared → Prop} {s : Shared} {K : Frag}

theorem get_field {x C : Addr} {ox : Obj} {es : List DictEntry} {n : Nat} {name : Str} {expr : Bool} {v : Value} {Q : Value → Shared → Prop}
    (X : K.In s.heap) (I : PySem.W.InstAt s.heap x ox C (some (dictOf es n))) (hg : plainGet K C name = true) (hh : hasDictIn K C = true) (ha : findIn K (.ref C) name = some none)
    (hl : getL name es = some (some v)) (hv : handedIn v = true) (h : Q v { s with toks := s.toks + 1 }) : wpAny (model prog w) A (getAttr (.ref x) name expr) Q E s :=
  get_value X I (plainGet_of hg).1 (findObj_own hh ha rfl hl) hv h

end
end Att

namespace L2
open PySem PySem.Spec PyProof.Rows

theorem vals_ints : ∀ {vs : List Value} {ns : List Int}, IntsAre vs ns → Vals (ns.map V.int) vs
  | _, _, .nil => .nil
  | _, _, .cons n t h => .cons ⟨t, rfl⟩ (vals_ints h)

end L2

namespace L2
open PySem PySem.Spec PyProof.Rows

end L2



namespace L2
open PySem PySem.Spec PyProof.Rows

noncomputable def inClass (s : Stmt) (j : Nat) : Stmt := match s with
  | .ClassDef _ _ _ body _ _ _ _ _ _ _ => body.getD j (.Pass ⟨0, 0, 0, 0⟩)
  | _ => .Pass ⟨0, 0, 0, 0⟩
noncomputable def defArgs (s : Stmt) : Arguments := match s with
  | .FunctionDef _ a _ _ _ _ _ _ _ _ => a
  | _ => { posonlyargs := [], args := [], vararg := none, kwonlyargs := [], kw_defaults := [], kwarg := none, defaults := [] }
noncomputable def defBody (s : Stmt) : List Stmt := match s with
  | .FunctionDef _ _ b _ _ _ _ _ _ _ => b
  | _ => []
noncomputable def defScope (s : Stmt) : Scope := match s with
  | .FunctionDef _ _ _ _ _ _ sc _ _ _ => sc
  | _ => { kind := .function, names := [], isGenerator := false, isCoroutine := false }

noncomputable abbrev CX0 : CXT := fun _ _ _ _ _ _ => False
noncomputable abbrev E0 : XK := fun _ _ _ => False
theorem pass0 {X : Cx} : Passes CX0 X E0 := fun _ _ _ _ _ _ _ h => h.elim

structure Fun (K : PySem.W.Frag) (x qual : Str) (st : Stmt) (f : Addr) (fd : FuncData) : Prop where
  ex : ∃ (oc : Value) (od : Option Addr) (kV doc pm : Value) (an : Option Addr) (cdv ct : Value) (osl : Array (Option Value)),
    fd = PySem.W.fnOf x qual (defArgs st) (defBody st) (defScope st) .none kV doc pm an cdv ct ∧ K.lookup f = some ⟨oc, od, .func fd, osl⟩ ∧ PySem.W.codeIn K cdv qual = true
  kp : PySem.W.keepIn K (.ref f) = true
section
variable {P : Program} {w : World} {K : PySem.W.Frag} {mg : Str → Option Value} {base : Heap}
theorem Fun.ok {x qual : Str} {st : Stmt} {f : Addr} {fd : FuncData} {N ps : List Str} {k : Nat} {sp : Sp} (F : Fun K x qual st f fd) (S : FnScope N ps (defScope st)) (len : ∀ vs H Q E, sp vs H Q E → vs.length = ps.length)
    (hbody : ∀ (cdv : Value) (A : Around) (outer : List Env) (s : Shared) (H : Hp) (vs : List V) (Q : VK) (E : XK), Room k (A.deeper (envOfC qual (defScope st) s.heap.objs.size f cdv)) → sp vs H Q E →
      ∃ t, PSs (cxOf CX0 P w K mg base N qual (defScope st) f cdv A outer s H E).nox (defBody st) t ∧ t { nx := fun _ H' => Q .non H', rt := Q } (start N vs) H) : FnOk P w K mg base CX0 (k + 1) f fd ps sp := by
  obtain ⟨oc, od, kV, doc, pm, an, cdv, ct, osl, rfl, lk, hcd⟩ := F.ex
  refine fn_of lk hcd S len fun A outer s H vs Q E hr hsp => ?_
  obtain ⟨t, h, q⟩ := hbody cdv A outer s H vs Q E hr hsp
  exact ⟨t, h.nox, q⟩
theorem Fun.binds {x qual : Str} {st : Stmt} {f : Addr} {fd : FuncData} {ps : List Str} (F : Fun K x qual st f fd)
    (h : ∀ (kV doc pm : Value) (an : Option Addr) (cdv ct : Value) (us : List Value), us.length = ps.length → bindArgs (PySem.W.fnOf x qual (defArgs st) (defBody st) (defScope st) .none kV doc pm an cdv ct) ⟨us, []⟩ = pure (ps.zip us)) : Binds K fd ps [] := by
  obtain ⟨oc, od, kV, doc, pm, an, cdv, ct, osl, rfl, lk, hcd⟩ := F.ex
  exact .all (h kV doc pm an cdv ct)
theorem fun_mk {x qual : Str} {st : Stmt} {f : Addr} {oc : Value} {od an : Option Addr} {osl : Array (Option Value)} {kV doc pm cdv ct : Value} (l : K.lookup f = some ⟨oc, od, .func (PySem.W.fnOf x qual (defArgs st) (defBody st) (defScope st) .none kV doc pm an cdv ct), osl⟩)
    (c : PySem.W.codeIn K cdv qual = true) (k : PySem.W.keepIn K (.ref f) = true) : Fun K x qual st f (PySem.W.fnOf x qual (defArgs st) (defBody st) (defScope st) .none kV doc pm an cdv ct) := ⟨⟨oc, od, kV, doc, pm, an, cdv, ct, osl, rfl, l, c⟩, k⟩
end
theorem small1000 {n : Nat} (h : n ≤ 1000) : n < sizeLine := Nat.lt_of_le_of_lt h (by decide)

section
variable {X : Cx}
end

noncomputable def Same (H H' : Hp) : Prop := ∀ b o, H b = some o → H' b = some o
theorem Same.refl (H : Hp) : Same H H := fun _ _ h => h
theorem Same.trans {H H1 H2 : Hp} (a : Same H H1) (b : Same H1 H2) : Same H H2 := fun c o h => b c o (a c o h)
theorem Same.free {H H' : Hp} (e : Same H H') {l : Addr} (h : H' l = Option.none) : H l = Option.none := by
  cases q : H l with
  | none => rfl
  | some o =>
    rw [e l o q] at h
    cases h
theorem Same.seq {K : PySem.W.Frag} {H H' : Hp} {a : Addr} {xs : List V} (e : Same H H') (h : SqL K H a xs) : SqL K H' a xs := by
  rcases h with (h | ⟨o, h⟩) | h
  · exact .inl (.inl (e _ _ h))
  · exact .inl (.inr ⟨o, e _ _ h⟩)
  · exact .inr h

end L2

namespace L2
open PySem PySem.Spec PyProof.Rows

section
variable {X : Cx} {pins : List (Addr × Obj)} {σ : St} {H : Hp} {s : Shared}
theorem Inv.adopt {D : Addr} {o : HO} (I : Inv X pins σ H s) (hn : H D = none) (hL : D ≠ X.env.locals)
    (h1 : D ∈ X.ex ∨ X.s₀.heap.objs.size ≤ D) (h2 : ∀ x c, X.env.cells.lookup x = some c → c ≠ D) (h3 : ∀ p ∈ X.pn ++ pins, p.1 ≠ D)
    (new : ObjOk X.prog X.w (upd H D o) s.heap D o) : Inv X pins σ (upd H D o) s := by
  have nit : ∀ b u, H b = some u → b ≠ D := fun b u e z => by rw [z, hn] at e; cases e
  have keep : ∀ b u, H b = some u → upd H D o b = some u := fun b u e => by rw [upd_ne (nit b u e)]; exact e
  refine I.step (h' := s.heap) (g' := s.gens) (d' := s.drawn) (t' := s.toks) (ch := [D]) (fun b hb => ?_) (fun b o _ _ _ e _ => e) (fun b o _ _ _ e _ => ⟨o.slots, e⟩) (fun b u hc e n => ?_)
    (fun b o _ e => ⟨o, e⟩) (fun b xs e => keep b _ e) (fun b o u e => keep b _ e) (fun b ps e => ⟨#[], by rw [keep b _ e]; simp⟩) (fun m hm => hm) (fun b u e => ?_) I.bare
  · have e : b = D := by simpa using hb
    subst e
    exact ⟨h1, hL, h2, h3⟩
  · rw [upd_ne (fun z => hc (by simp [z]))]; exact n
  · by_cases hb : b = D
    · subst hb; rw [upd_same] at e; cases e; exact new
    · rw [upd_ne hb] at e
      exact (I.hok b u e).stay (fun c v _ q => q) (fun c q => keep c _ q) fun c xs q => keep c _ q
end

noncomputable def cxComp (X : Cx) (N : List Str) (scope : Scope) (cl : List (Str × Addr)) (fp : List Addr) (C : Addr) (s : Shared) (H : Hp) : Cx :=
  { X with N := N, s₀ := s, H₀ := H, env := compEnvC scope cl C X.env, outer := X.stack, ex := fp, fn := fun _ => false, pn := [], xe := fun _ _ => False }

noncomputable def FrOk (X : Cx) (scope : Scope) (cl : List (Str × Addr)) : List Str → Prop
  | [] => True
  | x :: r => (X.env.kindOf x = some .cell ∧ (relabel scope X.env).names.lookup x = some .cell ∧ ∃ c, cl.lookup x = some c ∧ X.env.cells.lookup x = some c) ∧ FrOk X scope cl r
theorem FrOk.mem {X : Cx} {scope : Scope} {cl : List (Str × Addr)} : ∀ {l : List Str}, FrOk X scope cl l → ∀ x ∈ l,
    X.env.kindOf x = some .cell ∧ (relabel scope X.env).names.lookup x = some .cell ∧ ∃ c, cl.lookup x = some c ∧ X.env.cells.lookup x = some c
  | [], _, _, h => nomatch h
  | y :: r, ⟨h1, h2⟩, x, h => by
    rcases List.mem_cons.mp h with e | e
    · subst e; exact h1
    · exact FrOk.mem h2 x e
noncomputable def ClOk (X : Cx) : List (Str × Addr) → Prop
  | [] => True
  | p :: r => X.env.cells.lookup p.1 = some p.2 ∧ ClOk X r
theorem ClOk.get {X : Cx} : ∀ {l : List (Str × Addr)}, ClOk X l → ∀ x c, l.lookup x = some c → X.env.cells.lookup x = some c
  | [], _, _, _, h => by simp at h
  | p :: r, ⟨h1, h2⟩, x, c, h => by
    obtain ⟨n, a⟩ := p
    cases e : x == n with
    | true =>
      have e' : x = n := by simpa using e
      subst e'
      simp only [List.lookup_cons, e] at h
      cases h
      exact h1
    | false =>
      simp only [List.lookup_cons, e] at h
      exact ClOk.get h2 x c h

structure CompOk (X : Cx) (N tgs frs : List Str) (ix : List Nat) (scope : Scope) (cl : List (Str × Addr)) : Prop where
  clos : closureFor scope X.env = pure cl
  cell : ∀ y ∈ scope.names, y.2 ≠ .cell
  kind : scope.kind = .function
  names : ∀ y ∈ scope.names, y.2 = .local → scope.names.lookup y.1 = some .local
  nm : N = tgs ++ frs
  ixs : ix.map (X.N[·]?) = frs.map some
  fr : FrOk X scope cl frs
  cls : ClOk X cl
  has : (relabel scope X.env).names.all (fun p => !(p.2 == .cell || p.2 == .free) || (cl.lookup p.1).isSome) = true

noncomputable def stComp (tgs : List Str) (ix : List Nat) (σ : St) : St := List.replicate tgs.length none ++ ix.map fun j => (σ[j]?).getD none

section
variable {X : Cx} {N tgs frs : List Str} {ix : List Nat} {scope : Scope} {cl : List (Str × Addr)}

theorem stComp_get {σ : St} {i : Nat} {x : Str} {v : V} (c : CompOk X N tgs frs ix scope cl) (h1 : N[i]? = some x) (h2 : (stComp tgs ix σ)[i]? = some (some v)) : x ∈ frs ∧ ∃ j : Nat, X.N[j]? = some x ∧ σ[j]? = some (some v) := by
  unfold stComp at h2
  by_cases hi : i < tgs.length
  · rw [List.getElem?_append_left (by simpa using hi), List.getElem?_replicate, if_pos hi] at h2
    cases h2
  · rw [List.getElem?_append_right (by simpa using hi), List.length_replicate, List.getElem?_map] at h2
    rw [c.nm, List.getElem?_append_right (by omega)] at h1
    have e := congrArg (·[i - tgs.length]?) c.ixs
    simp only [List.getElem?_map, h1] at e
    cases q : ix[i - tgs.length]? with
    | none => rw [q] at e; cases e
    | some j =>
      rw [q] at e h2
      simp only [Option.map_some, Option.some.injEq] at e h2
      refine ⟨List.mem_of_getElem? h1, j, e, ?_⟩
      cases z : σ[j]? with
      | none => rw [z] at h2; cases h2
      | some o => rw [z] at h2; simp at h2; rw [h2]

theorem lookup_mem {l : List (Str × NameKind)} {x : Str} {k : NameKind} (h : l.lookup x = some k) : (x, k) ∈ l := PySem.mem_of_lookup h

theorem CompOk.hasOf (c : CompOk X N tgs frs ix scope cl) {x : Str} (h : (relabel scope X.env).names.lookup x = some .cell ∨ (relabel scope X.env).names.lookup x = some .free) : ∃ a, cl.lookup x = some a := by
  have all := List.all_eq_true.mp c.has
  rcases h with h | h
  · have q := all _ (lookup_mem h)
    exact Option.isSome_iff_exists.mp (by simpa only [beq_self_eq_true, Bool.true_or, Bool.not_true, Bool.false_or] using q)
  · have q := all _ (lookup_mem h)
    exact Option.isSome_iff_exists.mp (by simpa only [beq_self_eq_true, Bool.or_true, Bool.not_true, Bool.false_or] using q)

theorem inv_comp {pins : List (Addr × Obj)} {σ : St} {H : Hp} {s2 : Shared} {fp : List Addr} {h1 : Heap} {tk : Nat} {C : Addr} {m : Str → Option Value} (c : CompOk X N tgs frs ix scope cl) (I : Inv X pins σ H s2) (hf : ∀ b ∈ fp, FpOk X pins H b) (hfl : ∀ b ∈ fp, b < s2.heap.objs.size)
    (hC : s2.heap.objs.size ≤ C) (hns : h1.Ns C m) (hk : ∀ b o, s2.heap.get? b = some o → h1.get? b = some o) {pins' : List (Addr × Obj)}
    (hpin : ∀ p ∈ pins', h1.get? p.1 = some p.2 ∧ s2.heap.objs.size ≤ p.1 ∧ p.1 ≠ C ∧ ∀ v, p.2.data ≠ .cell v) :
    Inv (cxComp X N scope cl fp C s2 H) pins' (stComp tgs ix σ) H { s2 with heap := h1, toks := tk } := by
  have hcn : ∀ x a, cl.lookup x = some a → X.env.cells.lookup x = some a := c.cls.get
  have clt : ∀ x a, cl.lookup x = some a → a < s2.heap.objs.size := fun x a e => by
    obtain ⟨v, q⟩ := I.cell x a (hcn x a e)
    exact q.lt
  refine ⟨⟨I.ok.mod, c.kind, I.ok.glob, I.ok.blt, hC, fun x y a h1 h2 => I.ok.inj x y a (hcn _ _ h1) (hcn _ _ h2), fun x hx => c.hasOf hx, (fun x a z _ => Bool.noConfusion z), I.ok.hd, I.ok.frames, .inl rfl, fun b hb => ⟨?_, fun x a e => ?_⟩, I.bs, Nat.le_trans I.ok.bsz I.sz, fun b o e hb => ?_, fun b hb z => ?_, I.stack, I.stkFree⟩,
    rfl, I.bare, Un.kept hk, ⟨m, hns, fun i x v e1 e2 e3 => ?_⟩, fun x a e => ?_, I.hok.fresh hC, fun x a e => I.freeC x a (hcn x a e), fun p hp => ?_, I.hok.kept hk, ?_⟩
  · exact Nat.ne_of_lt (Nat.lt_of_lt_of_le (hfl b hb) hC)
  · exact (hf b hb).2.2.2.2.1 x a (hcn x a e)
  · rcases (hf b hb).2.2.2.1 with z | z
    · exact I.ok.noex b o e z
    · exact absurd (Nat.lt_of_lt_of_le (Heap.lt_size (I.ok.bs b o e).1) z) (Nat.lt_irrefl _)
  · rcases List.mem_cons.mp (I.stkSub b z) with e | e
    · exact (hf b hb).2.1 e
    · exact (hf b hb).2.2.1 e
  · obtain ⟨hx, j, n1, n2⟩ := stComp_get c e1 e2
    obtain ⟨k1, k2, a, l1, l2⟩ := c.fr.mem x hx
    obtain ⟨m', _, hl⟩ := I.loc
    obtain ⟨u, r, l⟩ := hl j x v n1 n2 (.inr (.inl k1))
    refine ⟨u, r, .inr ⟨.inl k2, a, l1, ?_⟩⟩
    rcases l with ⟨l, _⟩ | ⟨_, a', l3, o, l4, l5⟩
    · rw [k1] at l; cases l
    · rw [l2] at l3; cases l3
      exact ⟨o, hk _ _ l4, l5⟩
  · obtain ⟨v, o, q1, q2⟩ := I.cell x a (hcn x a e)
    exact ⟨v, o, hk _ _ q1, q2⟩
  · have hp' : p ∈ pins' := by simpa [cxComp] using hp
    obtain ⟨q1, q2, q3, q4⟩ := hpin p hp'
    exact ⟨q1, I.hok.fresh q2, q3, fun z => by
      rcases List.mem_cons.mp (I.stkSub p.1 z) with e | e
      · exact absurd (Nat.lt_of_lt_of_le I.lt q2) (by rw [e]; exact Nat.lt_irrefl _)
      · exact I.nofs q2 e, q4⟩
  · show (stComp tgs ix σ).length = N.length
    unfold stComp
    have e := congrArg List.length c.ixs
    simp only [List.length_map] at e
    rw [c.nm]; simp [e]

theorem compLoop_gen {prog : Program} {w : World} {A : Around} {R : Result → Shared → Prop} {s : Shared} {elt target iter : Expr} {pos : Pos} {it acc : Value} {env : Env} (I : Nat → Shared → Prop)
    (turn : ∀ n s, I n s → wpAny (model prog w) A (pyNext it) (fun r s1 => match r with
      | none => R (.ok .next) s1
      | some v => wpAny (model prog w) A (letOwnedTupleGo target it v) (fun _ s1' => wpAny (model prog w) A (assign target env v) (fun _ s2 => wpAny (model prog w) A (eval elt env) (fun x s3 =>
          wpAny (model prog w) A (call (.builtin "list.append") [acc, x]) (fun _ s4 => ∃ m, m < n ∧ I m s4) (fun _ _ => False) s3)
          (fun _ _ => False) s2) (fun _ _ => False) s1') (fun _ _ => False) s1) (fun _ _ => False) s)
    (n : Nat) (h : I n s) :
    codeAny (model prog w) A (.compLoop (.ListComp elt [⟨target, iter, [], 0⟩] scope pos) 0 it acc env) R s := by
  have up : ∀ {α : Type} {t : Sem α} {Q Q' : α → Shared → Prop} {E : Value → Shared → Prop} {s : Shared}, wpAny (model prog w) A t Q (fun _ _ => False) s → (∀ a s, Q a s → Q' a s) → wpAny (model prog w) A t Q' E s := fun h hq => wpAny_mono h hq fun _ _ f => f.elim
  refine codeAny_loop rfl I (fun n s hI => ?_) n h
  show wpAny _ _ ((compTurn (.ListComp elt [⟨target, iter, [], 0⟩] scope pos) 0 it acc env).onRaise (fun x => do noteFrame x env; theTreesLotGoes x)) _ _ s
  refine wpAny_noted ?_
  rw [compTurn_list1]
  refine wpAny_bind (wpAny_standAt (wpAny_bind (up (turn n s hI) (fun r s1 h1 => ?_))))
  cases r with
  | none => exact wpAny_pure h1
  | some v =>
    refine wpAny_bind (up h1 fun _ s1' h1' => ?_)
    exact wpAny_bind (up h1' (fun _ s2 h2 => wpAny_bind (wpAny_bind (up h2 (fun x s3 h3 => wpAny_bind (up h3
      (fun _ s4 h4 => wpAny_pure (wpAny_pure ⟨rfl, h4⟩))))))))

noncomputable def tComp (wi : TI) (g : TG) (te : TE) (tgs : List Str) (ix : List Nat) : TE := fun σ H Q => wi σ H fun J H1 =>
  ∃ W : Nat → Nat → List V → St → Hp → Prop, (∃ m, W 0 m [] (stComp tgs ix σ) H1) ∧ ∀ i m xs σc H, W i m xs σc H → xs.length < sizeLine ∧
    ((J.stop i H ∧ ∀ p, H p = none → Q (.ref p) (upd H p (.lst xs))) ∨ (J.go i H ∧ ∀ x H', J.yld i H x H' → g x σc H' fun σ2 H2 => te σ2 H2 fun y H3 => ∃ m', m' < m ∧ W (i + 1) m' (xs ++ [y]) σ2 H3))

noncomputable abbrev lstObj (us : List Value) (k : Nat) : Obj := { cls := .type "list", data := .seq us.toArray k }

theorem pe_comp {elt iter tg : Expr} {pos : Pos} {wi : TI} {g : TG} {te : TE} (c : CompOk X N tgs frs ix scope cl) (hc : X.calm = true) (hi : PI X tg iter wi)
    (hg : ∀ fp C s H, PG (cxComp X N scope cl fp C s H) tg g) (he : ∀ fp C s H, PE (cxComp X N scope cl fp C s H) elt te)
    (hs : ∀ x, foldedSetIterable iter X.env x = pure x := by intro _; rfl) :
    PE X (.ListComp elt [⟨tg, iter, [], 0⟩] scope pos) (tComp wi g te tgs ix) := by
  intro pins s σ H Q I h
  rw [eval_ListComp]
  refine wpAny_comprehension_free (use := none) rfl hs c.clos c.kind c.names (thn (hi pins s σ H _ I h) fun xv s1 h1 => thn h1 fun itv s2 h2 => ?_)
  obtain ⟨it, fp, tn, J, H2, rfl, I2, T, st2, f2, W, ⟨m0, w0⟩, turn⟩ := h2
  have hfl : ∀ b ∈ fp, b < s2.heap.objs.size := fun b hb => by
    obtain ⟨o, e, _⟩ := T.obj _ _ st2 b hb
    exact Heap.lt_size e
  have hcn : ∀ x a, cl.lookup x = some a → X.env.cells.lookup x = some a := c.cls.get
  refine wpAny_newObj_type (wpAny_newFunctionEnv c.cell (by intro y hy; simp at hy) (fun h1 hns1 hsb1 => ?_) c.kind)
  dsimp only at hns1 hsb1 ⊢
  generalize hH2 : s2.heap.push { cls := .type "list", dict := none, data := .seq ([] : List Value).toArray } = G2 at hns1 hsb1 ⊢
  have hC : G2.objs.size = s2.heap.objs.size + 1 := by rw [← hH2, Heap.size_push]
  generalize hCC : G2.objs.size = C at *
  generalize hDD : s2.heap.objs.size = D at *
  have hDC : D ≠ C := by omega
  have hCle : D ≤ C := by omega
  have old : ∀ b o, s2.heap.get? b = some o → h1.get? b = some o := fun b o e => by
    have lt : b < s2.heap.objs.size := Heap.lt_size e
    exact hsb1.extBut b o (Nat.ne_of_lt (Nat.lt_of_lt_of_le (hDD ▸ lt) hCle)) (Heap.get?_push_of_some _ (hH2 ▸ Heap.get?_push_of_some _ e))
  have hacc : h1.get? D = some (lstObj [] 0) := hsb1.extBut _ _ hDC (Heap.get?_push_of_some _ (hH2 ▸ (hDD ▸ Heap.get?_push_size _ rfl)))
  have cellD : ∀ x a, X.env.cells.lookup x = some a → a < D := fun x a e => by
    obtain ⟨v, q⟩ := I2.cell x a e
    exact hDD ▸ q.lt
  have fpc : ∀ {H' : Hp} {us : List Value} {k : Nat}, (∀ b ∈ fp, H' b = none) → ∀ b ∈ fp, FpOk (cxComp X N scope cl fp C s2 H2) [(D, lstObj us k)] H' b := fun {H' us k} hn b hb => by
    have lb := hfl b hb
    refine ⟨hn b hb, ?_, fun z => ?_, .inl hb, fun x a e z => ?_, fun p hp => ?_⟩
    · exact Nat.ne_of_lt (Nat.lt_of_lt_of_le lb hCle)
    · rcases List.mem_cons.mp (I2.stkSub b z) with e | e
      · exact (f2 b hb).2.1 e
      · exact (f2 b hb).2.2.1 e
    · exact (f2 b hb).2.2.2.2.1 x a (hcn x a e) z
    · have : p = (D, lstObj us k) := by simpa [cxComp] using hp
      rw [this]; exact Nat.ne_of_gt lb
  have D_fs : D ∉ (cxComp X N scope cl fp C s2 H2).fs := fun z => by
    rcases List.mem_cons.mp (I2.stkSub D z) with e | e
    · exact absurd I2.lt (by rw [← e, hDD]; exact Nat.lt_irrefl _)
    · exact I2.nofs (Nat.le_of_eq hDD) e
  have I3 := inv_comp (tk := s2.toks + ([] : List (Str × Value)).length) (pins' := [(D, lstObj [] 0)]) c I2 f2 (fun b hb => hDD ▸ hfl b hb) (hDD ▸ hCle : s2.heap.objs.size ≤ C) hns1 old (fun p hp => by
    have e : p = (D, lstObj [] 0) := by simpa using hp
    subst e
    exact ⟨hacc, Nat.le_of_eq hDD, hDC, fun v z => by cases z⟩)
  have tn3 : tn 0 h1 := T.keep _ _ _ st2 fun b _ o e => old b o e
  have loop : codeAny (model X.prog X.w) X.A (.compLoop (.ListComp elt [⟨tg, iter, [], 0⟩] scope pos) 0 (.ref it) (.ref D) (compEnvC scope cl C X.env))
      (compPost (model X.prog X.w) X.A X.xe none (EP X pins σ Q) (.ref D) C) { s2 with heap := h1, toks := s2.toks + ([] : List (Str × Value)).length } := by
    refine compLoop_gen (fun n s' => ∃ i xs us k σc H', Inv (cxComp X N scope cl fp C s2 H2) [(D, lstObj us k)] σc H' s' ∧ tn i s'.heap ∧ (∀ b ∈ fp, H' b = none) ∧ Vals xs us ∧ W i n xs σc H') ?_ m0
      ⟨0, [], [], 0, _, H2, I3, tn3, fun b hb => (f2 b hb).1, .nil, w0⟩
    rintro n s4 ⟨i, xs, us, k, σ4, H4, I4, tn4, fr4, rv, w4⟩
    obtain ⟨hsz, tt⟩ := turn i n xs σ4 H4 w4
    rcases tt with ⟨stop, fin⟩ | ⟨go, step⟩
    · refine thn (T.done (cxComp X N scope cl fp C s2 H2) rfl rfl rfl hc i _ s4 σ4 H4 _ I4 (fpc fr4) tn4 stop) fun r s5 ⟨hr, I5⟩ => ?_
      subst hr
      obtain ⟨m, ns, _⟩ := I5.loc
      refine ⟨m, ns, fun h' sb => ?_⟩
      have J1 : Inv X pins σ H4 s5 := I2.call' I5.os I5.base I5.hok I5.bare fun b hb => ⟨(f2 b hb).2.2.2.1, (f2 b hb).2.1, (f2 b hb).2.2.2.2.1, (f2 b hb).2.2.2.2.2⟩
      have big : ∀ a, D ≤ a → a ≠ X.env.locals ∧ (a ∈ X.ex ∨ X.s₀.heap.objs.size ≤ a) ∧ (∀ x y, X.env.cells.lookup x = some y → y ≠ a) ∧ ∀ p ∈ X.pn ++ pins, p.1 ≠ a := fun a ha => by
        obtain ⟨q0, q1, q2, q3, q4, q5⟩ := I2.fpOk (b := a) (H' := fun _ => none) (hDD ▸ ha) rfl
        exact ⟨q1, q3, q4, q5⟩
      obtain ⟨b1, b2, b3, b4⟩ := big C hCle
      have J2 : Inv X pins σ H4 { s5 with heap := h' } := J1.turned (t' := s5.toks) (fun b o hb e => sb.extBut b o hb e) I5.free b1 b2 b3 b4
      obtain ⟨p1, p2, p3, p4, p5⟩ := I5.pin (D, lstObj us k) (by simp)
      obtain ⟨d1, d2, d3, d4⟩ := big D (Nat.le_refl _)
      have J3 : Inv X pins σ (upd H4 D (.lst xs)) { s5 with heap := h' } := J2.adopt p2 d1 d2 d3 d4 ⟨Nat.le_of_lt hsz, us, k, rv, sb.extBut _ _ hDC p1⟩
      exact ⟨.ref D, _, J3, rfl, fin D p2⟩
    · refine thn (T.item (cxComp X N scope cl fp C s2 H2) rfl rfl rfl hc i _ s4 σ4 H4 _ I4 (fpc fr4) tn4 go) fun r s5 ⟨u, hr, h5⟩ => ?_
      subst hr
      refine thn h5 fun _ s6 ⟨x, H6, I6, r6, y6, tn6, fr6⟩ => ?_
      have I6' := I6.pinned (fpc fr6) (T.obj _ _ tn6)
      refine thn (hg fp C s2 H2 _ s6 σ4 H6 x u _ I6' r6 (step x H6 y6)) fun _ s7 ⟨σ7, H7, I7, q7⟩ => ?_
      refine thn (he fp C s2 H2 _ s7 σ7 H7 _ I7 q7) fun yv s8 ⟨y, H8, I8, r8, m', hm, w8⟩ => ?_
      obtain ⟨p1, p2, p3, p4, p5⟩ := I8.pin (D, lstObj us k) (by simp [cxComp])
      have hsz' : us.toArray.size ≤ sizeLine := by simp; rw [← rv.length]; exact Nat.le_of_lt hsz
      refine wpAny_list_append_plain (hsz := hsz') ⟨k, p1⟩ fun h' pl sb => ?_
      have tn8 : tn (i + 1) s8.heap := T.keep _ _ _ tn6 fun b hb o e => (I8.pin (b, o) (List.mem_append_right _ (List.mem_append_right _ (mem_pinsAt hb e)))).1
      have fr8 : ∀ b ∈ fp, H8 b = none := fun b hb => by
        obtain ⟨o, e, d⟩ := T.obj _ _ tn6 b hb
        exact (I8.pin (b, o) (List.mem_append_right _ (List.mem_append_right _ (mem_pinsAt hb e)))).2.1
      have I9 : Inv (cxComp X N scope cl fp C s2 H2) [] σ7 H8 s8 := I8.pins_of fun p hp => nomatch hp
      have I10 : Inv (cxComp X N scope cl fp C s2 H2) [] σ7 H8 { s8 with heap := h' } := I9.turned (t' := s8.toks) (it := D) (fun b o hb e => sb.extBut b o hb e) p2 p3 (.inr (Nat.le_of_eq hDD))
        (fun x a e => Nat.ne_of_lt (cellD x a (hcn x a e))) (fun p hp => by simp [cxComp] at hp)
      obtain ⟨k', pl⟩ := pl
      have eu : us.toArray.push yv = (us ++ [yv]).toArray := by simp
      rw [eu] at pl
      have I11 : Inv (cxComp X N scope cl fp C s2 H2) [(D, lstObj (us ++ [yv]) k')] σ7 H8 { s8 with heap := h' } := I10.pins_of fun p hp => by
        have e : p = (D, lstObj (us ++ [yv]) k') := by simpa using hp
        subst e
        exact ⟨pl, p2, p3, p4, fun v z => by cases z⟩
      exact ⟨m', hm, i + 1, xs ++ [y], us ++ [yv], k', σ7, H8, I11, T.keep _ _ _ tn8 fun b hb o e => sb.extBut b o (Nat.ne_of_lt (hfl b hb)) e, fr8, rv.append (.cons r8 .nil), w8⟩
  exact codeAny_compStart_list loop (T.self _ 0 _ _ _ tn3 loop)
end
end L2

namespace L2
open PySem PySem.Spec PyProof.Rows
section
variable {X : Cx}
noncomputable def CDivL (i j : Int) : Prop := 0 < j ∧ j.natAbs.log2 < 9000
theorem log2_small {j : Int} (h0 : 0 < j) (h : j < 2 ^ 64) : j.natAbs.log2 < 9000 := by
  have : j.natAbs < 2 ^ 64 := by omega
  have h2 := (Nat.log2_lt (by omega : j.natAbs ≠ 0)).mpr this
  omega
theorem op_fdivL : OpR X (binaryOp .FloorDiv) (rI CDivL fun i j => .int (i / j)) := opI fun i j _ _ _ _ _ hc q => by
  have e : i.fdiv j = i / j := Int.fdiv_eq_ediv_of_nonneg _ (Int.le_of_lt hc.1)
  exact floordiv_int (Int.ne_of_gt hc.1) (by rw [e]; exact q) (.inl (PyProof.noPylong_of_log2 hc.2))

theorem call_sum (hc : X.calm = true) : CallR X (.builtin "sum") (fun xs H Q => ∃ (p : Addr) (ns : List Int), xs = [.ref p] ∧ SqL X.K H p (ns.map V.int) ∧ Q (.int ns.sum) H) := by
  intro pins s σ H xs us Q I r h
  obtain ⟨p, ns, rfl, hq, q⟩ := h
  obtain ⟨u, rfl, ru⟩ := vals1 r
  cases ru
  obtain ⟨its, rv, hp, hz⟩ := I.list hq
  have hi : IntsAre its ns := intsAre_of rv
  have hl := hp.isList
  obtain ⟨zs, hx⟩ := hi.allInts.items
  have hn : numsOf its.toArray.toList = ns := by rw [show its.toArray.toList = its from rfl, hi.numsOf]
  rw [hx] at hl hn
  rw [nums_intItems] at hn
  refine sum_intListG (I.ok.hd hc) hl fun h' tk t' hk => ?_
  refine ⟨.int ns.sum, H, I.kept hk, ⟨t', ?_⟩, q⟩
  rw [preSum_eq, List.take_of_length_le (by simp), hn]

theorem all_range {n : Nat} {bs : List Bool} (h : bs.length = n) : (List.range n).all (fun i => bs.getD i true) = bs.all id := by
  subst h
  rw [Bool.eq_iff_iff, List.all_eq_true, List.all_eq_true]
  constructor
  · intro h b hb
    obtain ⟨i, hi, rfl⟩ := List.mem_iff_getElem.mp hb
    have := h i (by simpa using hi)
    simpa [hi] using this
  · intro h i hi
    have hi : i < bs.length := by simpa using hi
    simp only [List.getD_eq_getElem?_getD, List.getElem?_eq_getElem hi, Option.getD_some]
    exact h _ (List.getElem_mem hi)
theorem bool_at {bs : List Bool} {its : List Value} (rv : Vals (bs.map V.bl) its) {i : Nat} {v : Value} (h : its.toArray[i]? = some v) {d : Bool} : v = .bool (bs.getD i d) := by
  have h' : its[i]? = some v := by simpa using h
  have hl := rv.length
  have hi : i < its.length := (List.getElem?_eq_some_iff.mp h').1
  have hi' : i < bs.length := by simpa using (by omega : i < (bs.map V.bl).length)
  obtain ⟨u, e, ru⟩ := rv.get (i := i) (x := V.bl bs[i]) (by simp [hi'])
  rw [h'] at e; cases e
  have : v = .bool bs[i] := ru
  rw [this]; simp [hi']
theorem call_all (hc : X.calm = true) : CallR X (.builtin "all") (fun xs H Q => ∃ (p : Addr) (bs : List Bool), xs = [.ref p] ∧ SqL X.K H p (bs.map V.bl) ∧ Q (.bl (bs.all id)) H) := by
  intro pins s σ H xs us Q I r h
  obtain ⟨p, bs, rfl, hq, q⟩ := h
  obtain ⟨u, rfl, ru⟩ := vals1 r
  cases ru
  obtain ⟨its, rv, hp, hz⟩ := I.list hq
  have hlt : p < s.heap.objs.size := by obtain ⟨o, e, _⟩ := hp.isList; exact Heap.lt_size e
  refine call_all_walk (wpAny_pyIter_list hp.isList ?_)
  refine ⟨s.heap.objs.size, _, _, _, _, _, fun i => bs.getD i true, rfl, Walks.list (A := X.A.in1) (I.ok.hd hc) _ p (Nat.ne_of_lt hlt) its.toArray, ⟨⟨_, Heap.get?_push_size _ rfl, rfl, rfl⟩, hp.isList.at fun o e => Heap.get?_push_of_some _ e⟩, ?_, fun h' tk hk => ?_⟩
  · intro i v s Q E hv hQ
    rw [bool_at rv hv (d := true)]
    exact wpAny_truthy_bool hQ
  · have e : (List.range its.toArray.size).all (fun i => bs.getD i true) = bs.all id := all_range (by have := rv.length; simpa using this)
    rw [e]
    exact ⟨.bl (bs.all id), H, I.kept fun b o e => hk b o (by simp; exact Nat.ne_of_lt (Heap.lt_size e)) (Heap.get?_push_of_some _ e), rfl, q⟩
theorem call_isi : CallR X (.builtin "isinstance") (fun xs H Q => ∃ x t T b, xs = [x, .ty T] ∧ TyOf X.K H x t ∧ PySem.W.kitOne X.K t (.type T) = some b ∧ Q (.bl b) H) := by
  intro pins s σ H xs us Q I r h
  obtain ⟨x, t, T, b, rfl, ty, e, q⟩ := h
  obtain ⟨u, w', rfl, ru, rw'⟩ := vals2 r
  cases (show w' = Value.type T from rw')
  exact isinst_ok I ru ty e fun tk => ⟨.bl b, H, I.tok _, rfl, q⟩
example (K : PySem.W.Frag) : PySem.W.kitOne K (.type "int") (.type "int") = some true := rfl
example (K : PySem.W.Frag) : PySem.W.kitOne K (.type "int") (.type "bool") = some false := rfl
example (K : PySem.W.Frag) : PySem.W.kitOne K (.type "tuple") (.type "tuple") = some true := rfl
end
noncomputable def nstar : Expr → Bool
  | .Starred .. => false
  | _ => true
theorem star_cons {e : Expr} {es : List Expr} {env : Env} (h : nstar e = true) : starEach (e :: es) env = (false, eval e env) :: starEach es env := by
  cases e <;> first | rfl | cases h
theorem star_any {pos : Pos} {env : Env} : ∀ {es : List Expr}, es.all nstar = true → (backTo pos (starEach es env)).any (·.1) = false
  | [], _ => rfl
  | e :: es, h => by
    rw [List.all_cons, Bool.and_eq_true] at h
    rw [star_cons h.1]
    exact star_any (es := es) h.2
section
variable {X : Cx} {CX : CXT} {k : Nat} {f : Addr} {fd : FuncData} {ps : List Str} {sp : Sp} {E : XK} {x : Str} {p pos apos cpos : Pos} {e o : Expr} {es : List Expr} {te to : TE} {t : TA} {id T : String} {name : Str}
theorem pa_c (ha : PE X e te) (hr : PA X es t) (hn : nstar e = true := by rfl) : PA X (e :: es) (tCons te t) := pa_cons ha hr (star_cons hn)
theorem pe_callN (F : FnOk X.prog X.w X.K X.mg X.base CX k f fd ps sp) (hr : Room k X.A) (hg : Gl X x) (hm : X.mg x = some (.ref f)) (hk : PySem.W.keepIn X.K (.ref f) = true) (hb : Binds X.K fd ps []) (hx : Passes CX X E)
    (ha : PA X (e :: es) t) (hn : (e :: es).all nstar = true := by rfl) (hdb : (x == ("__debug__" : Str)) = false := by decide) : PE X (.Call (.Name x p) (e :: es) [] pos) (tCall sp [] E t) := by
  rw [List.all_cons, Bool.and_eq_true] at hn
  exact pe_call F hr hg hm hk hb .nil hx ha hdb (star_cons hn.1) (star_any hn.2)
theorem pe_callBN {r : List V → Hp → VK → Prop} (hc : CallR X (.builtin id) r) (hg : Gl X x) (hm : X.mg x = none) (hv : bootBuiltins x = some (.builtin id)) (ha : PA X (e :: es) t) (hn : (e :: es).all nstar = true := by rfl) (hn2 : x ≠ "__name__" := by decide) (hdb : (x == ("__debug__" : Str)) = false := by decide) :
    PE X (.Call (.Name x p) (e :: es) [] pos) (tCB r t) := by
  rw [List.all_cons, Bool.and_eq_true] at hn
  exact pe_callB hc hg hm hv ha hn2 hdb (star_cons hn.1) (star_any hn.2)
theorem pe_callTyN {r : List V → Hp → VK → Prop} (hc : CallR X (.type T) r) (hg : Gl X x) (hm : X.mg x = none) (hv : bootBuiltins x = some (.type T)) (ha : PA X (e :: es) t) (hn : (e :: es).all nstar = true := by rfl) (hn2 : x ≠ "__name__" := by decide) (hdb : (x == ("__debug__" : Str)) = false := by decide) :
    PE X (.Call (.Name x p) (e :: es) [] pos) (tCB r t) := by
  rw [List.all_cons, Bool.and_eq_true] at hn
  exact pe_callTy hc hg hm hv ha hn2 hdb (star_cons hn.1) (star_any hn.2)
theorem pe_bmN {r : V → List V → Hp → VK → Prop} (pa : PlainAttrs T) (slot : Slot T name id) (hty : typeOf (.builtin id) = pure (.type "method_descriptor")) (hm : MtR X id r) (ho : PE X o to) (ha : PA X [e] t)
    (hbase : attributeBase o name X.env (eval o X.env) = eval o X.env := by rfl) (hline : (apos.endLine == cpos.line) = true := by rfl) (hn : nstar e = true := by rfl) :
    PE X (.Call (.Attribute o name apos) [e] [] cpos) (tBM X.K T r to t) := by
  refine pe_bm pa slot hty hm ho ha hbase ?_ hline (star_cons hn) rfl
  rw [star_cons hn]; rfl
end
end L2

namespace L2
open PySem PySem.Spec PyProof.Rows
section
variable {K : PySem.W.Frag} {σ : St} {H : Hp} {Q : VK} {D : Ends} {E : XK}
theorem in_seq {t u : TS} (h : t { D with nx := u D } σ H) : tSeq t u D σ H := h
theorem in_asg {te : TE} {g : TG} (h : te σ H fun x H1 => g x σ H1 D.nx) : tAsg te g D σ H := h
theorem in_gname {i : Nat} {v : V} {R : St → Hp → Prop} (h : R (σ.set i (some v)) H) : gName i v σ H R := h
theorem in_gsub {to ti : TE} {t : TSet} {v : V} {R : St → Hp → Prop} (h : to σ H fun o H1 => ti σ H1 fun i H2 => t o i v H2 fun H3 => R σ H3) : gSub to ti t v σ H R := h
theorem in_ret {te : TE} (h : te σ H D.rt) : tRet te D σ H := h
theorem in_drop {te : TE} (h : te σ H fun _ H1 => D.nx σ H1) : tDrop te D σ H := h
theorem in_next (h : D.nx σ H) : tNext D σ H := h
theorem in_if {c : TT} {t u : TS} (h : c σ H fun b H1 => if b = true then t D σ H1 else u D σ H1) : tIfS c t u D σ H := h
theorem in_tif {c : TT} {ta tb : TE} (h : c σ H fun b H1 => if b = true then ta σ H1 Q else tb σ H1 Q) : tIf c ta tb σ H Q := h
theorem in_test {t : TE} {R : Bool → Hp → Prop} (h : t σ H fun x H' => ∃ k, x = .bl k ∧ R k H') : tTest t σ H R := h
theorem in_B {t : TE} {R : Bool → Hp → Prop} (h : t σ H fun x H' => ∃ k, x = .bl k ∧ R k H') : tB t σ H R := h
theorem in_bl {b : Bool} {R : Bool → Prop} (h : R b) : ∃ k, V.bl b = .bl k ∧ R k := ⟨b, rfl, h⟩
theorem in_not {t : TT} {R : Bool → Hp → Prop} (h : t σ H fun c H1 => R (!c) H1) : tNot t σ H R := h
theorem in_or {t u : TT} {R : Bool → Hp → Prop} (h : t σ H fun c H1 => if c = true then R true H1 else u σ H1 R) : tOr t u σ H R := h
theorem in_and {t u : TT} {R : Bool → Hp → Prop} (h : t σ H fun c H1 => if c = true then u σ H1 R else R false H1) : tAnd t u σ H R := h
theorem in_andV {ta tb : TE} (h : ta σ H fun x H1 => ∃ c, x = .bl c ∧ if c = true then tb σ H1 Q else Q (.bl false) H1) : tAndV ta tb σ H Q := h
theorem in_orV {ta tb : TE} (h : ta σ H fun x H1 => ∃ c, x = .bl c ∧ if c = true then Q (.bl true) H1 else tb σ H1 Q) : tOrV ta tb σ H Q := h
theorem in_notV {ta : TE} (h : ta σ H fun x H1 => ∃ c, x = .bl c ∧ Q (.bl (!c)) H1) : tNotV ta σ H Q := h
theorem in_C {v : V} (h : Q v H) : tC v σ H Q := h
theorem in_op {r : R2} {ta tb : TE} (h : ta σ H fun x H1 => tb σ H1 fun y H2 => r x y H2 Q) : tOp r ta tb σ H Q := h
theorem in_un {r : V → Hp → VK → Prop} {ta : TE} (h : ta σ H fun x H1 => r x H1 Q) : tUn r ta σ H Q := h
theorem in_I0 {g : Int → Int → V} {i j : Int} (h : Q (g i j) H) : rI0 g (.int i) (.int j) H Q := ⟨i, j, rfl, rfl, h⟩
theorem in_I {C : Int → Int → Prop} {g : Int → Int → V} {i j : Int} (c : C i j) (h : Q (g i j) H) : rI C g (.int i) (.int j) H Q := ⟨i, j, rfl, rfl, c, h⟩
theorem in_U {g : Int → V} {i : Int} (h : Q (g i) H) : rU g (.int i) H Q := ⟨i, rfl, h⟩
theorem in_eqI {i j : Int} (h : Q (.bl (decide (V.int i = V.int j))) H) : rEq (.int i) (.int j) H Q := ⟨rfl, h⟩
theorem in_neI {i j : Int} (h : Q (.bl (!decide (V.int i = V.int j))) H) : rNe (.int i) (.int j) H Q := ⟨rfl, h⟩
theorem in_ix {p : Addr} {xs : List V} {i : Int} {v : V} (s : SqL K H p xs) (a : atI xs i = some v) (h : Q v H) : rIxL K (.ref p) (.int i) H Q := ⟨p, xs, i, v, rfl, rfl, s, a, h⟩
theorem in_ixT {p : Addr} {xs : List V} {i : Int} {v : V} (s : SqT K H p xs) (a : atI xs i = some v) (h : Q v H) : rIxT K (.ref p) (.int i) H Q := ⟨p, xs, i, v, rfl, rfl, s, a, h⟩
theorem in_set {p : Addr} {xs : List V} {k : Int} {j : Nat} {v : V} {R : Hp → Prop} (s : H p = some (.lst xs)) (a : ixN xs.length k = some j) (h : R (upd H p (.lst (xs.set j v)))) : rSetL (.ref p) (.int k) v H R := ⟨p, xs, k, j, rfl, rfl, s, a, h⟩
theorem in_ix' {p : Addr} {xs : List V} {i : Int} (s : H p = some (.lst xs)) (h : ∃ v, atI xs i = some v ∧ Q v H) : rIxL K (.ref p) (.int i) H Q := let ⟨v, a, q⟩ := h; ⟨p, xs, i, v, rfl, rfl, SqL.of s, a, q⟩
theorem in_ixT' {p : Addr} {xs : List V} {i : Int} (s : H p = some (.tup xs)) (h : ∃ v, atI xs i = some v ∧ Q v H) : rIxT K (.ref p) (.int i) H Q := let ⟨v, a, q⟩ := h; ⟨p, xs, i, v, rfl, rfl, SqT.of s, a, q⟩
theorem in_set' {p : Addr} {xs : List V} {k : Int} {v : V} {R : Hp → Prop} (s : H p = some (.lst xs)) (h : ∃ j, ixN xs.length k = some j ∧ R (upd H p (.lst (xs.set j v)))) : rSetL (.ref p) (.int k) v H R := let ⟨j, a, q⟩ := h; ⟨p, xs, k, j, rfl, rfl, s, a, q⟩
theorem in_cb {r : List V → Hp → VK → Prop} {t : TA} (h : t σ H fun vs H1 => r vs H1 Q) : tCB r t σ H Q := h
theorem in_cons {ta : TE} {tr : TA} {R : List V → Hp → Prop} (h : ta σ H fun x H1 => tr σ H1 fun xs H2 => R (x :: xs) H2) : tCons ta tr σ H R := h
theorem in_nil {R : List V → Hp → Prop} (h : R [] H) : tNil σ H R := h
theorem in_call {sp : Sp} {t : TA} (h : t σ H fun vs H1 => sp (vs ++ []) H1 Q E) : tCall sp [] E t σ H Q := h
theorem in_lst {t : TA} (h : t σ H fun xs H1 => xs.length ≤ sizeLine ∧ ∀ p, H1 p = none → Q (.ref p) (upd H1 p (.lst xs))) : tLst t σ H Q := h
theorem in_tup {t : TA} (h : t σ H fun xs H1 => xs.length ≤ sizeLine ∧ ∀ p, H1 p = none → Q (.ref p) (upd H1 p (.tup xs))) : tTup t σ H Q := h
theorem in_itrue {A B : Prop} (h : A) : if true = true then A else B := by rw [if_pos rfl]; exact h
theorem in_ifalse {A B : Prop} (h : B) : if false = true then A else B := by rw [if_neg Bool.false_ne_true]; exact h
theorem in_split {c A B : Prop} [Decidable c] (h1 : c → A) (h2 : ¬ c → B) : if decide c = true then A else B := by
  by_cases h : c
  · rw [decide_eq_true h]; exact in_itrue (h1 h)
  · rw [decide_eq_false h]; exact in_ifalse (h2 h)
theorem in_pos {c A B : Prop} [Decidable c] (hc : c) (h : A) : if decide c = true then A else B := by rw [decide_eq_true hc]; exact in_itrue h
theorem in_neg {c A B : Prop} [Decidable c] (hc : ¬ c) (h : B) : if decide c = true then A else B := by rw [decide_eq_false hc]; exact in_ifalse h
theorem in_npos {c A B : Prop} [Decidable c] (hc : c) (h : B) : if (!decide c) = true then A else B := by rw [decide_eq_true hc]; exact in_ifalse h
theorem three {n : Nat} (h : n ≤ 1000) : n ≤ sizeLine := Nat.le_of_lt (small1000 h)

theorem cdivL {i j : Int} (h1 : 0 < j) (h2 : j < 2 ^ 64) : CDivL i j := ⟨h1, log2_small h1 h2⟩
theorem cdivP {i : Int} {b e : Nat} (h1 : 0 < b) (h2 : b ≤ 64) (h3 : e ≤ 1000) : CDivL i ((b ^ e : Nat) : Int) := by
  have hp : 0 < b ^ e := Nat.pow_pos h1
  refine ⟨Int.natCast_pos.mpr hp, ?_⟩
  rw [Int.natAbs_natCast, Nat.log2_lt (Nat.ne_of_gt hp)]
  have h4 : b ^ e ≤ 64 ^ e := Nat.pow_le_pow_left h2 e
  have h5 : (64 : Nat) ^ e = 2 ^ (6 * e) := by rw [Nat.pow_mul]
  have h6 : 2 ^ (6 * e) < 2 ^ 9000 := Nat.pow_lt_pow_right (by decide) (by omega)
  omega
theorem cdiv {i j : Int} (h1 : 0 < j) (h2 : j < 1073741824) : CDiv i j := ⟨h1, h2⟩
theorem cmulL {i j : Int} (h1 : -(2 ^ 64) < i) (h2 : i < 2 ^ 64) : CMul i j := .inl ⟨h1, h2⟩
theorem cmulR {i j : Int} (h1 : -(2 ^ 64) < j) (h2 : j < 2 ^ 64) : CMul i j := .inr ⟨h1, h2⟩
theorem cpow {i j : Int} (h1 : 0 ≤ j) (h2 : j ≤ 1000000) (h3 : i.natAbs < 2 ^ 64) : CPow i j := ⟨h1, h2, h3⟩
theorem in_pow18 (h : Q (.int 1000000000000000000) H) : rI CPow (fun i j => .int (i ^ j.toNat)) (.int 10) (.int 18) H Q := ⟨10, 18, rfl, rfl, ⟨by decide, by decide, by decide⟩, by
  have e : (10 : Int) ^ (18 : Int).toNat = 1000000000000000000 := by decide
  show Q (.int ((10 : Int) ^ (18 : Int).toNat)) H
  rw [e]; exact h⟩
theorem in_pow6 (h : Q (.int 1000000) H) : rI CPow (fun i j => .int (i ^ j.toNat)) (.int 10) (.int 6) H Q := ⟨10, 6, rfl, rfl, ⟨by decide, by decide, by decide⟩, by
  have e : (10 : Int) ^ (6 : Int).toNat = 1000000 := by decide
  show Q (.int ((10 : Int) ^ (6 : Int).toNat)) H
  rw [e]; exact h⟩
theorem in_pow53 (h : Q (.int 9007199254740992) H) : rI CPow (fun i j => .int (i ^ j.toNat)) (.int 2) (.int 53) H Q := ⟨2, 53, rfl, rfl, ⟨by decide, by decide, by decide⟩, by
  have e : (2 : Int) ^ (53 : Int).toNat = 9007199254740992 := by decide
  show Q (.int ((2 : Int) ^ (53 : Int).toNat)) H
  rw [e]; exact h⟩
noncomputable abbrev RC := List V → Hp → VK → Prop
noncomputable def rAbs : RC := fun xs H Q => ∃ i, xs = [.int i] ∧ Q (.int (if i < 0 then -i else i)) H
noncomputable def rIntB : RC := fun xs H Q => ∃ k, xs = [.bl k] ∧ Q (.int (if k then 1 else 0)) H
noncomputable def rMin2 : RC := fun xs H Q => ∃ i j, xs = [.int i, .int j] ∧ Q (.int (if j < i then j else i)) H
noncomputable def rMax2 : RC := fun xs H Q => ∃ i j, xs = [.int i, .int j] ∧ Q (.int (if j > i then j else i)) H
noncomputable def rLen (K : PySem.W.Frag) : RC := fun xs H Q => ∃ p ys, xs = [.ref p] ∧ (SqL K H p ys ∨ SqT K H p ys) ∧ Q (.int ys.length) H
noncomputable def rSum (K : PySem.W.Frag) : RC := fun xs H Q => ∃ (p : Addr) (ns : List Int), xs = [.ref p] ∧ SqL K H p (ns.map V.int) ∧ Q (.int ns.sum) H
noncomputable def rAll (K : PySem.W.Frag) : RC := fun xs H Q => ∃ (p : Addr) (bs : List Bool), xs = [.ref p] ∧ SqL K H p (bs.map V.bl) ∧ Q (.bl (bs.all id)) H
noncomputable def rIsi (K : PySem.W.Frag) : RC := fun xs H Q => ∃ x t T b, xs = [x, .ty T] ∧ TyOf K H x t ∧ PySem.W.kitOne K t (.type T) = some b ∧ Q (.bl b) H
noncomputable def rTupleOf (K : PySem.W.Frag) : RC := fun xs H Q => ∃ p ys, xs = [.ref p] ∧ ((SqL K H p ys ∧ ∀ l, H l = none → Q (.ref l) (upd H l (.tup ys))) ∨ (SqT K H p ys ∧ Q (.ref p) H))
section
variable {X : Cx}
theorem cl_abs : CallR X (.builtin "abs") rAbs := call_abs
theorem cl_int : CallR X (.type "int") rIntB := fun pins s σ H xs us Q I r h => call_int1 pins s σ H xs us Q I r (.inr h)
theorem cl_min (hc : X.calm = true) : CallR X (.builtin "min") rMin2 := call_min2 hc
theorem cl_len : CallR X (.builtin "len") (rLen X.K) := call_len_seq
theorem cl_sum (hc : X.calm = true) : CallR X (.builtin "sum") (rSum X.K) := call_sum hc
theorem cl_all (hc : X.calm = true) : CallR X (.builtin "all") (rAll X.K) := call_all hc
theorem cl_isi : CallR X (.builtin "isinstance") (rIsi X.K) := call_isi
theorem cl_tuple : CallR X (.type "tuple") (rTupleOf X.K) := call_tuple_of
end
theorem in_abs {i : Int} (h : Q (.int (if i < 0 then -i else i)) H) : rAbs [.int i] H Q := ⟨i, rfl, h⟩
theorem in_intB {k : Bool} (h : Q (.int (if k then 1 else 0)) H) : rIntB [.bl k] H Q := ⟨k, rfl, h⟩
theorem in_min {i j : Int} (h : Q (.int (if j < i then j else i)) H) : rMin2 [.int i, .int j] H Q := ⟨i, j, rfl, h⟩
theorem in_max {i j : Int} (h : Q (.int (if j > i then j else i)) H) : rMax2 [.int i, .int j] H Q := ⟨i, j, rfl, h⟩
theorem in_lenL {p : Addr} {ys : List V} (s : SqL K H p ys) (h : Q (.int ys.length) H) : rLen K [.ref p] H Q := ⟨p, ys, rfl, .inl s, h⟩
theorem in_lenT {p : Addr} {ys : List V} (s : SqT K H p ys) (h : Q (.int ys.length) H) : rLen K [.ref p] H Q := ⟨p, ys, rfl, .inr s, h⟩
theorem in_sum {p : Addr} {ns : List Int} (s : SqL K H p (ns.map V.int)) (h : Q (.int ns.sum) H) : rSum K [.ref p] H Q := ⟨p, ns, rfl, s, h⟩
theorem in_all {p : Addr} {bs : List Bool} (s : SqL K H p (bs.map V.bl)) (h : Q (.bl (bs.all id)) H) : rAll K [.ref p] H Q := ⟨p, bs, rfl, s, h⟩
theorem in_isiII {i : Int} (h : Q (.bl true) H) : rIsi K [.int i, .ty "int"] H Q := ⟨_, _, _, _, rfl, .int i, rfl, h⟩
theorem in_isiIB {i : Int} (h : Q (.bl false) H) : rIsi K [.int i, .ty "bool"] H Q := ⟨_, _, _, _, rfl, .int i, rfl, h⟩
theorem in_isiTT {p : Addr} {xs : List V} (s : H p = some (.tup xs)) (h : Q (.bl true) H) : rIsi K [.ref p, .ty "tuple"] H Q := ⟨_, _, _, _, rfl, .tup s, rfl, h⟩
theorem in_isiLL {p : Addr} {xs : List V} (s : H p = some (.lst xs)) (h : Q (.bl true) H) : rIsi K [.ref p, .ty "list"] H Q := ⟨_, _, _, _, rfl, .lst s, rfl, h⟩
theorem in_tupleL {p : Addr} {ys : List V} (s : SqL K H p ys) (h : ∀ l, H l = none → Q (.ref l) (upd H l (.tup ys))) : rTupleOf K [.ref p] H Q := ⟨p, ys, rfl, .inl ⟨s, h⟩⟩
theorem in_tupleT {p : Addr} {ys : List V} (s : SqT K H p ys) (h : Q (.ref p) H) : rTupleOf K [.ref p] H Q := ⟨p, ys, rfl, .inr ⟨s, h⟩⟩
theorem atI_mem {xs : List V} {r : Int} (h0 : 0 ≤ r) (h1 : r < xs.length) : ∃ v, atI xs r = some v ∧ v ∈ xs := by
  have hl : r.toNat < xs.length := by omega
  have e : r = (r.toNat : Int) := by omega
  refine ⟨xs[r.toNat], ?_, List.getElem_mem hl⟩
  have := atI_nat (xs := xs) (j := r.toNat) (v := xs[r.toNat]) (by simp [hl])
  rw [← e] at this; exact this
theorem in_for {wi : TI} {g : TG} {tb : TS} (h : wi σ H fun J H1 => ∃ W : Nat → Nat → St → Hp → Prop, (∃ m, W 0 m σ H1) ∧ ∀ i m σ H, W i m σ H →
  (J.stop i H ∧ D.nx σ H) ∨ (J.go i H ∧ ∃ N : St → Hp → Prop, (∀ σ' H', N σ' H' → ∃ m', m' < m ∧ W (i + 1) m' σ' H') ∧ ∀ x H', J.yld i H x H' → g x σ H' fun σ2 H2 => tb { D with nx := N, ct := N, bk := D.nx } σ2 H2)) : tFor wi g tb D σ H := h
theorem in_rng1 {ta : TA} {R : It → Hp → Prop} (h : ta σ H fun vs H1 => ∃ j : Int, vs = [.int j] ∧ -(2 ^ 62) ≤ j ∧ j < 2 ^ 62 ∧ R (Itr 0 j.toNat) H1) : iRng1 ta σ H R := h
theorem in_ilist {tl : TE} {R : It → Hp → Prop} (h : tl σ H fun x H1 => ∃ a, x = .ref a ∧ (∃ xs, SqL K H1 a xs) ∧ R (Itl K a) H1) : iList K tl σ H R := h
theorem in_itup {tl : TE} {R : It → Hp → Prop} (h : tl σ H fun x H1 => ∃ a, x = .ref a ∧ (∃ xs, SqT K H1 a xs) ∧ R (Itt K a) H1) : iTup K tl σ H R := h
theorem in_nt {A B : Prop} (h : B) : if (!true) = true then A else B := in_ifalse h
theorem in_nf {A B : Prop} (h : A) : if (!false) = true then A else B := in_itrue h
theorem in_comp {wi : TI} {g : TG} {te : TE} {tgs : List Str} {ix : List Nat} (h : wi σ H fun J H1 =>
  ∃ W : Nat → Nat → List V → St → Hp → Prop, (∃ m, W 0 m [] (stComp tgs ix σ) H1) ∧ ∀ i m xs σc H, W i m xs σc H → xs.length < sizeLine ∧
    ((J.stop i H ∧ ∀ p, H p = none → Q (.ref p) (upd H p (.lst xs))) ∨ (J.go i H ∧ ∀ x H', J.yld i H x H' → g x σc H' fun σ2 H2 => te σ2 H2 fun y H3 => ∃ m', m' < m ∧ W (i + 1) m' (xs ++ [y]) σ2 H3))) : tComp wi g te tgs ix σ H Q := h
end
end L2

namespace L2
open PySem PySem.Spec PyProof.Rows
structure QE (X : Cx) (e : Expr) (t : TE) : Prop where
  out : PE X e t
structure QT (X : Cx) (e : Expr) (t : TT) : Prop where
  out : PT X e t
structure QW (X : Cx) (e : Expr) (t : TT) : Prop where
  out : PW X e t
structure QA (X : Cx) (es : List Expr) (t : TA) : Prop where
  out : PA X es t
structure QO (X : Cx) (e : Option Expr) (t : TO) : Prop where
  out : PO X e t
structure QI (X : Cx) (tg iter : Expr) (t : TI) : Prop where
  out : PI X tg iter t
structure QG (X : Cx) (tg : Expr) (t : TG) : Prop where
  out : PG X tg t
structure QGs (X : Cx) (ts : List Expr) (t : TGs) : Prop where
  out : PGs X ts t
structure QS (X : Cx) (st : Stmt) (t : TS) : Prop where
  out : PS X st t
structure QB (X : Cx) (sts : List Stmt) (t : TS) : Prop where
  out : PSs X sts t
structure QOp (X : Cx) (f : Value → Value → Sem Value) (r : R2) : Prop where
  out : OpR X f r
structure QUn (X : Cx) (f : Value → Sem Value) (r : V → Hp → VK → Prop) : Prop where
  out : UnR X f r
structure QC (X : Cx) (f : Value) (r : List V → Hp → VK → Prop) : Prop where
  out : CallR X f r
structure QIx (X : Cx) (r : R2) : Prop where
  out : IxR X r
structure QSl (X : Cx) (r : V → Option Int → Option Int → Hp → VK → Prop) : Prop where
  out : SlR X r
noncomputable def nslc : Expr → Bool
  | .Slice .. => false
  | _ => true
theorem plain_of {b : Expr} (h : nslc b = true) : PlainIx b := by
  cases b <;> first | (intro _ _; rfl) | cases h
noncomputable def tTru (K : PySem.W.Frag) (ta : TE) : TT := fun σ H Q => ta σ H fun x H' => ∃ k, TruV K x H' k ∧ Q k H'
section
variable {X : Cx} {a b c e o : Expr} {es rest : List Expr} {ta tb tc te to ti : TE} {tA tB' : TT} {t : TA} {pos p p2 apos cpos : Pos} {r r' : R2} {x : Str}
theorem qv (i : Nat) {x : Str} {pos : Pos} (hN : X.N[i]? = some x := by rfl) (hv : Vis X.env.scope x := by first | exact Or.inl rfl | exact Or.inr (Or.inl rfl) | exact Or.inr (Or.inr rfl)) (hd : (x == ("__debug__" : Str)) = false := by decide)
    (hcd : (x == ("__classdict__" : Str)) = false := by decide) : QE X (.Name x pos) (tVar i) := ⟨pe_var hN hv hd hcd⟩
theorem qe_int {i j pos} : QE X (.Constant (.int i) j pos) (tC (.int i)) := ⟨pe_int⟩
theorem qe_bl {b j pos} : QE X (.Constant (.bool b) j pos) (tC (.bl b)) := ⟨pe_bl⟩
theorem qe_non {j pos} : QE X (.Constant .none j pos) (tC .non) := ⟨pe_non⟩
theorem qe_str {x j pos} : QE X (.Constant (.str x) j pos) (tC (.str x)) := ⟨pe_str⟩
theorem qe_bltn {v : V} {u : Value} (hg : Gl X x) (hm : X.mg x = none) (hv : bootBuiltins x = some u) (r : RelV v u) (hn : x ≠ "__name__" := by decide) (hd : (x == ("__debug__" : Str)) = false := by decide) : QE X (.Name x pos) (tC v) := ⟨pe_bltn hg hm hv r hn hd⟩
theorem qe_op {op : Operator} (ho : QOp X (binaryOp op) r) (ha : QE X a ta) (hb : QE X b tb) : QE X (.BinOp a op b pos) (tOp r ta tb) := ⟨pe_op ho.out ha.out hb.out⟩
theorem qe_un {op : UnaryOp} {r : V → Hp → VK → Prop} (ho : QUn X (unaryOp op) r) (ha : QE X a ta) : QE X (.UnaryOp op a pos) (tUn r ta) := ⟨pe_un ho.out ha.out⟩
theorem qe_cmpR {op : CmpOp} (ho : QOp X (compareOp op) r) (ha : QE X a ta) (hb : QE X b tb) (hm : behindInMarks op b = false) : QE X (.Compare a [op] [b] pos) (tOp r ta tb) := ⟨pe_cmpR ho.out ha.out hb.out hm⟩
theorem qt_cmpR {op : CmpOp} (ho : QOp X (compareOp op) r) (ha : QE X a ta) (hb : QE X b tb) (hm : behindInMarks op b = false) : QT X (.Compare a [op] [b] pos) (tTest (tOp r ta tb)) := ⟨pt_cmpR ho.out ha.out hb.out hm⟩
theorem qe_one {op} (h : QE X a ta) : QE X (.BoolOp op [a] pos) ta := ⟨pe_one h.out⟩
theorem qe_and (ha : QE X a ta) (hb : QE X (.BoolOp .And (b :: rest) pos) tb) : QE X (.BoolOp .And (a :: b :: rest) pos) (tAndV ta tb) := ⟨pe_and ha.out hb.out⟩
theorem qe_not (ha : QE X a ta) : QE X (.UnaryOp .Not a pos) (tNotV ta) := ⟨pe_not ha.out⟩
theorem qt_not (ha : QT X a tA) : QT X (.UnaryOp .Not a pos) (tNot tA) := ⟨pt_not ha.out⟩
theorem qt_val (h : QE X a ta) (he : ∀ whole, isTrue a X.env whole = (do let v ← whole; standAt a.pos; holding [v] (truthy v)) := by intro _; rfl) : QT X a (tB ta) := ⟨pt_val h.out he⟩
theorem qw_and1 (ha : QT X a tA) : QW X (.BoolOp .And [a] pos) tA := ⟨pw_and1 ha.out⟩
theorem qw_or1 (ha : QT X a tA) : QW X (.BoolOp .Or [a] pos) tA := ⟨pw_or1 ha.out⟩
theorem qw_and (ha : QT X a tA) (hb : QW X (.BoolOp .And (b :: rest) pos) tB') : QW X (.BoolOp .And (a :: b :: rest) pos) (tAnd tA tB') := ⟨pw_and ha.out hb.out⟩
theorem qw_or (ha : QT X a tA) (hb : QW X (.BoolOp .Or (b :: rest) pos) tB') : QW X (.BoolOp .Or (a :: b :: rest) pos) (tOr tA tB') := ⟨pw_or ha.out hb.out⟩
theorem QW.qt (h : QW X e tA) : QT X e tA := ⟨h.out.pt⟩
theorem qa_nil : QA X [] tNil := ⟨pa_nil⟩
theorem qa_c (ha : QE X e te) (hr : QA X es t) (hn : nstar e = true := by rfl) : QA X (e :: es) (tCons te t) := ⟨pa_c ha.out hr.out hn⟩
theorem qe_lst (h : QA X es t) : QE X (.List es pos) (tLst t) := ⟨pe_lst h.out⟩
theorem qe_tup {x1} (h : QA X es t) : QE X (.Tuple es x1 pos) (tTup t) := ⟨pe_tup h.out⟩
theorem qe_ix (hr : QIx X r) (ha : QE X a ta) (hb : QE X b tb) (hs : nslc b = true := by rfl) : QE X (.Subscript a b pos) (tOp r ta tb) := ⟨pe_ix hr.out ha.out hb.out (plain_of hs)⟩
theorem qo_none : QO X none tNoPart := ⟨po_none⟩
theorem qo_some (h : QE X e te) : QO X (some e) (tPart te) := ⟨po_some h.out⟩
theorem qe_slice {r : V → Option Int → Option Int → Hp → VK → Prop} {lo hi : Option Expr} {tl th : TO} (hr : QSl X r) (he : QE X e te) (hl : QO X lo tl) (hu : QO X hi th) : QE X (.Subscript e (.Slice lo hi none p2) pos) (tSl r te tl th) := ⟨pe_slice hr.out he.out hl.out hu.out⟩
theorem qe_callB {id : String} {r : RC} (hc : QC X (.builtin id) r) (hg : Gl X x) (hm : X.mg x = none) (hv : bootBuiltins x = some (.builtin id)) (ha : QA X (e :: es) t) (hn : (e :: es).all nstar = true := by rfl) (hn2 : x ≠ "__name__" := by decide) (hdb : (x == ("__debug__" : Str)) = false := by decide) :
    QE X (.Call (.Name x p) (e :: es) [] pos) (tCB r t) := ⟨pe_callBN hc.out hg hm hv ha.out hn hn2 hdb⟩
theorem qe_callTy {T : String} {r : RC} (hc : QC X (.type T) r) (hg : Gl X x) (hm : X.mg x = none) (hv : bootBuiltins x = some (.type T)) (ha : QA X (e :: es) t) (hn : (e :: es).all nstar = true := by rfl) (hn2 : x ≠ "__name__" := by decide) (hdb : (x == ("__debug__" : Str)) = false := by decide) :
    QE X (.Call (.Name x p) (e :: es) [] pos) (tCB r t) := ⟨pe_callTyN hc.out hg hm hv ha.out hn hn2 hdb⟩
theorem qe_call {CX : CXT} {k : Nat} {f : Addr} {fd : FuncData} {ps : List Str} {sp : Sp} {E : XK} (F : FnOk X.prog X.w X.K X.mg X.base CX k f fd ps sp) (hr : Room k X.A) (hg : Gl X x) (hm : X.mg x = some (.ref f)) (hk : PySem.W.keepIn X.K (.ref f) = true) (hb : Binds X.K fd ps []) (hx : Passes CX X E)
    (ha : QA X (e :: es) t) (hn : (e :: es).all nstar = true := by rfl) (hdb : (x == ("__debug__" : Str)) = false := by decide) : QE X (.Call (.Name x p) (e :: es) [] pos) (tCall sp [] E t) := ⟨pe_callN F hr hg hm hk hb hx ha.out hn hdb⟩
theorem qe_append {K : PySem.W.Frag} (ho : QE X o to) (ha : QA X [e] t) (hbase : attributeBase o ("append" : Str) X.env (eval o X.env) = eval o X.env := by rfl) (hline : (apos.endLine == cpos.line) = true := by rfl) (hn : nstar e = true := by rfl) (hK : X.K = K := by rfl) :
    QE X (.Call (.Attribute o "append" apos) [e] [] cpos) (tBM K "list" rAppend to t) := by subst hK; exact ⟨pe_bmN PySem.F.plainAttrs_list PySem.F.slot_list_append PySem.F.type_list_append mt_append ho.out ha.out hbase hline hn⟩
variable {tg iter : Expr} {wi : TI} {g : TG} {i : Nat} {u : TGs}
theorem qi_range1 {p pos : Pos} (hg : Gl X "range") (hm : X.mg "range" = none) (ha : QA X [a] t) (hn : nstar a = true := by rfl) : QI X tg (.Call (.Name "range" p) [a] [] pos) (iRng1 t) := ⟨pi_range1 hg hm ha.out (star_cons hn)⟩
theorem qi_list {K : PySem.W.Frag} (hl : QE X e te) (hK : X.K = K := by rfl) : QI X tg e (iList K te) := by subst hK; exact ⟨pi_list hl.out⟩
theorem qi_tup {K : PySem.W.Frag} (hl : QE X e te) (hK : X.K = K := by rfl) : QI X tg e (iTup K te) := by subst hK; exact ⟨pi_tup hl.out⟩
theorem qg_name (hN : X.N.Nodup) (hi : X.N[i]? = some x) (hx : Loc X.env.scope x) (hf : X.fn x = true ∨ X.env.scope.names.lookup x = some .local := by first | exact .inl rfl | exact .inr rfl | assumption) : QG X (.Name x pos) (gName i) := ⟨pg_name hN hi hx hf⟩
theorem qgs_nil : QGs X [] gNil := ⟨pgs_nil⟩
theorem qgs_cons {ts : List Expr} (h1 : QG X e g) (h2 : QGs X ts u) (hs : (assignEach (e :: ts) X.env).map (·.2) = assign e X.env :: (assignEach ts X.env).map (·.2) := by rfl) : QGs X (e :: ts) (gCons g u) := ⟨pgs_cons h1.out h2.out hs⟩
theorem qg_tup {K : PySem.W.Frag} {ts : List Expr} {k n : Nat} (hc : X.calm = true) (h : QGs X ts u) (hn : (assignEach ts X.env).length = n := by rfl) (hst : (assignEach ts X.env).findIdx? (·.1) = none := by rfl) (hK : X.K = K := by rfl) : QG X (.Tuple ts k pos) (gTup K n u) := by subst hK; exact ⟨pg_tup hc h.out hn hst⟩
variable {st : Stmt} {sts s1 s2 : List Stmt} {T1 T2 : TS}
theorem qb_nil : QB X [] tNext := ⟨pss_nil⟩
theorem qb_cons (h1 : QS X st T1) (h2 : QB X sts T2) : QB X (st :: sts) (tSeq T1 T2) := ⟨pss_cons h1.out h2.out⟩
theorem qb_one (h1 : QS X st T1) : QB X [st] T1 := ⟨pss_one h1.out⟩
theorem qs_ret (he : QE X e te) : QS X (.Return (some e) pos) (tRet te) := ⟨ps_ret he.out⟩
theorem qs_never : QS X st tNever := ⟨ps_never⟩
theorem qs_expr (he : QE X e te) (hs : swapsWith e none pos.line X.env = pure false := by rfl) : QS X (.Expr e pos) (tDrop te) := ⟨ps_expr he.out hs⟩
theorem qs_if (hc : QT X c tA) (ha : QB X s1 T1) (hb : QB X s2 T2) : QS X (.If c s1 s2 pos) (tIfS tA T1 T2) := ⟨ps_if hc.out ha.out hb.out⟩
theorem qs_set {pos' : Pos} (hN : X.N.Nodup) (hi : X.N[i]? = some x) (hx : Loc X.env.scope x) (he : QE X e te) (hs : swapsWith e (some (.Name x pos')) pos.line X.env = pure false := by rfl) (hf : X.fn x = true ∨ X.env.scope.names.lookup x = some .local := by first | exact .inl rfl | exact .inr rfl | assumption) :
    QS X (.Assign [.Name x pos'] e pos) (tAsg te (gName i)) := ⟨ps_set hN hi hx he.out hs hf⟩
theorem qs_sub {tpos : Pos} (he : QE X e te) (ho : QE X o to) (hi : QE X b tb)
    (ha : ∀ v, assign (.Subscript o b tpos) X.env v = (do
      let ov ← holding [v] (eval o X.env)
      let iv ← holding [v, ov] (eval b X.env)
      standAt tpos
      holding [v, ov, iv] (setItem ov iv v)
      release [v, ov, iv] []) := by intro _; rfl)
    (hs : swapsWithSole [.Subscript o b tpos] e pos.line X.env = pure false := by rfl) (hw : swappedStores [.Subscript o b tpos] e X.env = pure none := by rfl)
    (h1 : (assignEach [.Subscript o b tpos] X.env).map (·.2) = [assign (.Subscript o b tpos) X.env] := by rfl) : QS X (.Assign [.Subscript o b tpos] e pos) (tAsg te (gSub to tb rSetL)) := ⟨ps_asg he.out (pg_sub ho.out hi.out set_list ha) hs hw h1⟩
theorem qs_par {i j : Nat} {x y : Str} {a b : Expr} {ta : TA} {px py pt : Pos} {kt k2 pt2} (hc : X.calm = true) (hN : X.N.Nodup) (hi : X.N[i]? = some x) (hj : X.N[j]? = some y) (hij : i ≠ j)
    (hx : X.env.scope.names.lookup x = some .local) (hy : X.env.scope.names.lookup y = some .local) (ha : QA X [a, b] ta)
    (hw : swappedStores [.Tuple [.Name x px, .Name y py] kt pt] (.Tuple [a, b] k2 pt2) X.env = pure (some [x, y]) := by rfl)
    (hs : swapsWithSole [.Tuple [.Name x px, .Name y py] kt pt] (.Tuple [a, b] k2 pt2) pos.line X.env = pure false := by rfl) :
    QS X (.Assign [.Tuple [.Name x px, .Name y py] kt pt] (.Tuple [a, b] k2 pt2) pos) (tPar i j ta) := ⟨ps_par hc hN hi hj hij hx hy ha.out hw hs⟩
theorem qs_while (hp : PassesOwn (model X.prog X.w) X.A X.env X.xe) (hc : QT X c tA) (hb : QB X sts T1) : QS X (.While c sts [] pos) (tWhile tA T1) := ⟨ps_while hp hc.out hb.out⟩
theorem qs_for (hp : PassesOwn (model X.prog X.w) X.A X.env X.xe) (hc : X.calm = true) (hi : QI X tg iter wi) (hg : QG X tg g) (hb : QB X sts T1) (hs : ∀ x, foldedSetIterable iter X.env x = pure x := by intro _; rfl) : QS X (.For tg iter sts [] pos) (tFor wi g T1) := ⟨ps_for hp hc hi.out hg.out hb.out hs⟩
theorem qe_comp {N tgs frs : List Str} {ix : List Nat} {scope : Scope} {cl : List (Str × Addr)} {elt : Expr} (c : CompOk X N tgs frs ix scope cl) (hc : X.calm = true) (hi : QI X tg iter wi)
    (hg : ∀ fp C s H, QG (cxComp X N scope cl fp C s H) tg g) (he : ∀ fp C s H, QE (cxComp X N scope cl fp C s H) elt te)
    (hs : ∀ x, foldedSetIterable iter X.env x = pure x := by intro _; rfl) :
    QE X (.ListComp elt [⟨tg, iter, [], 0⟩] scope pos) (tComp wi g te tgs ix) := ⟨pe_comp c hc hi.out (fun fp C s H => (hg fp C s H).out) (fun fp C s H => (he fp C s H).out) hs⟩
theorem q_add : QOp X (binaryOp .Add) (rI0 fun i j => .int (i + j)) := ⟨op_add⟩
theorem q_sub : QOp X (binaryOp .Sub) (rI0 fun i j => .int (i - j)) := ⟨op_sub⟩
theorem q_mul : QOp X (binaryOp .Mult) (rI CMul fun i j => .int (i * j)) := ⟨op_mul⟩
theorem q_fdivL : QOp X (binaryOp .FloorDiv) (rI CDivL fun i j => .int (i / j)) := ⟨op_fdivL⟩
theorem q_mod : QOp X (binaryOp .Mod) (rI (fun _ j => 0 < j) fun i j => .int (i % j)) := ⟨op_mod⟩
theorem q_pow : QOp X (binaryOp .Pow) (rI CPow fun i j => .int (i ^ j.toNat)) := ⟨op_pow⟩
theorem q_cat : QOp X (binaryOp .Add) rCat := ⟨op_cat⟩
theorem q_rep : QOp X (binaryOp .Mult) rRep := ⟨op_rep⟩
theorem q_eq : QOp X (compareOp .Eq) rEq := ⟨op_eq⟩
theorem q_ne : QOp X (compareOp .NotEq) rNe := ⟨op_ne⟩
theorem q_lt : QOp X (compareOp .Lt) (rI0 fun i j => .bl (decide (i < j))) := ⟨op_lt⟩
theorem q_le : QOp X (compareOp .LtE) (rI0 fun i j => .bl (decide (i ≤ j))) := ⟨op_le⟩
theorem q_gt : QOp X (compareOp .Gt) (rI0 fun i j => .bl (decide (j < i))) := ⟨op_gt⟩
theorem q_ge : QOp X (compareOp .GtE) (rI0 fun i j => .bl (decide (j ≤ i))) := ⟨op_ge⟩
theorem q_iadd : QOp X (inplaceOp .Add) (rI0 fun i j => .int (i + j)) := ⟨iop_add⟩
theorem q_neg : QUn X (unaryOp .USub) (rU fun i => .int (-i)) := ⟨un_neg⟩
theorem q_ixL {K : PySem.W.Frag} (hK : X.K = K := by rfl) : QIx X (rIxL K) := by subst hK; exact ⟨ix_list⟩
theorem q_ixT {K : PySem.W.Frag} (hK : X.K = K := by rfl) : QIx X (rIxT K) := by subst hK; exact ⟨ix_tup⟩
theorem q_slL {K : PySem.W.Frag} (hK : X.K = K := by rfl) : QSl X (rSlL K) := by subst hK; exact ⟨sl_list⟩
theorem q_slT {K : PySem.W.Frag} (hK : X.K = K := by rfl) : QSl X (rSlT K) := by subst hK; exact ⟨sl_tup⟩
theorem qc_abs : QC X (.builtin "abs") rAbs := ⟨cl_abs⟩
theorem qc_int : QC X (.type "int") rIntB := ⟨cl_int⟩
theorem qc_min (hc : X.calm = true) : QC X (.builtin "min") rMin2 := ⟨cl_min hc⟩
theorem qc_len {K : PySem.W.Frag} (hK : X.K = K := by rfl) : QC X (.builtin "len") (rLen K) := by subst hK; exact ⟨cl_len⟩
theorem qc_sum {K : PySem.W.Frag} (hc : X.calm = true) (hK : X.K = K := by rfl) : QC X (.builtin "sum") (rSum K) := by subst hK; exact ⟨cl_sum hc⟩
theorem qc_all {K : PySem.W.Frag} (hc : X.calm = true) (hK : X.K = K := by rfl) : QC X (.builtin "all") (rAll K) := by subst hK; exact ⟨cl_all hc⟩
theorem qc_isi {K : PySem.W.Frag} (hK : X.K = K := by rfl) : QC X (.builtin "isinstance") (rIsi K) := by subst hK; exact ⟨cl_isi⟩
theorem qc_tuple {K : PySem.W.Frag} (hK : X.K = K := by rfl) : QC X (.type "tuple") (rTupleOf K) := by subst hK; exact ⟨cl_tuple⟩
end
section
variable {P : Program} {w : World} {K : PySem.W.Frag} {mg : Str → Option Value} {base : Heap}
theorem Fun.okQ {x qual : Str} {st : Stmt} {f : Addr} {fd : FuncData} {N ps : List Str} {k : Nat} {sp : Sp} (F : Fun K x qual st f fd) (S : FnScope N ps (defScope st)) (len : ∀ vs H Q E, sp vs H Q E → vs.length = ps.length)
    (hbody : ∀ (cdv : Value) (A : Around) (outer : List Env) (s : Shared) (H : Hp) (vs : List V) (Q : VK) (E : XK), Room k (A.deeper (envOfC qual (defScope st) s.heap.objs.size f cdv)) → sp vs H Q E →
      ∃ t, QB (cxOf CX0 P w K mg base N qual (defScope st) f cdv A outer s H E).nox (defBody st) t ∧ t { nx := fun _ H' => Q .non H', rt := Q } (start N vs) H) : FnOk P w K mg base CX0 (k + 1) f fd ps sp :=
  F.ok S len fun cdv A outer s H vs Q E hr hsp => by
    obtain ⟨t, h, q⟩ := hbody cdv A outer s H vs Q E hr hsp
    exact ⟨t, h.out, q⟩
end
end L2

namespace L2
open PySem PySem.Spec PyProof.Rows
noncomputable def tRev (K : PySem.W.Frag) (te : TE) : TE := fun σ H Q => te σ H fun x H1 => ∃ a xs, x = .ref a ∧ SqL K H1 a xs ∧ ∀ p, H1 p = none → Q (.ref p) (upd H1 p (.lst xs.reverse))
section
variable {X : Cx} {e : Expr} {te : TE} {pos p1 p2 p3 : Pos} {j : Nat}
theorem pe_rev (he : PE X e te) : PE X (.Subscript e (.Slice none none (some (.UnaryOp .USub (.Constant (.int 1) j p1) p2)) p3) pos) (tRev X.K te) := by
  intro pins s σ H Q I h
  refine Subscript_ (thn (he pins s σ H _ I h) fun v s1 ⟨x, H1, I1, r1, q1⟩ => ?_)
  obtain ⟨a, xs, rfl, hx, q⟩ := q1
  cases r1
  refine wpAny_Slice (evalPart_none_step (evalPart_none_step (evalPart_some_step ?_)))
  refine thn (pe_un (X := X) un_neg pe_int pins s1 σ H1 (fun x H' => x = .int (-1) ∧ H' = H1) I1 ⟨1, rfl, rfl, rfl⟩) fun vk s2 ⟨y, H2, I2, r2, e2, e3⟩ => ?_
  subst e2 e3
  obtain ⟨t, rfl⟩ := r2
  have I4 : Inv X pins σ H2 { s2 with heap := s2.heap.push { cls := .type "slice", data := .fields #[.none, .none, .int (-1) t] } } := I2.kept (t' := s2.toks) fun b ob q => Heap.get?_push_of_some _ q
  obtain ⟨its, r, ht, hz⟩ := I4.list hx
  have hlen := r.length
  show wpAny (model X.prog X.w) X.A (subscriptTail e (.Slice none none (some (.UnaryOp .USub (.Constant (.int 1) j p1) p2)) p3) (.ref a) (.ref s2.heap.objs.size)) (EP X pins σ Q) X.xe { s2 with heap := s2.heap.push { cls := .type "slice", data := .fields #[.none, .none, .int (-1) t] } }
  refine tail_any (ops := [.ref a, .ref s2.heap.objs.size]) ht.isList.typeIs slot_list_getitem.lookup ?_ (by with_unfolding_all rfl)
  refine wpAny_getItem_list_slice ht.isList (Heap.IsSliceOf.new ..) .none .none (.int (-1) t) (by decide) ?_ (by rw [List.size_toArray]; omega)
  rw [PySem.W.krv_pick]
  refine ⟨.ref _, _, I4.laid (t' := s2.toks) (o := .lst xs.reverse) (fun b ob q => Heap.get?_push_of_some _ q) (Nat.le_refl _) ?_, rfl, q _ (I4.hok.fresh (Nat.le_refl _))⟩
  exact ⟨by rw [List.length_reverse]; exact hz, its.reverse, 0, r.reverse, Heap.get?_push_size _ rfl⟩
theorem qe_rev {K : PySem.W.Frag} (he : QE X e te) (hK : X.K = K := by rfl) : QE X (.Subscript e (.Slice none none (some (.UnaryOp .USub (.Constant (.int 1) j p1) p2)) p3) pos) (tRev K te) := by subst hK; exact ⟨pe_rev he.out⟩
end
theorem list_eq_all (ns ms : List Int) : ((List.range (min ns.length ms.length)).all (fun i => ns.getD i 0 == ms.getD i 0) && ns.length == ms.length) = decide (ns = ms) := by
  rw [Bool.eq_iff_iff, Bool.and_eq_true, List.all_eq_true, decide_eq_true_iff, beq_iff_eq]
  constructor
  · rintro ⟨h, hl⟩
    apply List.ext_getElem hl
    intro i h1 h2
    have := h i (by simp; omega)
    simpa [h1, h2] using this
  · rintro rfl
    exact ⟨fun i _ => by simp, rfl⟩
section
variable {X : Cx}
theorem int_at {ns : List Int} {its : List Value} (rv : Vals (ns.map V.int) its) {i : Nat} (h : i < its.toArray.size) : ∃ t, its.toArray[i] = .int (ns.getD i 0) t := by
  have hl := rv.length
  have h' : i < ns.length := by simp at hl h; omega
  obtain ⟨u, e, ru⟩ := rv.get (i := i) (x := V.int ns[i]) (by simp [h'])
  obtain ⟨t, rfl⟩ := ru
  refine ⟨t, ?_⟩
  have e2 : its.toArray[i]? = some (.int ns[i] t) := by simpa using e
  have e3 : its.toArray[i] = .int ns[i] t := by
    have := (Array.getElem?_eq_some_iff.mp e2).2
    exact this
  rw [e3]; simp [h']
theorem ints_eqAt {A : Around} {s : Shared} {ns ms : List Int} {its its2 : List Value} (r1 : Vals (ns.map V.int) its) (r2 : Vals (ms.map V.int) its2) (j : Nat) (h1 : j < its.toArray.size) (h2 : j < its2.toArray.size) :
    SeqAt.EqAt A s its.toArray[j] its2.toArray[j] (ns.getD j 0 == ms.getD j 0) := by
  obtain ⟨t, e⟩ := int_at r1 h1
  obtain ⟨u, e'⟩ := int_at r2 h2
  rw [e, e']
  exact SeqAt.EqAt.int_int _ _ _ _
noncomputable def rEqT (K : PySem.W.Frag) : R2 := fun x y H Q => ∃ (a b : Addr) (ns ms : List Int), x = .ref a ∧ y = .ref b ∧ SqT K H a (ns.map V.int) ∧ SqT K H b (ms.map V.int) ∧ Q (.bl (decide (ns = ms))) H
theorem op_eqT (hu : X.A.units < cLine) : OpR X (compareOp .Eq) (rEqT X.K) := by
  intro pins s σ H x y v u Q I rx ry h
  obtain ⟨a, b, ns, ms, rfl, rfl, ha, hb, q⟩ := h
  cases rx; cases ry
  obtain ⟨its, r1, p1, z1⟩ := I.tuple ha
  obtain ⟨its2, r2, p2, z2⟩ := I.tuple hb
  refine SeqAt.RcAt.tuples (e := fun i => ns.getD i 0 == ms.getD i 0) p1 p2 hu (fun j h1 h2 => ints_eqAt r1 r2 j h1 h2) X.prog X.w X.xe _ ?_
  have l1 : its.toArray.size = ns.length := by have := r1.length; simp at this; simp [this]
  have l2 : its2.toArray.size = ms.length := by have := r2.length; simp at this; simp [this]
  rw [l1, l2, list_eq_all]
  exact ⟨.bl _, H, I, rfl, q⟩
theorem q_eqT {K : PySem.W.Frag} (hu : X.A.units < cLine) (hK : X.K = K := by rfl) : QOp X (compareOp .Eq) (rEqT K) := by subst hK; exact ⟨op_eqT hu⟩
end
section
variable {K : PySem.W.Frag} {σ : St} {H : Hp} {Q : VK} {D : Ends}
theorem in_rev {te : TE} (h : te σ H fun x H1 => ∃ a xs, x = .ref a ∧ SqL K H1 a xs ∧ ∀ p, H1 p = none → Q (.ref p) (upd H1 p (.lst xs.reverse))) : tRev K te σ H Q := h
theorem in_par2 {i j : Nat} {ta tb : TE} (h : ta σ H fun x H1 => tb σ H1 fun y H2 => (fun x y => ∃ v w, [x, y] = [v, w] ∧ D.nx ((σ.set i (some v)).set j (some w)) H2) x y) : tPar i j (tCons ta (tCons tb tNil)) D σ H := h
theorem in_pair {x y : V} {R : V → V → Prop} (h : R x y) : ∃ v w, [x, y] = [v, w] ∧ R v w := ⟨x, y, rfl, h⟩
theorem in_bm {r : V → List V → Hp → VK → Prop} {to : TE} {t : TA} {T : String} (h : to σ H fun x H1 => tyV K T x H1 ∧ t σ H1 fun xs H2 => r x xs H2 Q) : tBM K T r to t σ H Q := h
theorem in_append {l : Addr} {xs : List V} {y : V} (s : H l = some (.lst xs)) (z : xs.length < sizeLine) (h : Q .non (upd H l (.lst (xs ++ [y])))) : rAppend (.ref l) [y] H Q := ⟨l, xs, y, rfl, rfl, s, z, h⟩
theorem ty_list {l : Addr} {xs : List V} (h : H l = some (.lst xs)) : tyV K "list" (.ref l) H := .inl ⟨rfl, _, SqL.of h⟩
theorem Same.tup {H1 : Hp} {a : Addr} {xs : List V} (e : Same H H1) (h : SqT K H a xs) : SqT K H1 a xs := by
  rcases h with (h | ⟨o, h⟩) | h
  · exact .inl (.inl (e _ _ h))
  · exact .inl (.inr ⟨o, e _ _ h⟩)
  · exact .inr h
theorem Same.new {H1 : Hp} {p : Addr} {o : HO} (e : Same H H1) (h : H1 p = none) : Same H (upd H1 p o) := fun b u q => by rw [upd_ne (ne_of_none (e b u q) h)]; exact e b u q
theorem Same.own {H1 : Hp} {p : Addr} {o : HO} (e : Same H H1) (h : H p = none) : Same H (upd H1 p o) := fun b u q => by rw [upd_ne (ne_of_none q h)]; exact e b u q
end
theorem in_conv {c A B : Prop} [Decidable c] (hA : c → B → A) (hB : B) : if decide c = true then A else B := in_split (fun h => hA h hB) (fun _ => hB)
noncomputable def Nx (n i : Nat) (P : Prop) : Prop := ∃ m', m' < n - i ∧ m' = n - (i + 1) ∧ i + 1 ≤ n ∧ P
theorem Nx.mk {n i : Nat} {P : Prop} (h : i < n) (p : P) : Nx n i P := ⟨n - (i + 1), by omega, rfl, h, p⟩
section
variable {K : PySem.W.Frag} {H : Hp} {g : TG} {te : TE} {σ0 : St} {R : List V → Hp → Prop}
theorem comp_rng {n : Nat} (Pv : Nat → List V → St → Hp → Prop) (hz : n < sizeLine) (hl : ∀ i ys σ H, Pv i ys σ H → ys.length = i) (h0 : Pv 0 [] σ0 H)
    (hs : ∀ i ys σ H, i < n → Pv i ys σ H → g (.int (0 + i)) σ H fun σ2 H2 => te σ2 H2 fun y H3 => Nx n i (Pv (i + 1) (ys ++ [y]) σ2 H3)) (hd : ∀ ys σ H, Pv n ys σ H → R ys H) :
    ∃ W : Nat → Nat → List V → St → Hp → Prop, (∃ m, W 0 m [] σ0 H) ∧ ∀ i m xs σc H, W i m xs σc H → xs.length < sizeLine ∧
    (((Itr 0 n).stop i H ∧ R xs H) ∨ ((Itr 0 n).go i H ∧ ∀ x H', (Itr 0 n).yld i H x H' → g x σc H' fun σ2 H2 => te σ2 H2 fun y H3 => ∃ m', m' < m ∧ W (i + 1) m' (xs ++ [y]) σ2 H3)) := by
  refine ⟨fun i m xs σ H => m = n - i ∧ i ≤ n ∧ Pv i xs σ H, ⟨n, by simp, Nat.zero_le _, h0⟩, ?_⟩
  rintro i m xs σ H ⟨rfl, hi, p⟩
  refine ⟨by rw [hl i xs σ H p]; exact Nat.lt_of_le_of_lt hi hz, ?_⟩
  by_cases hlt : i < n
  · refine .inr ⟨hlt, fun x H' y => ?_⟩
    obtain ⟨e, y⟩ := y
    subst e y
    exact hs i xs σ _ hlt p
  · have e : i = n := by omega
    subst e
    exact .inl ⟨Nat.le_refl _, hd xs σ H p⟩
theorem comp_tupl {a : Addr} {vs : List V} (Pv : Nat → List V → St → Hp → Prop) (hz : vs.length < sizeLine) (hl : ∀ i ys σ H, Pv i ys σ H → ys.length = i) (ht : ∀ i ys σ H, Pv i ys σ H → SqT K H a vs) (h0 : Pv 0 [] σ0 H)
    (hs : ∀ i ys σ H x, vs[i]? = some x → Pv i ys σ H → g x σ H fun σ2 H2 => te σ2 H2 fun y H3 => Nx vs.length i (Pv (i + 1) (ys ++ [y]) σ2 H3)) (hd : ∀ ys σ H, Pv vs.length ys σ H → R ys H) :
    ∃ W : Nat → Nat → List V → St → Hp → Prop, (∃ m, W 0 m [] σ0 H) ∧ ∀ i m xs σc H, W i m xs σc H → xs.length < sizeLine ∧
    (((Itt K a).stop i H ∧ R xs H) ∨ ((Itt K a).go i H ∧ ∀ x H', (Itt K a).yld i H x H' → g x σc H' fun σ2 H2 => te σ2 H2 fun y H3 => ∃ m', m' < m ∧ W (i + 1) m' (xs ++ [y]) σ2 H3)) := by
  refine ⟨fun i m xs σ H => m = vs.length - i ∧ i ≤ vs.length ∧ Pv i xs σ H, ⟨vs.length, by simp, Nat.zero_le _, h0⟩, ?_⟩
  rintro i m xs σ H ⟨rfl, hi, p⟩
  have q := ht i xs σ H p
  refine ⟨by rw [hl i xs σ H p]; exact Nat.lt_of_le_of_lt hi hz, ?_⟩
  by_cases hlt : i < vs.length
  · refine .inr ⟨⟨vs, vs[i], q, by simp [hlt]⟩, fun x H' y => ?_⟩
    obtain ⟨e, y⟩ := y
    subst e
    exact hs i xs σ _ x (y vs q) p
  · have e : i = vs.length := by omega
    subst e
    exact .inl ⟨⟨vs, q, Nat.le_refl _⟩, hd xs σ H p⟩
theorem comp_lst {a : Addr} {vs : List V} (Pv : Nat → List V → St → Hp → Prop) (hz : vs.length < sizeLine) (hl : ∀ i ys σ H, Pv i ys σ H → ys.length = i) (ht : ∀ i ys σ H, Pv i ys σ H → SqL K H a vs) (h0 : Pv 0 [] σ0 H)
    (hs : ∀ i ys σ H x, vs[i]? = some x → Pv i ys σ H → g x σ H fun σ2 H2 => te σ2 H2 fun y H3 => Nx vs.length i (Pv (i + 1) (ys ++ [y]) σ2 H3)) (hd : ∀ ys σ H, Pv vs.length ys σ H → R ys H) :
    ∃ W : Nat → Nat → List V → St → Hp → Prop, (∃ m, W 0 m [] σ0 H) ∧ ∀ i m xs σc H, W i m xs σc H → xs.length < sizeLine ∧
    (((Itl K a).stop i H ∧ R xs H) ∨ ((Itl K a).go i H ∧ ∀ x H', (Itl K a).yld i H x H' → g x σc H' fun σ2 H2 => te σ2 H2 fun y H3 => ∃ m', m' < m ∧ W (i + 1) m' (xs ++ [y]) σ2 H3)) := by
  refine ⟨fun i m xs σ H => m = vs.length - i ∧ i ≤ vs.length ∧ Pv i xs σ H, ⟨vs.length, by simp, Nat.zero_le _, h0⟩, ?_⟩
  rintro i m xs σ H ⟨rfl, hi, p⟩
  have q := ht i xs σ H p
  refine ⟨by rw [hl i xs σ H p]; exact Nat.lt_of_le_of_lt hi hz, ?_⟩
  by_cases hlt : i < vs.length
  · refine .inr ⟨⟨vs, vs[i], q, by simp [hlt]⟩, fun x H' y => ?_⟩
    obtain ⟨e, y⟩ := y
    subst e
    exact hs i xs σ _ x (y vs q) p
  · have e : i = vs.length := by omega
    subst e
    exact .inl ⟨⟨vs, q, Nat.le_refl _⟩, hd xs σ H p⟩
end
end L2

namespace L2
open PySem PySem.Spec PyProof.Rows
section
variable {X : Cx} {N tgs frs : List Str} {ix : List Nat} {scope : Scope} {cl : List (Str × Addr)}
theorem ps_setC {elt iter tg : Expr} {pos spos py : Pos} {y : Str} {iy : Nat} {wi : TI} {g : TG} {te : TE} (hN : X.N.Nodup) (hy : X.N[iy]? = some y) (hx : Loc X.env.scope y) (c : CompOk X N tgs frs ix scope cl) (hc : X.calm = true) (hi : PI X tg iter wi)
    (hg : ∀ fp C s H, PG (cxComp X N scope cl fp C s H) tg g) (he : ∀ fp C s H, PE (cxComp X N scope cl fp C s H) elt te)
    (hs : ∀ x, foldedSetIterable iter X.env x = pure x := by intro _; rfl)
    (hsw : swapsWith (.ListComp elt [⟨tg, iter, [], 0⟩] scope pos) (some (.Name y py)) spos.line X.env = pure true := by rfl)
    (hf : X.fn y = true ∨ X.env.scope.names.lookup y = some .local := by first | exact .inl rfl | exact .inr rfl | assumption) :
    PS X (.Assign [.Name y py] (.ListComp elt [⟨tg, iter, [], 0⟩] scope pos) spos) (tAsg (tComp wi g te tgs ix) (gName iy)) := by
  intro pins s σ H Dn I h
  rw [exec_Assign_Name_used _ _ _ _ hsw]
  refine wpAny_bind (wpAny_standAt (wpAny_bind ?_))
  show wpAny _ X.A (do let _ ← comprehension (.ListComp elt [⟨tg, iter, [], 0⟩] scope pos) scope X.env _ (newList []) false (eval iter X.env) (some (assign (.Name y py) X.env))) _ _ s
  refine wpAny_bind (wpAny_mono (wpAny_comprehension_free (use := some (assign (.Name y py) X.env)) (Q := fun _ s' => SP X pins Dn .next s') rfl hs c.clos c.kind c.names (thn (hi pins s σ H _ I h) fun xv s1 h1 => thn h1 fun itv s2 h2 => ?_)) (fun _ s' hq => wpAny_pure (wpAny_pure hq)) fun _ _ e => e)
  obtain ⟨it, fp, tn, J, H2, rfl, I2, T, st2, f2, W, ⟨m0, w0⟩, turn⟩ := h2
  have hfl : ∀ b ∈ fp, b < s2.heap.objs.size := fun b hb => by
    obtain ⟨o, e, _⟩ := T.obj _ _ st2 b hb
    exact Heap.lt_size e
  have hcn : ∀ x a, cl.lookup x = some a → X.env.cells.lookup x = some a := c.cls.get
  refine wpAny_newObj_type (wpAny_newFunctionEnv c.cell (by intro y hy; simp at hy) (fun h1 hns1 hsb1 => ?_) c.kind)
  dsimp only at hns1 hsb1 ⊢
  generalize hH2 : s2.heap.push { cls := .type "list", dict := none, data := .seq ([] : List Value).toArray } = G2 at hns1 hsb1 ⊢
  have hC : G2.objs.size = s2.heap.objs.size + 1 := by rw [← hH2, Heap.size_push]
  generalize hCC : G2.objs.size = C at *
  generalize hDD : s2.heap.objs.size = D at *
  have hDC : D ≠ C := by omega
  have hCle : D ≤ C := by omega
  have old : ∀ b o, s2.heap.get? b = some o → h1.get? b = some o := fun b o e => by
    have lt : b < s2.heap.objs.size := Heap.lt_size e
    exact hsb1.extBut b o (Nat.ne_of_lt (Nat.lt_of_lt_of_le (hDD ▸ lt) hCle)) (Heap.get?_push_of_some _ (hH2 ▸ Heap.get?_push_of_some _ e))
  have hacc : h1.get? D = some (lstObj [] 0) := hsb1.extBut _ _ hDC (Heap.get?_push_of_some _ (hH2 ▸ (hDD ▸ Heap.get?_push_size _ rfl)))
  have cellD : ∀ x a, X.env.cells.lookup x = some a → a < D := fun x a e => by
    obtain ⟨v, q⟩ := I2.cell x a e
    exact hDD ▸ q.lt
  have fpc : ∀ {H' : Hp} {us : List Value} {k : Nat}, (∀ b ∈ fp, H' b = none) → ∀ b ∈ fp, FpOk (cxComp X N scope cl fp C s2 H2) [(D, lstObj us k)] H' b := fun {H' us k} hn b hb => by
    have lb := hfl b hb
    refine ⟨hn b hb, ?_, fun z => ?_, .inl hb, fun x a e z => ?_, fun p hp => ?_⟩
    · exact Nat.ne_of_lt (Nat.lt_of_lt_of_le lb hCle)
    · rcases List.mem_cons.mp (I2.stkSub b z) with e | e
      · exact (f2 b hb).2.1 e
      · exact (f2 b hb).2.2.1 e
    · exact (f2 b hb).2.2.2.2.1 x a (hcn x a e) z
    · have : p = (D, lstObj us k) := by simpa [cxComp] using hp
      rw [this]; exact Nat.ne_of_gt lb
  have D_fs : D ∉ (cxComp X N scope cl fp C s2 H2).fs := fun z => by
    rcases List.mem_cons.mp (I2.stkSub D z) with e | e
    · exact absurd I2.lt (by rw [← e, hDD]; exact Nat.lt_irrefl _)
    · exact I2.nofs (Nat.le_of_eq hDD) e
  have I3 := inv_comp (tk := s2.toks + ([] : List (Str × Value)).length) (pins' := [(D, lstObj [] 0)]) c I2 f2 (fun b hb => hDD ▸ hfl b hb) (hDD ▸ hCle : s2.heap.objs.size ≤ C) hns1 old (fun p hp => by
    have e : p = (D, lstObj [] 0) := by simpa using hp
    subst e
    exact ⟨hacc, Nat.le_of_eq hDD, hDC, fun v z => by cases z⟩)
  have tn3 : tn 0 h1 := T.keep _ _ _ st2 fun b _ o e => old b o e
  have loop : codeAny (model X.prog X.w) X.A (.compLoop (.ListComp elt [⟨tg, iter, [], 0⟩] scope pos) 0 (.ref it) (.ref D) (compEnvC scope cl C X.env))
      (compPost (model X.prog X.w) X.A X.xe (some (assign (.Name y py) X.env)) (fun _ s' => SP X pins Dn .next s') (.ref D) C) { s2 with heap := h1, toks := s2.toks + ([] : List (Str × Value)).length } := by
    refine compLoop_gen (fun n s' => ∃ i xs us k σc H', Inv (cxComp X N scope cl fp C s2 H2) [(D, lstObj us k)] σc H' s' ∧ tn i s'.heap ∧ (∀ b ∈ fp, H' b = none) ∧ Vals xs us ∧ W i n xs σc H') ?_ m0
      ⟨0, [], [], 0, _, H2, I3, tn3, fun b hb => (f2 b hb).1, .nil, w0⟩
    rintro n s4 ⟨i, xs, us, k, σ4, H4, I4, tn4, fr4, rv, w4⟩
    obtain ⟨hsz, tt⟩ := turn i n xs σ4 H4 w4
    rcases tt with ⟨stop, fin⟩ | ⟨go, step⟩
    · refine thn (T.done (cxComp X N scope cl fp C s2 H2) rfl rfl rfl hc i _ s4 σ4 H4 _ I4 (fpc fr4) tn4 stop) fun r s5 ⟨hr, I5⟩ => ?_
      subst hr
      obtain ⟨m, ns, _⟩ := I5.loc
      have J1 : Inv X pins σ H4 s5 := I2.call' I5.os I5.base I5.hok I5.bare fun b hb => ⟨(f2 b hb).2.2.2.1, (f2 b hb).2.1, (f2 b hb).2.2.2.2.1, (f2 b hb).2.2.2.2.2⟩
      have big : ∀ a, D ≤ a → a ≠ X.env.locals ∧ (a ∈ X.ex ∨ X.s₀.heap.objs.size ≤ a) ∧ (∀ x y, X.env.cells.lookup x = some y → y ≠ a) ∧ ∀ p ∈ X.pn ++ pins, p.1 ≠ a := fun a ha => by
        obtain ⟨q0, q1, q2, q3, q4, q5⟩ := I2.fpOk (b := a) (H' := fun _ => none) (hDD ▸ ha) rfl
        exact ⟨q1, q3, q4, q5⟩
      have nfs : ∀ a, D ≤ a → a ∉ X.fs := fun a ha => I2.nofs (hDD ▸ ha)
      obtain ⟨b1, b2, b3, b4⟩ := big C hCle
      obtain ⟨p1, p2, p3, p4, p5⟩ := I5.pin (D, lstObj us k) (by simp)
      obtain ⟨d1, d2, d3, d4⟩ := big D (Nat.le_refl _)
      have J3 : Inv X pins σ (upd H4 D (.lst xs)) s5 := J1.adopt p2 d1 d2 d3 d4 ⟨Nat.le_of_lt hsz, us, k, rv, p1⟩
      obtain ⟨oC, esC, epC, hoC, hdC, rC⟩ := id ns
      have hHC : (upd H4 D (.lst xs)) C = none := by rw [upd_ne (Ne.symm hDC)]; exact I5.free
      have J4 : Inv X (pins ++ [(C, oC)]) σ (upd H4 D (.lst xs)) s5 := J3.pins_of fun p hp => by
        rcases List.mem_append.mp hp with z | z
        · exact J3.pin p (List.mem_append_right _ z)
        · have e : p = (C, oC) := by simpa using z
          subst e
          exact ⟨hoC, hHC, b1, nfs C hCle, fun v z => by rw [hdC] at z; cases z⟩
      show wpAny _ X.A (assign (.Name y py) X.env (.ref D)) _ _ s5
      refine wpAny_assign_Name (store_ok J4 hN hy hx (v := .ref D) rfl (fun s6 J5 => ?_) hf)
      have hC6 := (J5.pin (C, oC) (List.mem_append_right _ (List.mem_append_right _ (by simp)))).1
      refine ⟨m, ⟨oC, esC, epC, hC6, hdC, rC⟩, fun h' sb => ?_⟩
      have J6 : Inv X pins (σ.set iy (some (.ref D))) (upd H4 D (.lst xs)) s6 := J5.unpinned
      have J7 : Inv X pins (σ.set iy (some (.ref D))) (upd H4 D (.lst xs)) { s6 with heap := h' } := J6.turned (t' := s6.toks) (fun b o hb e => sb.extBut b o hb e) hHC b1 b2 b3 b4
      exact ⟨_, _, J7, fin D p2⟩
    · refine thn (T.item (cxComp X N scope cl fp C s2 H2) rfl rfl rfl hc i _ s4 σ4 H4 _ I4 (fpc fr4) tn4 go) fun r s5 ⟨u, hr, h5⟩ => ?_
      subst hr
      refine thn h5 fun _ s6 ⟨x, H6, I6, r6, y6, tn6, fr6⟩ => ?_
      have I6' := I6.pinned (fpc fr6) (T.obj _ _ tn6)
      refine thn (hg fp C s2 H2 _ s6 σ4 H6 x u _ I6' r6 (step x H6 y6)) fun _ s7 ⟨σ7, H7, I7, q7⟩ => ?_
      refine thn (he fp C s2 H2 _ s7 σ7 H7 _ I7 q7) fun yv s8 ⟨y, H8, I8, r8, m', hm, w8⟩ => ?_
      obtain ⟨p1, p2, p3, p4, p5⟩ := I8.pin (D, lstObj us k) (by simp [cxComp])
      have hsz' : us.toArray.size ≤ sizeLine := by simp; rw [← rv.length]; exact Nat.le_of_lt hsz
      refine wpAny_list_append_plain (hsz := hsz') ⟨k, p1⟩ fun h' pl sb => ?_
      have tn8 : tn (i + 1) s8.heap := T.keep _ _ _ tn6 fun b hb o e => (I8.pin (b, o) (List.mem_append_right _ (List.mem_append_right _ (mem_pinsAt hb e)))).1
      have fr8 : ∀ b ∈ fp, H8 b = none := fun b hb => by
        obtain ⟨o, e, d⟩ := T.obj _ _ tn6 b hb
        exact (I8.pin (b, o) (List.mem_append_right _ (List.mem_append_right _ (mem_pinsAt hb e)))).2.1
      have I9 : Inv (cxComp X N scope cl fp C s2 H2) [] σ7 H8 s8 := I8.pins_of fun p hp => nomatch hp
      have I10 : Inv (cxComp X N scope cl fp C s2 H2) [] σ7 H8 { s8 with heap := h' } := I9.turned (t' := s8.toks) (it := D) (fun b o hb e => sb.extBut b o hb e) p2 p3 (.inr (Nat.le_of_eq hDD))
        (fun x a e => Nat.ne_of_lt (cellD x a (hcn x a e))) (fun p hp => by simp [cxComp] at hp)
      obtain ⟨k', pl⟩ := pl
      have eu : us.toArray.push yv = (us ++ [yv]).toArray := by simp
      rw [eu] at pl
      have I11 : Inv (cxComp X N scope cl fp C s2 H2) [(D, lstObj (us ++ [yv]) k')] σ7 H8 { s8 with heap := h' } := I10.pins_of fun p hp => by
        have e : p = (D, lstObj (us ++ [yv]) k') := by simpa using hp
        subst e
        exact ⟨pl, p2, p3, p4, fun v z => by cases z⟩
      exact ⟨m', hm, i + 1, xs ++ [y], us ++ [yv], k', σ7, H8, I11, T.keep _ _ _ tn8 fun b hb o e => sb.extBut b o (Nat.ne_of_lt (hfl b hb)) e, fr8, rv.append (.cons r8 .nil), w8⟩
  exact codeAny_compStart_list loop (T.self _ 0 _ _ _ tn3 loop)
end
section
variable {X : Cx} {N tgs frs : List Str} {ix : List Nat} {scope : Scope} {cl : List (Str × Addr)}
theorem qs_setC {elt iter tg : Expr} {pos spos py : Pos} {y : Str} {i : Nat} {wi : TI} {g : TG} {te : TE} (hN : X.N.Nodup) (hy : X.N[i]? = some y) (hx : Loc X.env.scope y) (c : CompOk X N tgs frs ix scope cl) (hc : X.calm = true) (hi : QI X tg iter wi)
    (hg : ∀ fp C s H, QG (cxComp X N scope cl fp C s H) tg g) (he : ∀ fp C s H, QE (cxComp X N scope cl fp C s H) elt te)
    (hs : ∀ x, foldedSetIterable iter X.env x = pure x := by intro _; rfl)
    (hsw : swapsWith (.ListComp elt [⟨tg, iter, [], 0⟩] scope pos) (some (.Name y py)) spos.line X.env = pure true := by rfl)
    (hf : X.fn y = true ∨ X.env.scope.names.lookup y = some .local := by first | exact .inl rfl | exact .inr rfl | assumption) :
    QS X (.Assign [.Name y py] (.ListComp elt [⟨tg, iter, [], 0⟩] scope pos) spos) (tAsg (tComp wi g te tgs ix) (gName i)) :=
  ⟨ps_setC hN hy hx c hc hi.out (fun fp C s H => (hg fp C s H).out) (fun fp C s H => (he fp C s H).out) hs hsw hf⟩
end
section
variable {prog : Program} {w : World} {A : Around} {E : Value → Shared → Prop} {s : Shared}
end
section
variable {X : Cx} {pos : Pos} {u : TGs}
end
end L2

namespace L2
open PySem PySem.Spec PyProof.Rows
theorem snoc_get {α : Type} {xs : List α} {x : α} {i : Nat} {y : α} (h : (xs ++ [x])[i]? = some y) : (i < xs.length ∧ xs[i]? = some y) ∨ (i = xs.length ∧ y = x) := by
  rcases Nat.lt_trichotomy i xs.length with l | l | l
  · rw [List.getElem?_append_left l] at h; exact .inl ⟨l, h⟩
  · subst l; simp at h; exact .inr ⟨rfl, h.symm⟩
  · rw [List.getElem?_eq_none (by simp; omega)] at h; cases h
end L2

namespace L2
open PySem PySem.Spec PyProof.Rows
section
variable {X : Cx} {pins : List (Addr × Obj)} {σ : St} {H : Hp} {s : Shared} {h' : Heap}
theorem Inv.turnedAll {t' : Nat} {ch : List Addr} (I : Inv X pins σ H s) (k : ∀ b o, b ∉ ch → s.heap.get? b = some o → h'.get? b = some o) (hf : ∀ b ∈ ch, FpOk X pins H b) : Inv X pins σ H { s with heap := h', toks := t' } := by
  have nit : ∀ b u, H b = some u → b ∉ ch := fun b u e z => by rw [(hf b z).1] at e; cases e
  refine I.step (g' := s.gens) (d' := s.drawn) (ch := ch) (fun b hb => ?_) (fun b o _ _ hc e _ => k b o hc e) (fun b o _ _ hc e _ => ⟨o.slots, k b o hc e⟩) (fun _ _ _ _ n => n)
    (fun b o hc e => ⟨o, k b o hc e⟩) (fun _ _ e => e) (fun _ _ _ e => e) (fun b ps e => ⟨#[], by rw [e]; simp⟩) (fun m hm => ?_) (fun b u e => ?_) I.bare
  · obtain ⟨_, f1, _, f3, f4, f5⟩ := hf b hb
    exact ⟨f3, f1, f4, f5⟩
  · obtain ⟨o, es, ep, q, r⟩ := hm
    exact ⟨o, es, ep, k _ o (fun z => (hf _ z).2.1 rfl) q, r⟩
  · refine (I.hok b u e).stay (fun c v hc q => k c v ?_ q) (fun _ q => q) fun _ _ q => q
    rcases hc with z | z
    · rw [z]; exact nit b u e
    · exact nit c _ z
end
section
variable {X : Cx}
noncomputable def rNeL (K : PySem.W.Frag) : R2 := fun x y H Q => ∃ (a b : Addr) (ns ms : List Int), x = .ref a ∧ y = .ref b ∧ SqL K H a (ns.map V.int) ∧ SqL K H b (ms.map V.int) ∧ Q (.bl (!decide (ns = ms))) H
noncomputable def rEqL (K : PySem.W.Frag) : R2 := fun x y H Q => ∃ (a b : Addr) (ns ms : List Int), x = .ref a ∧ y = .ref b ∧ SqL K H a (ns.map V.int) ∧ SqL K H b (ms.map V.int) ∧ Q (.bl (decide (ns = ms))) H
theorem all_same {ns ms : List Int} (hl : ns.length = ms.length) : (List.range ns.length).all (fun i => ns.getD i 0 == ms.getD i 0) = decide (ns = ms) := by
  have := list_eq_all ns ms
  rw [hl, Nat.min_self, beq_self_eq_true, Bool.and_true] at this
  rw [hl]; exact this
theorem q_neL {K : PySem.W.Frag} (hu : X.A.units < cLine) (hK : X.K = K := by rfl) : QOp X (compareOp .NotEq) (rNeL K) := by
  subst hK
  refine ⟨fun pins s σ H x y v u Q I rx ry h => ?_⟩
  obtain ⟨a, b, ns, ms, rfl, rfl, ha, hb, q⟩ := h
  cases rx; cases ry
  obtain ⟨its, r1, p1, z1⟩ := I.list ha
  obtain ⟨its2, r2, p2, z2⟩ := I.list hb
  have l1 : its.toArray.size = ns.length := by have := r1.length; simp at this; simp [this]
  have l2 : its2.toArray.size = ms.length := by have := r2.length; simp at this; simp [this]
  by_cases hl : ns.length = ms.length
  · refine SeqAt.RcNeAt.lists (e := fun i => ns.getD i 0 == ms.getD i 0) p1.isList p2.isList (by omega) hu (fun j h1 h2 => ints_eqAt r1 r2 j h1 h2) X.prog X.w X.xe _ ?_
    rw [l1, all_same hl]
    exact ⟨.bl _, H, I, rfl, q⟩
  · refine SeqAt.RcNeAt.lists_lengths p1.isList p2.isList (by rw [l1, l2]; simpa using hl) hu X.prog X.w X.xe _ ?_
    have e : decide (ns = ms) = false := decide_eq_false fun z => hl (by rw [z])
    rw [e] at q
    exact ⟨.bl true, H, I, rfl, q⟩
theorem q_eqL {K : PySem.W.Frag} (hu : X.A.units < cLine) (hK : X.K = K := by rfl) : QOp X (compareOp .Eq) (rEqL K) := by
  subst hK
  refine ⟨fun pins s σ H x y v u Q I rx ry h => ?_⟩
  obtain ⟨a, b, ns, ms, rfl, rfl, ha, hb, q⟩ := h
  cases rx; cases ry
  obtain ⟨its, r1, p1, z1⟩ := I.list ha
  obtain ⟨its2, r2, p2, z2⟩ := I.list hb
  have l1 : its.toArray.size = ns.length := by have := r1.length; simp at this; simp [this]
  have l2 : its2.toArray.size = ms.length := by have := r2.length; simp at this; simp [this]
  by_cases hl : ns.length = ms.length
  · refine SeqAt.RcAt.lists (e := fun i => ns.getD i 0 == ms.getD i 0) p1.isList p2.isList (by omega) hu (fun j h1 h2 => ints_eqAt r1 r2 j h1 h2) X.prog X.w X.xe _ ?_
    rw [l1, all_same hl]
    exact ⟨.bl _, H, I, rfl, q⟩
  · refine SeqAt.RcAt.lists_lengths p1.isList p2.isList (by rw [l1, l2]; simpa using hl) hu X.prog X.w X.xe _ ?_
    have e : decide (ns = ms) = false := decide_eq_false fun z => hl (by rw [z])
    rw [e] at q
    exact ⟨.bl false, H, I, rfl, q⟩
end
section
variable {K : PySem.W.Frag} {H : Hp} {Q : VK}
theorem in_neL {a b : Addr} {ns ms : List Int} (ha : SqL K H a (ns.map V.int)) (hb : SqL K H b (ms.map V.int)) (h : Q (.bl (!decide (ns = ms))) H) : rNeL K (.ref a) (.ref b) H Q := ⟨a, b, ns, ms, rfl, rfl, ha, hb, h⟩
end
end L2

namespace L2
open PySem PySem.Spec PyProof.Rows
section
variable {prog : Program} {w : World} {A : Around} {E : Value → Shared → Prop} {s : Shared}
theorem drawT_item {it t : Addr} {i : Nat} {vs : Array Value} {x : Value} {Q : Value → Shared → Prop} (a1 : s.heap.IsTupleIter it t i) (a2 : s.heap.IsTuple t vs) (a3 : vs[i]? = some x)
    (a4 : ∀ g, g.IsTupleIter it t (i + 1) → Heap.SameBut it s.heap g → Q x { s with heap := g }) : wpAny (model prog w) A (Builtin.SmallTypes.nextOf (.ref it)) Q E s := by
  have ty := a1.typeIs
  obtain ⟨u, e1, e2, e3⟩ := a1
  obtain ⟨v, f1, _, m, f3⟩ := a2
  unfold Builtin.SmallTypes.nextOf
  refine wpAny_bind (wpAny_callSpecial?_slot (name := Str.ofString "__next__") ty F.slot_tuple_iterator_next (wpAny_call_entry F.slot_tuple_iterator_next ty F.entry_tuple_iterator_next ?_ (F.args_tuple_iterator_next_1 _)))
  show wpAny _ _ (PySem.field (.ref it) 0 >>= _) _ _ s
  refine wpAny_bind (wpAny_field e1 e3 (x := .ref t) rfl ?_)
  show wpAny _ _ (ite ((Value.ref t == Value.none) = true) _ _) _ _ s
  rw [if_neg (fun z : (Value.ref t == Value.none) = true => Bool.false_ne_true z)]
  show wpAny _ _ (PySem.field (.ref it) 1 >>= _) _ _ s
  refine wpAny_bind (wpAny_field e1 e3 (x := .int i 0) rfl ?_)
  show wpAny _ _ (PySem.seqItems? (.ref t) >>= _) _ _ s
  refine wpAny_bind (wpAny_seqItems f1 f3 ?_)
  simp only [a3, Int.toNat_natCast]
  refine wpAny_bind (wpAny_setField e1 e3 (by simp) (wpAny_pure ⟨x, rfl, wpAny_pure (a4 _ ?_ (Heap.SameBut.update ..))⟩))
  refine ⟨_, Heap.get?_update_self _ e1 (Obj.isFreed_of_fields (Obj.data_mapFields e3 _)), (Obj.cls_mapFields ..).trans e2, ?_⟩
  rw [Obj.data_mapFields e3]
  simp [rawInt]
theorem drawT_end {it t : Addr} {i : Nat} {vs : Array Value} {Q : Value → Shared → Prop} (hh : A.handled = none) (a1 : s.heap.IsTupleIter it t i) (a2 : s.heap.IsTuple t vs) (a3 : vs[i]? = none)
    (a4 : ∀ g e, Heap.ExtBut it s.heap g → (∃ o, g.get? e = some o ∧ o.cls = .type "StopIteration") → E (.ref e) { s with heap := g }) : wpAny (model prog w) A (Builtin.SmallTypes.nextOf (.ref it)) Q E s := by
  have ty := a1.typeIs
  obtain ⟨u, e1, e2, e3⟩ := a1
  obtain ⟨v, f1, _, m, f3⟩ := a2
  unfold Builtin.SmallTypes.nextOf
  refine wpAny_bind (wpAny_callSpecial?_slot (name := Str.ofString "__next__") ty F.slot_tuple_iterator_next (wpAny_call_entry F.slot_tuple_iterator_next ty F.entry_tuple_iterator_next ?_ (F.args_tuple_iterator_next_1 _)))
  show wpAny _ _ (PySem.field (.ref it) 0 >>= _) _ _ s
  refine wpAny_bind (wpAny_field e1 e3 (x := .ref t) rfl ?_)
  show wpAny _ _ (ite ((Value.ref t == Value.none) = true) _ _) _ _ s
  rw [if_neg (fun z : (Value.ref t == Value.none) = true => Bool.false_ne_true z)]
  show wpAny _ _ (PySem.field (.ref it) 1 >>= _) _ _ s
  refine wpAny_bind (wpAny_field e1 e3 (x := .int i 0) rfl ?_)
  show wpAny _ _ (PySem.seqItems? (.ref t) >>= _) _ _ s
  refine wpAny_bind (wpAny_seqItems f1 f3 ?_)
  simp only [a3, Int.toNat_natCast]
  refine wpAny_bind (wpAny_rule (wpAny_bind (wpAny_setField e1 e3 (by simp) ?_)))
  show wpAny _ _ (PySem.newExc (.type "StopIteration") [] >>= _) _ _ _
  refine wpAny_bind ?_
  simp only [newTuple, newExc]
  refine wpAny_bind (wpAny_newObj_type ?_ (by size_fits))
  refine wpAny_bind (m := PySem.firstArgMember _ _) (wpAny_of_eq (a := Value.none) (by first | rfl | (simp only [firstArgMember]; rfl)) ?_)
  refine wpAny_newObj_type ?_ (by size_fits)
  simp only [raiseNew]
  refine wpAny_bind (wpAny_handled ?_)
  first
    | rw [show A.in1.handled = none from hh]
    | rw [hh]
  refine wpAny_bind (wpAny_pure (wpAny_throw ?_))
  exact a4 _ _ (((Heap.SameBut.update ..).extBut.push _).push _) ⟨_, Heap.get?_push_size _ rfl, rfl⟩
theorem drawsT (hh : A.handled = none) (it t : Addr) (hne : t ≠ it) (vs : Array Value) :
    Draws prog w A it [it, t] vs.size (fun i v => vs[i]? = some v) (fun i h => h.IsTupleIter it t i ∧ h.IsTuple t vs) where
  live := fun _ _ st => by obtain ⟨⟨o, q, _⟩, _⟩ := st; exact ⟨o, q⟩
  frame := fun _ _ _ st k => by
    obtain ⟨⟨o, q, r⟩, ⟨o', q', r'⟩⟩ := st
    exact ⟨⟨o, k it (by simp) o q, r⟩, ⟨o', k t (by simp) o' q', r'⟩⟩
  item := fun i s Q E hi st q => drawT_item st.1 st.2 (x := vs[i]) (by simp [hi]) fun g b c => q _ g s.toks (by simp [hi]) ⟨b, st.2.extBut c.extBut hne⟩ c
  done := fun s Q E st q => drawT_end hh st.1 st.2 (by simp) q
theorem newEnumT (l : Addr) (items : Array Value) (n : Nat) (dct : Option Addr) (sl : Array (Option Value)) :
    Meets (Builtin.«enumerate.__new__» ⟨[.type "enumerate", .ref l], []⟩) (fun _ R s => s.heap.get? l = some { cls := .type "tuple", dict := dct, data := .seq items n, slots := sl } ∧
      R (.ok (.ret (.ref (s.heap.push { cls := .type "tuple_iterator", data := .fields #[.ref l, .int 0 0] }).objs.size)))
        { s with heap := (s.heap.push { cls := .type "tuple_iterator", data := .fields #[.ref l, .int 0 0] }).push { cls := .type "enumerate", data := .fields #[.none, .bool false, .ref s.heap.objs.size, rawInt 0, .none, .none] } }) :=
  .of_wp fun prog w A R s h => by
    obtain ⟨q1, q2, q3, q4, q5⟩ := s
    obtain ⟨hT, h⟩ := h
    have sub := sub_enumerate
    have hI : Heap.IsTuple (Shared.heap ⟨q1, q2, q3, q4, q5⟩) l items := ⟨_, hT, rfl, n, rfl⟩
    wp_walk using AutoSeq1.wpAny_loadPart' hT
    refine wpAny_stack_any fun _ => wpAny_pure ?_
    split
    · rename_i c _ _ _ _ _
      cases (c == Value.type "enumerate") <;> (wp_walk using AutoSeq1.wpAny_loadPart' hT, wpAny_pyIter_tuple hI; exact ⟨_, rfl, h⟩)
    · wp_walk using AutoSeq1.wpAny_loadPart' hT, wpAny_pyIter_tuple hI
      exact ⟨_, rfl, h⟩
theorem callEnumT {l : Addr} {items : Array Value} {Q : Value → Shared → Prop} (hL : s.heap.IsTuple l items)
    (h : ∀ g, IsEnum g (s.heap.objs.size + 1) s.heap.objs.size 0 .none → g.IsTupleIter s.heap.objs.size l 0 → (∀ b o, s.heap.get? b = some o → g.get? b = some o) → Q (.ref (s.heap.objs.size + 1)) { s with heap := g }) :
    wpAny (model prog w) A (call (.type "enumerate") [.ref l]) Q E s := by
  obtain ⟨⟨c, dct, dt, sl⟩, e1, e2, n, e3⟩ := hL
  have e2' : c = .type "tuple" := e2
  have e3' : dt = .seq items n := e3
  subst e2' e3'
  refine callType_new F.called_enumerate (by decide) (F.typeCall_enumerate_1 _) (F.newCall_enumerate_1 _) (fun obj => F.args_object_init_2 obj _) F.entry_enumerate_new (newEnumT l items n dct sl) ⟨e1, ?_⟩
  have z1 : (s.heap.push { cls := .type "tuple_iterator", data := .fields #[.ref l, .int 0 0] }).objs.size = s.heap.objs.size + 1 := Heap.size_push ..
  have z2 := Heap.get?_push_size (s.heap.push { cls := .type "tuple_iterator", data := .fields #[.ref l, .int 0 0] }) (o := { cls := .type "enumerate", data := .fields #[.none, .bool false, .ref s.heap.objs.size, rawInt 0, .none, .none] }) rfl
  rw [z1] at z2
  show _ ∧ _
  rw [z1]
  exact ⟨⟨_, z2, rfl⟩, h _ z2 ⟨_, Heap.get?_push_of_some _ (Heap.get?_push_size _ rfl), rfl, rfl⟩ fun b o x => Heap.get?_push_of_some _ (Heap.get?_push_of_some _ x)⟩
end
noncomputable def IteL (K : PySem.W.Frag) (a : Addr) : It :=
  ⟨fun i H => ∃ xs x, SqL K H a xs ∧ xs[i]? = some x, fun i H v H' => ∃ p x, v = .ref p ∧ H p = none ∧ H' = upd H p (.tup [.int i, x]) ∧ ∀ xs, SqL K H a xs → xs[i]? = some x, fun i H => ∃ xs, SqL K H a xs ∧ xs.length = i⟩
noncomputable def IteT (K : PySem.W.Frag) (a : Addr) : It :=
  ⟨fun i H => ∃ xs x, SqT K H a xs ∧ xs[i]? = some x, fun i H v H' => ∃ p x, v = .ref p ∧ H p = none ∧ H' = upd H p (.tup [.int i, x]) ∧ ∀ xs, SqT K H a xs → xs[i]? = some x, fun i H => ∃ xs, SqT K H a xs ∧ xs.length = i⟩
theorem cls_apart {h : Heap} {a b : Addr} {o u : Obj} {x y : String} (e1 : h.get? a = some o) (c1 : o.cls = .type x) (e2 : h.get? b = some u) (c2 : u.cls = .type y) (hn : x ≠ y) : a ≠ b := fun z => by
  subst z
  rw [e1] at e2
  cases e2
  rw [c1] at c2
  exact hn (by injection c2)
theorem Inv.pair {X : Cx} {pins : List (Addr × Obj)} {σ : St} {H : Hp} {s : Shared} {g : Heap} {tk : Nat} {ch : List Addr} {u v : Value} {x y : V} (I : Inv X pins σ H s) (k : ∀ b o, b ∉ ch → s.heap.get? b = some o → g.get? b = some o) (hf : ∀ b ∈ ch, FpOk X pins H b)
    (hg : g.get? s.heap.objs.size = some { cls := .type "tuple", data := .seq #[u, v] }) (rx : RelV x u) (ry : RelV y v) : Inv X pins σ (upd H s.heap.objs.size (.tup [x, y])) { s with heap := g, toks := tk } ∧ H s.heap.objs.size = none := by
  have I1 : Inv X pins σ H { s with heap := g, toks := tk } := I.turnedAll k hf
  have hn : H s.heap.objs.size = none := I.hok.fresh (Nat.le_refl _)
  obtain ⟨_, f1, f2, f3, f4, f5⟩ := I.fpOk (Nat.le_refl _) hn
  refine ⟨I1.adopt hn f1 f3 f4 f5 ?_, hn⟩
  exact ⟨by show 2 ≤ sizeLine; decide, [u, v], .cons rx (.cons ry .nil), ⟨_, hg, rfl, _, rfl⟩⟩
theorem turn_enumL {P : Program} {w : World} {K : PySem.W.Frag} {elts : List Expr} {k : Nat} {pos : Pos} (a e it : Addr) (hei : e ≠ it) : Turn P w K (.Tuple elts k pos) (IteL K a) [e, it] e (fun i h => (∃ old, IsEnum h e it i old) ∧ h.IsListIter it a i) where
  mem := by simp
  obj := fun i h st b hb => by
    obtain ⟨⟨old, q⟩, o, q1, q2, q3⟩ := st
    simp only [List.mem_cons, List.not_mem_nil, or_false] at hb
    rcases hb with rfl | rfl
    · exact ⟨_, q, fun v z => by cases z⟩
    · exact ⟨o, q1, fun v z => by rw [q3] at z; cases z⟩
  keep := fun i h h' st kk => by
    obtain ⟨⟨old, q⟩, o, q1, q2⟩ := st
    exact ⟨⟨old, kk e (by simp) _ q⟩, o, kk it (by simp) o q1, q2⟩
  item := by
    intro X hP hw hK hc i pins s σ H E I hf st hg
    subst hP hw hK
    obtain ⟨xs, x, hq, hx⟩ := hg
    obtain ⟨its, rv, p, hz⟩ := I.list hq
    obtain ⟨u, hu, ru⟩ := rv.get hx
    have hl := rv.length
    have hil : i < its.toArray.size := by have := (List.getElem?_eq_some_iff.mp hu).1; simpa using this
    obtain ⟨⟨old, q⟩, q2⟩ := st
    have hne : a ≠ it := by
      obtain ⟨o1, g1, g2, _⟩ := p.isList
      obtain ⟨o2, g3, g4, _⟩ := q2
      exact cls_apart g1 g2 g3 g4 (by decide)
    have hea : e ≠ a := by
      obtain ⟨o1, g1, g2, _⟩ := p.isList
      exact cls_apart q rfl g1 g2 (by decide)
    refine wpAny_pyNext_enum_itemD (Draws.list (A := X.A.in1) (I.ok.hd hc) it a hne its.toArray) q ⟨q2, p.isList⟩ hil hei (by simp [hei, hea]) fun y h' tk hP ho hs' hT hsz hk => ⟨_, rfl, wpAny_letOwnedTupleGo_enum ho fun g he' sb => ?_⟩
    have ey : y = u := by
      have h1 : its.toArray[i]? = some u := by simpa using hu
      exact Option.some.inj (hP.symm.trans h1)
    subst ey
    have hTe : s.heap.objs.size ≠ e := Nat.ne_of_gt (Heap.lt_size q)
    have lt2 : it < s.heap.objs.size := by obtain ⟨o2, g3, _⟩ := q2; exact Heap.lt_size g3
    obtain ⟨I2, hn⟩ := I.pair (g := g) (tk := tk + 1) (ch := [e, it]) (x := .int i) (y := x) (fun b o hb r => (sb.2 b (fun z => hb (by simp [z]))).trans (hk b o (fun z => hb (by simp [z])) (fun z => hb (by simp [z])) r)) hf ((sb.2 _ hTe).trans hT) ⟨tk, rfl⟩ ru
    refine ⟨.ref s.heap.objs.size, _, I2, rfl, ⟨_, x, rfl, hn, rfl, fun ys hy => by rw [I.list_inj hy hq]; exact hx⟩, ⟨⟨_, by simpa using he'⟩, hs'.1.at fun o r => (sb.2 it hei.symm).trans r⟩, fun b hb => ?_⟩
    simp only [List.mem_cons, List.not_mem_nil, or_false] at hb
    rcases hb with rfl | rfl
    · rw [upd_ne hTe.symm]; exact (hf _ (by simp)).1
    · rw [upd_ne (Nat.ne_of_lt lt2)]; exact (hf _ (by simp)).1
  done := by
    intro X hP hw hK hc i pins s σ H E I hf st hg
    subst hP hw hK
    obtain ⟨xs, hq, hx⟩ := hg
    obtain ⟨its, rv, p, hz⟩ := I.list hq
    obtain ⟨⟨old, q⟩, q2⟩ := st
    have hl := rv.length
    have hne : a ≠ it := by
      obtain ⟨o1, g1, g2, _⟩ := p.isList
      obtain ⟨o2, g3, g4, _⟩ := q2
      exact cls_apart g1 g2 g3 g4 (by decide)
    have hi : its.toArray.size = i := by simp; omega
    subst hi
    refine wpAny_pyNext_enum_endD (Draws.list (A := X.A.in1) (I.ok.hd hc) it a hne its.toArray) q ⟨q2, p.isList⟩ fun h' eb => ⟨rfl, I.turnedAll (t' := s.toks) (ch := [it]) (fun b o hb r => eb b o (fun z => hb (by simp [z])) r) fun b hb => hf b (by simp at hb; simp [hb])⟩
  self := fun _ _ _ _ _ st h => by
    obtain ⟨⟨old, q⟩, _⟩ := st
    exact wpAny_pyIter_enum q h
theorem turn_enumT {P : Program} {w : World} {K : PySem.W.Frag} {elts : List Expr} {k : Nat} {pos : Pos} (a e it : Addr) (hei : e ≠ it) : Turn P w K (.Tuple elts k pos) (IteT K a) [e, it] e (fun i h => (∃ old, IsEnum h e it i old) ∧ h.IsTupleIter it a i) where
  mem := by simp
  obj := fun i h st b hb => by
    obtain ⟨⟨old, q⟩, o, q1, q2, q3⟩ := st
    simp only [List.mem_cons, List.not_mem_nil, or_false] at hb
    rcases hb with rfl | rfl
    · exact ⟨_, q, fun v z => by cases z⟩
    · exact ⟨o, q1, fun v z => by rw [q3] at z; cases z⟩
  keep := fun i h h' st kk => by
    obtain ⟨⟨old, q⟩, o, q1, q2⟩ := st
    exact ⟨⟨old, kk e (by simp) _ q⟩, o, kk it (by simp) o q1, q2⟩
  item := by
    intro X hP hw hK hc i pins s σ H E I hf st hg
    subst hP hw hK
    obtain ⟨xs, x, hq, hx⟩ := hg
    obtain ⟨its, rv, p, hz⟩ := I.tuple hq
    have p : s.heap.IsTuple a its.toArray := p
    obtain ⟨u, hu, ru⟩ := rv.get hx
    have hl := rv.length
    have hil : i < its.toArray.size := by have := (List.getElem?_eq_some_iff.mp hu).1; simpa using this
    obtain ⟨⟨old, q⟩, q2⟩ := st
    have hne : a ≠ it := by
      obtain ⟨o1, g1, g2, _⟩ := p
      obtain ⟨o2, g3, g4, _⟩ := q2
      exact cls_apart g1 g2 g3 g4 (by decide)
    have hea : e ≠ a := by
      obtain ⟨o1, g1, g2, _⟩ := p
      exact cls_apart q rfl g1 g2 (by decide)
    refine wpAny_pyNext_enum_itemD (drawsT (A := X.A.in1) (I.ok.hd hc) it a hne its.toArray) q ⟨q2, p⟩ hil hei (by simp [hei, hea]) fun y h' tk hP ho hs' hT hsz hk => ⟨_, rfl, wpAny_letOwnedTupleGo_enum ho fun g he' sb => ?_⟩
    have ey : y = u := by
      have h1 : its.toArray[i]? = some u := by simpa using hu
      exact Option.some.inj (hP.symm.trans h1)
    subst ey
    have hTe : s.heap.objs.size ≠ e := Nat.ne_of_gt (Heap.lt_size q)
    have lt2 : it < s.heap.objs.size := by obtain ⟨o2, g3, _⟩ := q2; exact Heap.lt_size g3
    obtain ⟨I2, hn⟩ := I.pair (g := g) (tk := tk + 1) (ch := [e, it]) (x := .int i) (y := x) (fun b o hb r => (sb.2 b (fun z => hb (by simp [z]))).trans (hk b o (fun z => hb (by simp [z])) (fun z => hb (by simp [z])) r)) hf ((sb.2 _ hTe).trans hT) ⟨tk, rfl⟩ ru
    refine ⟨.ref s.heap.objs.size, _, I2, rfl, ⟨_, x, rfl, hn, rfl, fun ys hy => by rw [I.tuple_inj hy hq]; exact hx⟩, ⟨⟨_, by simpa using he'⟩, ?_⟩, fun b hb => ?_⟩
    · obtain ⟨o, r1, r2⟩ := hs'.1
      exact ⟨o, (sb.2 it hei.symm).trans r1, r2⟩
    simp only [List.mem_cons, List.not_mem_nil, or_false] at hb
    rcases hb with rfl | rfl
    · rw [upd_ne hTe.symm]; exact (hf _ (by simp)).1
    · rw [upd_ne (Nat.ne_of_lt lt2)]; exact (hf _ (by simp)).1
  done := by
    intro X hP hw hK hc i pins s σ H E I hf st hg
    subst hP hw hK
    obtain ⟨xs, hq, hx⟩ := hg
    obtain ⟨its, rv, p, hz⟩ := I.tuple hq
    have p : s.heap.IsTuple a its.toArray := p
    obtain ⟨⟨old, q⟩, q2⟩ := st
    have hl := rv.length
    have hne : a ≠ it := by
      obtain ⟨o1, g1, g2, _⟩ := p
      obtain ⟨o2, g3, g4, _⟩ := q2
      exact cls_apart g1 g2 g3 g4 (by decide)
    have hi : its.toArray.size = i := by simp; omega
    subst hi
    refine wpAny_pyNext_enum_endD (drawsT (A := X.A.in1) (I.ok.hd hc) it a hne its.toArray) q ⟨q2, p⟩ fun h' eb => ⟨rfl, I.turnedAll (t' := s.toks) (ch := [it]) (fun b o hb r => eb b o (fun z => hb (by simp [z])) r) fun b hb => hf b (by simp at hb; simp [hb])⟩
  self := fun _ _ _ _ _ st h => by
    obtain ⟨⟨old, q⟩, _⟩ := st
    exact wpAny_pyIter_enum q h
noncomputable def Itz (K : PySem.W.Frag) (a b : Addr) : It :=
  ⟨fun i H => ∃ xs ys x y, SqL K H a xs ∧ SqL K H b ys ∧ xs[i]? = some x ∧ ys[i]? = some y, fun i H v H' => ∃ p x y, v = .ref p ∧ H p = none ∧ H' = upd H p (.tup [x, y]) ∧ (∀ xs, SqL K H a xs → xs[i]? = some x) ∧ ∀ ys, SqL K H b ys → ys[i]? = some y, fun i H => ∃ xs ys, SqL K H a xs ∧ SqL K H b ys ∧ (xs.length ≤ i ∨ ys.length ≤ i)⟩
theorem turn_zip {P : Program} {w : World} {K : PySem.W.Frag} {elts : List Expr} {k : Nat} {pos : Pos} (a b z TI TO i1 i2 : Addr) (D : ZipApart z TI TO i1 i2 a b) :
    Turn P w K (.Tuple elts k pos) (Itz K a b) [z, TI, TO, i1, i2] z (fun i h => IsZip h z TI TO .none ∧ IsPair h TI (.ref i1) (.ref i2) ∧ (∃ u v, IsPair h TO u v) ∧ h.IsListIter i1 a i ∧ h.IsListIter i2 b i) where
  mem := by simp
  obj := fun i h st c hb => by
    obtain ⟨q1, q2, ⟨u, v, q3⟩, ⟨o4, q4, _, d4⟩, ⟨o5, q5, _, d5⟩⟩ := st
    simp only [List.mem_cons, List.not_mem_nil, or_false] at hb
    rcases hb with rfl | rfl | rfl | rfl | rfl
    · exact ⟨_, q1, fun v z => by cases z⟩
    · exact ⟨_, q2, fun v z => by cases z⟩
    · exact ⟨_, q3, fun v z => by cases z⟩
    · exact ⟨o4, q4, fun v z => by rw [d4] at z; cases z⟩
    · exact ⟨o5, q5, fun v z => by rw [d5] at z; cases z⟩
  keep := fun i h h' st kk => by
    obtain ⟨q1, q2, ⟨u, v, q3⟩, ⟨o4, q4, r4⟩, ⟨o5, q5, r5⟩⟩ := st
    exact ⟨kk z (by simp) _ q1, kk TI (by simp) _ q2, ⟨u, v, kk TO (by simp) _ q3⟩, ⟨o4, kk i1 (by simp) _ q4, r4⟩, ⟨o5, kk i2 (by simp) _ q5, r5⟩⟩
  item := by
    intro X hP hw hK hc i pins s σ H E I hf st hg
    subst hP hw hK
    obtain ⟨xs, ys, x, y, hqx, hqy, hx, hy⟩ := hg
    obtain ⟨its, rv, p, hz⟩ := I.list hqx
    obtain ⟨jts, rw', p', hz'⟩ := I.list hqy
    obtain ⟨u, hu, ru⟩ := rv.get hx
    obtain ⟨v, hv, rv'⟩ := rw'.get hy
    obtain ⟨q1, q2, ⟨u3, v3, q3⟩, q4, q5⟩ := st
    have l1 := Heap.lt_size q1
    have l2 := Heap.lt_size q2
    have l3 := Heap.lt_size q3
    have l4 : i1 < s.heap.objs.size := by obtain ⟨o, g, _⟩ := q4; exact Heap.lt_size g
    have l5 : i2 < s.heap.objs.size := by obtain ⟨o, g, _⟩ := q5; exact Heap.lt_size g
    refine wpAny_pyNext_zip_item D q1 q2 q3 q4 q5 p.isList p'.isList (x := u) (y := v) (by simpa using hu) (by simpa using hv) fun h' a1 a2 a3 a4 a5 a6 a7 => ⟨_, rfl, wpAny_letOwnedTupleGo_zip a1 fun g hz2 sb => ?_⟩
    obtain ⟨I2, hn⟩ := I.pair (g := g) (tk := s.toks) (ch := [z, TO, i1, i2]) (x := x) (y := y) (fun c o hb r => (sb.2 c (fun e => hb (by simp [e]))).trans (a7 c o (fun e => hb (by simp [e])) (fun e => hb (by simp [e])) (fun e => hb (by simp [e])) (fun e => hb (by simp [e])) r)) (fun c hb => hf c (by simp at hb; rcases hb with e | e | e | e <;> simp [e])) ((sb.2 _ (Nat.ne_of_gt l1)).trans a5) ru rv'
    refine ⟨.ref s.heap.objs.size, _, I2, rfl, ⟨_, x, y, rfl, hn, rfl, fun zs h => by rw [I.list_inj h hqx]; exact hx, fun zs h => by rw [I.list_inj h hqy]; exact hy⟩, ⟨hz2, ?_, ⟨_, _, (sb.2 _ D.TOz).trans a2⟩, a3.at fun o r => (sb.2 i1 D.i1z).trans r, a4.at fun o r => (sb.2 i2 D.i2z).trans r⟩, fun c hb => ?_⟩
    · exact (sb.2 _ D.TIz).trans (a7 TI _ D.TIz D.TITO D.TIi1 D.TIi2 q2)
    · have hc0 := (hf c hb).1
      simp only [List.mem_cons, List.not_mem_nil, or_false] at hb
      have : c < s.heap.objs.size := by rcases hb with rfl | rfl | rfl | rfl | rfl <;> assumption
      rw [upd_ne (Nat.ne_of_lt this)]; exact hc0
  done := by
    intro X hP hw hK hc i pins s σ H E I hf st hg
    subst hP hw hK
    obtain ⟨xs, ys, hqx, hqy, hx⟩ := hg
    obtain ⟨its, rv, p, hz⟩ := I.list hqx
    obtain ⟨jts, rw', p', hz'⟩ := I.list hqy
    have m1 := rv.length
    have m2 := rw'.length
    obtain ⟨q1, q2, ⟨u3, v3, q3⟩, q4, q5⟩ := st
    refine wpAny_pyNext_zip_end (I.ok.hd hc) D q1 q2 q3 q4 q5 p.isList p'.isList ?_ fun h' kk => ⟨rfl, I.turnedAll (t' := s.toks) (ch := [z, TO, i1, i2]) (fun c o hb r => kk c o (fun e => hb (by simp [e])) (fun e => hb (by simp [e])) (fun e => hb (by simp [e])) (fun e => hb (by simp [e])) r) (fun c hb => hf c (by simp at hb; rcases hb with e | e | e | e <;> simp [e]))⟩
    rcases hx with h | h
    · exact .inl (by simp; omega)
    · exact .inr (by simp; omega)
  self := fun _ _ _ _ _ st h => wpAny_pyIter_zip st.1 h
section
variable {X : Cx} {a b : Expr} {t : TA} {p pos tpos : Pos} {ts : List Expr} {k : Nat}
noncomputable def iEnumL (K : PySem.W.Frag) (t : TA) : TI := fun σ H R => t σ H fun vs H1 => ∃ a, vs = [.ref a] ∧ (∃ xs, SqL K H1 a xs) ∧ R (IteL K a) H1
noncomputable def iEnumT (K : PySem.W.Frag) (t : TA) : TI := fun σ H R => t σ H fun vs H1 => ∃ a, vs = [.ref a] ∧ (∃ xs, SqT K H1 a xs) ∧ R (IteT K a) H1
noncomputable def iZip (K : PySem.W.Frag) (t : TA) : TI := fun σ H R => t σ H fun vs H1 => ∃ a b, vs = [.ref a, .ref b] ∧ (∃ xs, SqL K H1 a xs) ∧ (∃ ys, SqL K H1 b ys) ∧ R (Itz K a b) H1
theorem qi_enum_L {K : PySem.W.Frag} (hg : Gl X "enumerate") (hm : X.mg "enumerate" = none) (ha : QA X [a] t) (hn : nstar a = true := by rfl) (hK : X.K = K := by rfl) : QI X (.Tuple ts k tpos) (.Call (.Name "enumerate" p) [a] [] pos) (iEnumL K t) := by
  subst hK
  refine ⟨fun pins s σ H R I h => ?_⟩
  refine Call_ (ld_blt I hg hm (by decide +kernel : bootBuiltins "enumerate" = some (.type "enumerate")) (PyProof.Rows.callWith_type1 (thn (ha.out pos pins s σ H _ I h) fun us s1 ⟨vs, H1, I1, r1, q1⟩ => ?_) (star_cons hn) rfl))
  obtain ⟨l, e, ⟨xs, hq⟩, q⟩ := q1
  subst e
  cases r1 with
  | cons r rr =>
    cases rr
    cases r
    obtain ⟨its, rv, pl, hz⟩ := I1.list hq
    refine call_enumerate_list pl.isList fun g h1 h2 h3 h4 => wpAny_pyIter_enum h1 ?_
    have I2 : Inv X pins σ H1 { s1 with heap := g } := I1.kept (t' := s1.toks) h4
    refine ⟨s1.heap.objs.size + 1, [s1.heap.objs.size + 1, s1.heap.objs.size], _, _, H1, rfl, I2, turn_enumL l _ _ (Nat.succ_ne_self _), ⟨⟨_, h1⟩, h2⟩, fun c hc => ?_, q⟩
    have hle : s1.heap.objs.size ≤ c := by
      simp only [List.mem_cons, List.not_mem_nil, or_false] at hc
      rcases hc with rfl | rfl
      · exact Nat.le_succ _
      · exact Nat.le_refl _
    exact I1.fpOk hle (I1.hok.fresh hle)
theorem qi_enum_T {K : PySem.W.Frag} (hg : Gl X "enumerate") (hm : X.mg "enumerate" = none) (ha : QA X [a] t) (hn : nstar a = true := by rfl) (hK : X.K = K := by rfl) : QI X (.Tuple ts k tpos) (.Call (.Name "enumerate" p) [a] [] pos) (iEnumT K t) := by
  subst hK
  refine ⟨fun pins s σ H R I h => ?_⟩
  refine Call_ (ld_blt I hg hm (by decide +kernel : bootBuiltins "enumerate" = some (.type "enumerate")) (PyProof.Rows.callWith_type1 (thn (ha.out pos pins s σ H _ I h) fun us s1 ⟨vs, H1, I1, r1, q1⟩ => ?_) (star_cons hn) rfl))
  obtain ⟨l, e, ⟨xs, hq⟩, q⟩ := q1
  subst e
  cases r1 with
  | cons r rr =>
    cases rr
    cases r
    obtain ⟨its, rv, pl, hz⟩ := I1.tuple hq
    refine callEnumT (show s1.heap.IsTuple l its.toArray from pl) fun g h1 h2 h4 => wpAny_pyIter_enum h1 ?_
    have I2 : Inv X pins σ H1 { s1 with heap := g } := I1.kept (t' := s1.toks) h4
    refine ⟨s1.heap.objs.size + 1, [s1.heap.objs.size + 1, s1.heap.objs.size], _, _, H1, rfl, I2, turn_enumT l _ _ (Nat.succ_ne_self _), ⟨⟨_, h1⟩, h2⟩, fun c hc => ?_, q⟩
    have hle : s1.heap.objs.size ≤ c := by
      simp only [List.mem_cons, List.not_mem_nil, or_false] at hc
      rcases hc with rfl | rfl
      · exact Nat.le_succ _
      · exact Nat.le_refl _
    exact I1.fpOk hle (I1.hok.fresh hle)
theorem qi_zip {K : PySem.W.Frag} (hg : Gl X "zip") (hm : X.mg "zip" = none) (ha : QA X [a, b] t) (hn : nstar a = true := by rfl) (hn2 : nstar b = true := by rfl) (hK : X.K = K := by rfl) : QI X (.Tuple ts k tpos) (.Call (.Name "zip" p) [a, b] [] pos) (iZip K t) := by
  subst hK
  refine ⟨fun pins s σ H R I h => ?_⟩
  have e2 : starEach [b] X.env = [(false, eval b X.env)] := star_cons hn2
  refine Call_ (ld_blt I hg hm (by decide +kernel : bootBuiltins "zip" = some (.type "zip")) (PyProof.Rows.callWith_type1 (thn (ha.out pos pins s σ H _ I h) fun us s1 ⟨vs, H1, I1, r1, q1⟩ => ?_) (star_cons hn) (by rw [e2]; rfl)))
  obtain ⟨l, m, e, ⟨xs, hq⟩, ⟨ys, hq'⟩, q⟩ := q1
  subst e
  cases r1 with
  | cons r rr =>
    cases rr with
    | cons r' rr =>
      cases rr
      cases r; cases r'
      obtain ⟨its, rv, pl, hz⟩ := I1.list hq
      obtain ⟨jts, rw', pl', hz'⟩ := I1.list hq'
      have a1 : l < s1.heap.objs.size := by obtain ⟨o, g, _⟩ := pl.isList; exact Heap.lt_size g
      have a2 : m < s1.heap.objs.size := by obtain ⟨o, g, _⟩ := pl'.isList; exact Heap.lt_size g
      refine call_zip_2 pl.isList pl'.isList fun g h1 h2 h3 h4 h5 h6 h7 => wpAny_pyIter_zip h1 ?_
      have I2 : Inv X pins σ H1 { s1 with heap := g } := I1.kept (t' := s1.toks) h7
      refine ⟨_, _, _, _, H1, rfl, I2, turn_zip l m _ _ _ _ _ (zipApart_new a1 a2), ⟨h1, h2, ⟨_, _, h3⟩, h4, h5⟩, fun c hc => ?_, q⟩
      have hle : s1.heap.objs.size ≤ c := by
        simp only [List.mem_cons, List.not_mem_nil, or_false] at hc
        rcases hc with rfl | rfl | rfl | rfl | rfl
        · exact Nat.le_add_right _ _
        · exact Nat.le_add_right _ _
        · exact Nat.le_add_right _ _
        · exact Nat.le_refl _
        · exact Nat.le_add_right _ _
      exact I1.fpOk hle (I1.hok.fresh hle)
end
section
variable {K : PySem.W.Frag} {σ : St} {H : Hp} {Q : VK} {D : Ends} {g : TG} {te : TE} {tb : TS}
theorem in_enumL {t : TA} {R : It → Hp → Prop} (h : t σ H fun vs H1 => ∃ a, vs = [.ref a] ∧ (∃ xs, SqL K H1 a xs) ∧ R (IteL K a) H1) : iEnumL K t σ H R := h
theorem in_enumT {t : TA} {R : It → Hp → Prop} (h : t σ H fun vs H1 => ∃ a, vs = [.ref a] ∧ (∃ xs, SqT K H1 a xs) ∧ R (IteT K a) H1) : iEnumT K t σ H R := h
theorem in_zip {t : TA} {R : It → Hp → Prop} (h : t σ H fun vs H1 => ∃ a b, vs = [.ref a, .ref b] ∧ (∃ xs, SqL K H1 a xs) ∧ (∃ ys, SqL K H1 b ys) ∧ R (Itz K a b) H1) : iZip K t σ H R := h
theorem for_gen {J : It} {n : Nat} (Pv : Nat → St → Hp → Prop) (h0 : Pv 0 σ H) (hgo : ∀ i σ H, i < n → Pv i σ H → J.go i H) (hst : ∀ σ H, Pv n σ H → J.stop n H)
    (hs : ∀ i x σ H H', i < n → Pv i σ H → J.yld i H x H' → g x σ H' fun σ2 H2 => tb { D with nx := Pv (i + 1), ct := Pv (i + 1), bk := D.nx } σ2 H2) (hd : ∀ σ H, Pv n σ H → D.nx σ H) :
    ∃ W : Nat → Nat → St → Hp → Prop, (∃ m, W 0 m σ H) ∧ ∀ i m σ H, W i m σ H →
      (J.stop i H ∧ D.nx σ H) ∨ (J.go i H ∧ ∃ N : St → Hp → Prop, (∀ σ' H', N σ' H' → ∃ m', m' < m ∧ W (i + 1) m' σ' H') ∧ ∀ x H', J.yld i H x H' → g x σ H' fun σ2 H2 => tb { D with nx := N, ct := N, bk := D.nx } σ2 H2) := by
  refine ⟨fun i m σ H => m = n - i ∧ i ≤ n ∧ Pv i σ H, ⟨n, by simp, Nat.zero_le _, h0⟩, ?_⟩
  rintro i m σ H ⟨rfl, hi, p⟩
  by_cases hlt : i < n
  · exact .inr ⟨hgo i σ H hlt p, Pv (i + 1), fun σ' H' p' => ⟨n - (i + 1), by omega, rfl, hlt, p'⟩, fun x H' y => hs i x σ H H' hlt p y⟩
  · have e : i = n := by omega
    subst e
    exact .inl ⟨hst σ H p, hd σ H p⟩
theorem comp_gen {J : It} {n : Nat} {σ0 : St} {R : List V → Hp → Prop} (Pv : Nat → List V → St → Hp → Prop) (hz : n < sizeLine) (hl : ∀ i ys σ H, Pv i ys σ H → ys.length = i) (h0 : Pv 0 [] σ0 H) (hgo : ∀ i ys σ H, i < n → Pv i ys σ H → J.go i H) (hst : ∀ ys σ H, Pv n ys σ H → J.stop n H)
    (hs : ∀ i x ys σ H H', i < n → Pv i ys σ H → J.yld i H x H' → g x σ H' fun σ2 H2 => te σ2 H2 fun y H3 => Nx n i (Pv (i + 1) (ys ++ [y]) σ2 H3)) (hd : ∀ ys σ H, Pv n ys σ H → R ys H) :
    ∃ W : Nat → Nat → List V → St → Hp → Prop, (∃ m, W 0 m [] σ0 H) ∧ ∀ i m xs σc H, W i m xs σc H → xs.length < sizeLine ∧
    ((J.stop i H ∧ R xs H) ∨ (J.go i H ∧ ∀ x H', J.yld i H x H' → g x σc H' fun σ2 H2 => te σ2 H2 fun y H3 => ∃ m', m' < m ∧ W (i + 1) m' (xs ++ [y]) σ2 H3)) := by
  refine ⟨fun i m xs σ H => m = n - i ∧ i ≤ n ∧ Pv i xs σ H, ⟨n, by simp, Nat.zero_le _, h0⟩, ?_⟩
  rintro i m xs σ H ⟨rfl, hi, p⟩
  refine ⟨by rw [hl i xs σ H p]; exact Nat.lt_of_le_of_lt hi hz, ?_⟩
  by_cases hlt : i < n
  · exact .inr ⟨hgo i xs σ H hlt p, fun x H' y => hs i x xs σ H H' hlt p y⟩
  · have e : i = n := by omega
    subst e
    exact .inl ⟨hst xs σ H p, hd xs σ H p⟩
end
end L2

namespace L2
open PySem PySem.Spec PyProof.Rows
section
variable {K : PySem.W.Frag} {σ : St} {H : Hp} {Q : VK} {D : Ends}
theorem in_eqS {x y : Str} (h : Q (.bl (decide (V.str x = V.str y))) H) : rEq (.str x) (.str y) H Q := ⟨rfl, h⟩
theorem in_tru {ta : TE} {R : Bool → Hp → Prop} (h : ta σ H fun x H' => ∃ k, TruV K x H' k ∧ R k H') : tTru K ta σ H R := h
theorem in_chain {r r' : R2} {ta tb tc : TE} (h : ta σ H fun x H1 => tb σ H1 fun y H2 => r x y H2 fun z H3 => ∃ k, z = .bl k ∧ (if k = true then tc σ H3 fun w' H4 => r' y w' H4 Q else Q (.bl false) H3)) : tChain r r' ta tb tc σ H Q := h
theorem in_sl {r : V → Option Int → Option Int → Hp → VK → Prop} {te : TE} {tl th : TO} (h : te σ H fun x H1 => tl σ H1 fun l H2 => th σ H2 fun u H3 => r x l u H3 Q) : tSl r te tl th σ H Q := h
theorem in_part {t : TE} {R : Option Int → Hp → Prop} (h : t σ H fun x H1 => ∃ i, x = .int i ∧ R (some i) H1) : tPart t σ H R := h
theorem in_nopart {R : Option Int → Hp → Prop} (h : R none H) : tNoPart σ H R := h
theorem in_gtup2 {i j : Nat} {p : Addr} {x y : V} {R : St → Hp → Prop} (e : H p = some (.tup [x, y])) (h : R ((σ.set i (some x)).set j (some y)) H) : gTup K 2 (gCons (gName i) (gCons (gName j) gNil)) (.ref p) σ H R :=
  ⟨p, _, rfl, SqT.of e, rfl, _, _, rfl, _, _, rfl, rfl, h⟩
theorem via2 {α : Type} {G : Prop} {S B : α → Hp → Prop} (hA : (∀ a H, S a H → B a H) → G) (hB : ∀ a H, S a H → B a H) : G := hA hB
theorem map_get {α : Type} {f : α → V} {xs : List α} {i : Nat} {x : V} (h : (xs.map f)[i]? = some x) : ∃ z, x = f z ∧ xs[i]? = some z ∧ z ∈ xs ∧ i < xs.length := by
  rw [List.getElem?_map] at h
  cases e : xs[i]? with
  | none => rw [e] at h; cases h
  | some z => rw [e] at h; exact ⟨z, (Option.some.inj h).symm, rfl, List.mem_of_getElem? e, (List.getElem?_eq_some_iff.mp e).1⟩
end
end L2

namespace L2
open PySem PySem.Spec PyProof.Rows
section
variable {X : Cx} {e : Expr} {te : TE} {g : TG} {pos tpos : Pos} {ts : List Expr} {k : Nat}
theorem qs_asgT (he : QE X e te) (hg : QG X (.Tuple ts k tpos) g) (hs : swapsWithSole [.Tuple ts k tpos] e pos.line X.env = pure false := by rfl) (hw : swappedStores [.Tuple ts k tpos] e X.env = pure none := by rfl)
    (h1 : (assignEach [.Tuple ts k tpos] X.env).map (·.2) = [assign (.Tuple ts k tpos) X.env] := by rfl) : QS X (.Assign [.Tuple ts k tpos] e pos) (tAsg te g) := ⟨ps_asg he.out hg.out hs hw h1⟩
end
section
variable {K : PySem.W.Frag} {σ : St} {H : Hp}
end
theorem ixN_of {n j : Nat} {i : Int} (e : i = j) (h : j < n) : ixN n i = some j := by
  subst e
  unfold ixN
  rw [if_pos (by omega), if_pos (by omega)]
  simp
theorem via3 {α β : Type} {G : Prop} {S B : α → β → Hp → Prop} (hA : (∀ a b H, S a b H → B a b H) → G) (hB : ∀ a b H, S a b H → B a b H) : G := hA hB
theorem in_pow15 {H : Hp} {Q : VK} (h : Q (.int 1000000000000000) H) : rI CPow (fun i j => .int (i ^ j.toNat)) (.int 10) (.int 15) H Q := ⟨10, 15, rfl, rfl, ⟨by decide, by decide, by decide⟩, by
  have e : (10 : Int) ^ (15 : Int).toNat = 1000000000000000 := by decide
  show Q (.int ((10 : Int) ^ (15 : Int).toNat)) H
  rw [e]; exact h⟩
end L2

namespace L2
open PySem PySem.Spec PyProof.Rows
theorem vals_of : ∀ {xs : List V} {us : List Value}, xs.length = us.length → (∀ (i : Nat) x u, xs[i]? = some x → us[i]? = some u → RelV x u) → Vals xs us
  | [], [], _, _ => .nil
  | [], _ :: _, h, _ => by simp at h
  | _ :: _, [], h, _ => by simp at h
  | x :: xs, u :: us, h, r => .cons (r 0 x u rfl rfl) (vals_of (by simpa using h) fun i y v a b => r (i + 1) y v (by simpa using a) (by simpa using b))
section
variable {X : Cx} {a b e o : Expr} {es : List Expr} {t : TA} {te to tb : TE} {p p2 pos pos2 apos cpos tpos : Pos}
noncomputable def natsV (lo n : Nat) : List V := (List.range n).map fun i => V.int ((lo + i : Nat) : Int)
noncomputable def tLRng1 (t : TA) : TE := fun σ H Q => t σ H fun vs H1 => ∃ j : Nat, vs = [.int j] ∧ j ≤ 1000 ∧ ∀ l, H1 l = none → Q (.ref l) (upd H1 l (.lst (natsV 0 j)))
noncomputable def tLRng2 (t : TA) : TE := fun σ H Q => t σ H fun vs H1 => ∃ i j : Nat, vs = [.int i, .int j] ∧ i ≤ 1000 ∧ j ≤ 1000 ∧ i ≤ j ∧ ∀ l, H1 l = none → Q (.ref l) (upd H1 l (.lst (natsV i (j - i))))
theorem lrng {pins : List (Addr × Obj)} {σ : St} {H : Hp} {s : Shared} {Q : VK} {i j : Nat} {t u v : Tok} {tk : Nat} (hc : X.calm = true) (I : Inv X pins σ H s) (h1 : i ≤ 1000) (h2 : j ≤ 1000) (h3 : i ≤ j) (q : ∀ l, H l = none → Q (.ref l) (upd H l (.lst (natsV i (j - i))))) :
    wpAny (model X.prog X.w) X.A (call (.type "list") [.ref s.heap.objs.size]) (EP X pins σ Q) X.xe { s with heap := s.heap.push { cls := .type "range", data := .fields #[.int i t, .int j u, .int 1 v] }, toks := tk } := by
  have I1 : Inv X pins σ H { s with heap := s.heap.push { cls := .type "range", data := .fields #[.int i t, .int j u, .int 1 v] }, toks := tk } := I.kept fun b o e => Heap.get?_push_of_some _ e
  refine call_list_range (n := j - i) (I.ok.hd hc) (IsRange.new ..) (small_one (by omega) (by omega) (by omega) (by omega)) (by rw [rangeSize_one]; split <;> omega) (by omega) fun h' tk' acc' c' hk hg hi => ?_
  obtain ⟨hz, hit⟩ := hi
  refine ⟨.ref _, _, I1.laid (t' := tk') (o := .lst (natsV i (j - i))) hk (Nat.le_refl _) ?_, rfl, q _ (I1.hok.fresh (Nat.le_refl _))⟩
  refine ⟨by simp only [natsV, List.length_map, List.length_range]; exact three (by omega), acc'.toList, c', ?_, ?_⟩
  · refine vals_of (by simp [natsV, hz]) fun k x w a b => ?_
    have hk' : k < j - i := by have := (List.getElem?_eq_some_iff.mp a).1; simpa [natsV] using this
    unfold natsV at a
    rw [List.getElem?_map, List.getElem?_range hk'] at a
    obtain rfl := Option.some.inj a
    obtain ⟨tt, rfl⟩ := hit k w (by simpa using b)
    refine ⟨tt, ?_⟩
    rw [Int.mul_one, Int.natCast_add]
  · simpa using hg
theorem qe_lrng1 (hc : X.calm = true) (hgl : Gl X "list") (hml : X.mg "list" = none) (hgr : Gl X "range") (hmr : X.mg "range" = none) (ha : QA X [a] t) (hn : nstar a = true := by rfl) : QE X (.Call (.Name "list" p) [.Call (.Name "range" p2) [a] [] pos2] [] pos) (tLRng1 t) := by
  refine ⟨fun pins s σ H Q I h => ?_⟩
  refine Call_ (ld_blt I hgl hml (by decide +kernel : bootBuiltins "list" = some (.type "list")) (PyProof.Rows.callWith_type1 ?_ (star_cons rfl) rfl))
  refine Calls.spliced_cons (Call_ (ld_blt I hgr hmr boot_range (PyProof.Rows.callWith_type1 (thn (ha.out pos2 pins s σ H _ I h) fun us s1 ⟨vs, H1, I1, r1, q1⟩ => ?_) (star_cons hn) rfl)))
  obtain ⟨j, e, q1, q⟩ := q1
  subst e
  cases r1 with
  | cons r rr =>
    cases rr
    obtain ⟨tt, rfl⟩ := r
    exact call_range_1 (Calls.spliced_nil (lrng (i := 0) hc I1 (by omega) q1 (by omega) q))
inductive TyB (H : Hp) : V → Value → Prop where
  | non : TyB H .non (.type "NoneType")
  | int (i : Int) : TyB H (.int i) (.type "int")
  | lst {a : Addr} {xs : List V} (e : H a = some (.lst xs)) : TyB H (.ref a) (.type "list")
  | tup {a : Addr} {xs : List V} (e : H a = some (.tup xs)) : TyB H (.ref a) (.type "tuple")
noncomputable def rIsiT (K : PySem.W.Frag) : RC := fun xs H Q => ∃ x t tp b, xs = [x, .ref tp] ∧ H tp = some (.tup [.ty "list", .ty "tuple"]) ∧ TyB H x t ∧ PySem.W.kitAny K t [.type "list", .type "tuple"] = some b ∧ Q (.bl b) H
theorem qc_isiT {K : PySem.W.Frag} (hK : X.K = K := by rfl) : QC X (.builtin "isinstance") (rIsiT K) := by
  subst hK
  refine ⟨fun pins s σ H xs us Q I r h => ?_⟩
  obtain ⟨x, t, tp, b, rfl, htp, ty, e, q⟩ := h
  cases r with
  | cons rx rr =>
    cases rr with
    | cons ry rr =>
      cases rr
      cases ry
      obtain ⟨_, its, rv, ⟨⟨c, dd, dt, sl⟩, g1, g2, n, g3⟩⟩ := (show ObjOk X.prog X.w H s.heap tp (.tup [.ty "list", .ty "tuple"]) from I.hok tp _ htp)
      have g2' : c = .type "tuple" := g2
      have g3' : dt = .seq its.toArray n := g3
      subst g2' g3'
      have ei : its = [.type "list", .type "tuple"] := by
        cases rv with
        | cons r1 rr =>
          cases rr with
          | cons r2 rr =>
            cases rr
            cases r1; cases r2; rfl
      subst ei
      have fin : ∀ tk, EP X pins σ Q (.bool b) { s with toks := tk } := fun tk => ⟨.bl b, H, I.tok _, rfl, q⟩
      cases ty with
      | non => cases (show _ = Value.none from rx); exact PySem.W.kia_tup PySem.W.kitx_none I.kIn True.intro g1 e (fun z => nomatch z) fin
      | int i => obtain ⟨tt, rfl⟩ := rx; exact PySem.W.kia_tup PySem.W.kitx_int I.kIn True.intro g1 e (fun z => nomatch z) fin
      | @lst a xs ea =>
        cases rx
        obtain ⟨_, _, n', _, h1⟩ := (show ObjOk X.prog X.w H s.heap a (.lst xs) from I.hok a _ ea)
        exact PySem.W.kia_tup PySem.W.kitx_list I.kIn ⟨_, h1, rfl⟩ g1 e (fun z => nomatch z) fin
      | @tup a xs ea =>
        cases rx
        obtain ⟨_, _, _, ⟨o', h1, h2, _⟩⟩ := (show ObjOk X.prog X.w H s.heap a (.tup xs) from I.hok a _ ea)
        exact PySem.W.kia_tup PySem.W.kitx_tuple I.kIn ⟨_, h1, h2⟩ g1 e (fun z => nomatch z) fin
noncomputable def rIsN : R2 := fun x y H Q => y = .non ∧ Q (.bl (decide (x = .non))) H
theorem q_isN : QOp X (compareOp .Is) rIsN := ⟨op_isN⟩
theorem qe_popAt {K : PySem.W.Frag} (ho : QE X o to) (ha : QA X [e] t) (hbase : attributeBase o ("pop" : Str) X.env (eval o X.env) = eval o X.env := by rfl) (hline : (apos.endLine == cpos.line) = true := by rfl) (hn : nstar e = true := by rfl) (hK : X.K = K := by rfl) :
    QE X (.Call (.Attribute o "pop" apos) [e] [] cpos) (tBM K "list" rPopAt to t) := by subst hK; exact ⟨pe_bmN PySem.F.plainAttrs_list PySem.F.slot_list_pop PySem.F.type_list_pop mt_popAt ho.out ha.out hbase hline hn⟩
theorem qg_sub (ho : QE X o to) (hi : QE X b tb)
    (ha : ∀ v, assign (.Subscript o b tpos) X.env v = (do
      let ov ← holding [v] (eval o X.env)
      let iv ← holding [v, ov] (eval b X.env)
      standAt tpos
      holding [v, ov, iv] (setItem ov iv v)
      release [v, ov, iv] []) := by intro _; rfl) : QG X (.Subscript o b tpos) (gSub to tb rSetL) := ⟨pg_sub ho.out hi.out set_list ha⟩
end
section
variable {K : PySem.W.Frag} {σ : St} {H : Hp} {Q : VK}
theorem in_lrng1 {t : TA} (h : t σ H fun vs H1 => ∃ j : Nat, vs = [.int j] ∧ j ≤ 1000 ∧ ∀ l, H1 l = none → Q (.ref l) (upd H1 l (.lst (natsV 0 j)))) : tLRng1 t σ H Q := h
theorem in_lrng2 {t : TA} (h : t σ H fun vs H1 => ∃ i j : Nat, vs = [.int i, .int j] ∧ i ≤ 1000 ∧ j ≤ 1000 ∧ i ≤ j ∧ ∀ l, H1 l = none → Q (.ref l) (upd H1 l (.lst (natsV i (j - i))))) : tLRng2 t σ H Q := h
theorem in_isiTI {i : Int} {tp : Addr} (e : H tp = some (.tup [.ty "list", .ty "tuple"])) (h : Q (.bl false) H) : rIsiT K [.int i, .ref tp] H Q := ⟨_, _, tp, _, rfl, e, .int i, rfl, h⟩
theorem in_isiTL {p tp : Addr} {xs : List V} (s : H p = some (.lst xs)) (e : H tp = some (.tup [.ty "list", .ty "tuple"])) (h : Q (.bl true) H) : rIsiT K [.ref p, .ref tp] H Q := ⟨_, _, tp, _, rfl, e, .lst s, rfl, h⟩
theorem in_isiTT2 {p tp : Addr} {xs : List V} (s : H p = some (.tup xs)) (e : H tp = some (.tup [.ty "list", .ty "tuple"])) (h : Q (.bl true) H) : rIsiT K [.ref p, .ref tp] H Q := ⟨_, _, tp, _, rfl, e, .tup s, rfl, h⟩
theorem in_isiLT {p : Addr} {xs : List V} (s : H p = some (.lst xs)) (h : Q (.bl false) H) : rIsi K [.ref p, .ty "tuple"] H Q := ⟨_, _, _, _, rfl, .lst s, rfl, h⟩
theorem in_isiIS {i : Int} (h : Q (.bl false) H) : rIsi K [.int i, .ty "str"] H Q := ⟨_, _, _, _, rfl, .int i, rfl, h⟩
theorem in_neB {x y : Bool} (h : Q (.bl (!decide (V.bl x = V.bl y))) H) : rNe (.bl x) (.bl y) H Q := ⟨rfl, h⟩
theorem in_isNo {x : V} (h : Q (.bl (decide (x = .non))) H) : rIsN x .non H Q := ⟨rfl, h⟩
theorem in_popAt {l : Addr} {xs : List V} {y : V} {i : Int} {k : Nat} (s : H l = some (.lst xs)) (e : i = k) (hk : k < 1000) (hy : xs[k]? = some y) (h : Q y (upd H l (.lst (xs.eraseIdx k)))) : rPopAt (.ref l) [.int i] H Q := by
  subst e
  have hl : k < xs.length := (List.getElem?_eq_some_iff.mp hy).1
  refine ⟨l, xs, k, k, y, rfl, rfl, s, by omega, by omega, ?_, hy, h⟩
  exact (ixN_seq (ixN_of rfl hl)).1
end
end L2

namespace L2
open PySem PySem.Spec PyProof.Rows
noncomputable def Tp2 (H : Hp) (p : Addr) : Prop := ∃ a b : Int, H p = some (.lst [.int a, .int b]) ∧ 0 ≤ a ∧ 0 ≤ b
structure St2 (p : Addr) (H H' : Hp) : Prop where
  keep : ∀ q o, H q = some o → q ≠ p → H' q = some o
  tape : Tp2 H' p
section
variable {H H1 H2 : Hp} {p q l : Addr} {o : HO}
theorem St2.refl (t : Tp2 H p) : St2 p H H := ⟨fun _ _ h _ => h, t⟩
theorem St2.trans (a : St2 p H H1) (b : St2 p H1 H2) : St2 p H H2 := ⟨fun q o h n => b.keep q o (a.keep q o h n) n, b.tape⟩
theorem Tp2.mk {a b : Int} (h : 0 ≤ a) (h2 : 0 ≤ b) : St2 p H (upd H p (.lst [.int a, .int b])) := ⟨fun q o e n => by rw [upd_ne n]; exact e, ⟨a, b, upd_same, h, h2⟩⟩
theorem Tp2.ne (t : Tp2 H p) (h : H q = none) : q ≠ p := by
  obtain ⟨a, b, e, _⟩ := t
  exact fun z => ne_of_none e h z.symm
theorem Tp2.same (t : Tp2 H p) (s : Same H H1) : Tp2 H1 p := by
  obtain ⟨a, b, e, n⟩ := t
  exact ⟨a, b, s _ _ e, n⟩
theorem Tp2.own (t : Tp2 H p) (n : l ≠ p) : Tp2 (upd H l o) p := by
  obtain ⟨a, b, e, q⟩ := t
  exact ⟨a, b, by rw [upd_ne (Ne.symm n)]; exact e, q⟩
theorem St2.new (a : St2 p H H1) (h : H1 q = none) : St2 p H (upd H1 q o) := ⟨fun b u e1 e2 => by rw [upd_ne (ne_of_none (a.keep b u e1 e2) h)]; exact a.keep b u e1 e2, a.tape.own (a.tape.ne h)⟩
theorem St2.own (a : St2 p H H1) (h : H l = none) (n : l ≠ p) : St2 p H (upd H1 l o) := ⟨fun b u e1 e2 => by rw [upd_ne (ne_of_none e1 h)]; exact a.keep b u e1 e2, a.tape.own n⟩
theorem St2.free (s : St2 p H H1) (h : H1 q = none) : H q = none := by
  cases e : H q with
  | none => rfl
  | some o =>
    have := s.keep q o e (s.tape.ne h)
    rw [h] at this; cases this
end
noncomputable def spTape2 (K : PySem.W.Frag) : Sp := fun vs H Q _ => ∃ (a : Addr) (ns : List Int) (k : Int), vs = [.ref a, .int k] ∧ SqL K H a (ns.map V.int) ∧ 0 ≤ k ∧ ∀ p H', H p = none → Same H H' → Tp2 H' p → Q (.ref p) H'
noncomputable def spDraw2 : Sp := fun vs H Q _ => ∃ (p : Addr) (m : Int), vs = [.ref p, .int m] ∧ Tp2 H p ∧ 0 < m ∧ m < 2 ^ 64 ∧ ∀ (r : Nat) H', (r : Int) < m → St2 p H H' → Q (.int r) H'
noncomputable def NV (os : List Nat) : List V := os.map fun o : Nat => V.int o
theorem NV_len (os : List Nat) : (NV os).length = os.length := by simp [NV]
theorem NV_int (os : List Nat) : NV os = (os.map fun o : Nat => (o : Int)).map V.int := by rw [NV, List.map_map]; rfl
theorem NV_get {os : List Nat} {i o : Nat} (h : os[i]? = some o) : (NV os)[i]? = some (V.int o) := by rw [NV, List.getElem?_map, h]; rfl
theorem NV_at {os : List Nat} {i o : Nat} {k : Int} (e : k = i) (h : os[i]? = some o) : atI (NV os) k = some (V.int o) := by rw [e]; exact atI_nat (NV_get h)
theorem NV_snoc (os : List Nat) (o : Nat) : NV os ++ [V.int o] = NV (os ++ [o]) := by simp [NV]
theorem natsV_NV (lo n : Nat) : natsV lo n = NV ((List.range n).map fun i => lo + i) := by simp [natsV, NV]
theorem NV_nil {os : List Nat} (h : os.map (fun o : Nat => (o : Int)) = []) : os = [] := by simpa using h
noncomputable def LsAt (H : Hp) (ps : List Addr) (nss : List (List Nat)) : Prop := ps.length = nss.length ∧ ∀ (i : Nat) p ns, ps[i]? = some p → nss[i]? = some ns → H p = some (.lst (NV ns))
section
variable {H H1 : Hp} {ps : List Addr} {nss : List (List Nat)}
theorem LsAt.same (h : LsAt H ps nss) (e : Same H H1) : LsAt H1 ps nss := ⟨h.1, fun i p z a c => e _ _ (h.2 i p z a c)⟩
theorem LsAt.upd {x : Addr} {o : HO} (h : LsAt H ps nss) (n : ∀ p ∈ ps, p ≠ x) : LsAt (L2.upd H x o) ps nss := ⟨h.1, fun i p z a c => by rw [upd_ne (n p (List.mem_of_getElem? a))]; exact h.2 i p z a c⟩
theorem LsAt.snoc {p : Addr} {ns : List Nat} (h : LsAt H ps nss) (e : H p = some (.lst (NV ns))) : LsAt H (ps ++ [p]) (nss ++ [ns]) := by
  refine ⟨by simp [h.1], fun i q y a c => ?_⟩
  rcases snoc_get a with ⟨l, a⟩ | ⟨l, a⟩
  · rcases snoc_get c with ⟨_, c⟩ | ⟨l', c⟩
    · exact h.2 i q y a c
    · have := h.1; omega
  · rcases snoc_get c with ⟨l', c⟩ | ⟨_, c⟩
    · have := h.1; omega
    · rw [a, c]; exact e
theorem LsAt.nil : LsAt H [] [] := ⟨rfl, fun i p ns h => by simp at h⟩
theorem LsAt.some (h : LsAt H ps nss) {p : Addr} (hp : p ∈ ps) : ∃ ns, ns ∈ nss ∧ H p = Option.some (.lst (NV ns)) := by
  obtain ⟨i, hi, rfl⟩ := List.mem_iff_getElem.mp hp
  have hi2 : i < nss.length := by rw [← h.1]; exact hi
  exact ⟨nss[i], List.getElem_mem hi2, h.2 i ps[i] nss[i] (by simp [hi]) (by simp [hi2])⟩
end
noncomputable def walk (os : List Nat) : Nat → List Bool → Nat → List Nat × List Bool
  | 0, met, _ => ([], met)
  | f + 1, met, pl => if met.getD pl true = true then ([], met) else (pl :: (walk os f (met.set pl true) (os.getD pl 0)).1, (walk os f (met.set pl true) (os.getD pl 0)).2)
noncomputable def few (met : List Bool) : Nat := met.count false
theorem few_set {met : List Bool} {pl : Nat} (h : met[pl]? = some false) : few (met.set pl true) + 1 = few met := by
  unfold few
  have hl := (List.getElem?_eq_some_iff.mp h).1
  have he := (List.getElem?_eq_some_iff.mp h).2
  rw [List.count_set (by simpa using hl), he]
  have : 0 < met.count false := List.count_pos_iff.mpr (he ▸ List.getElem_mem hl)
  simp
  omega
noncomputable def goOn (os : List Nat) (st : List (List Nat) × List Bool) (i : Nat) : List (List Nat) × List Bool :=
  let w := walk os (os.length + 1) st.2 i
  (if 1 < w.1.length then st.1 ++ [w.1] else st.1, w.2)
noncomputable def upTo (os : List Nat) (i : Nat) : List (List Nat) × List Bool := (List.range i).foldl (goOn os) ([], List.replicate os.length false)
noncomputable def ringsF (os : List Nat) : List (List Nat) := (upTo os os.length).1
theorem upTo_succ (os : List Nat) (i : Nat) : upTo os (i + 1) = goOn os (upTo os i) i := by
  unfold upTo
  rw [List.range_succ, List.foldl_append]; rfl
theorem walk_stop {os : List Nat} {f : Nat} {met : List Bool} {pl : Nat} (h : met[pl]? = some true) (hf : 0 < f) : walk os f met pl = ([], met) := by
  cases f with
  | zero => omega
  | succ f =>
    unfold walk
    rw [List.getD_eq_getElem?_getD, h]; rfl
theorem walk_go {os : List Nat} {f : Nat} {met : List Bool} {pl o : Nat} (h : met[pl]? = some false) (ho : os[pl]? = some o) : walk os (f + 1) met pl = (pl :: (walk os f (met.set pl true) o).1, (walk os f (met.set pl true) o).2) := by
  conv => lhs; unfold walk
  rw [List.getD_eq_getElem?_getD, h, List.getD_eq_getElem?_getD, ho]; rfl
theorem walk_len {os : List Nat} : ∀ (f : Nat) (met : List Bool) (pl : Nat), (walk os f met pl).2.length = met.length ∧ (walk os f met pl).1.length ≤ f
  | 0, met, pl => ⟨rfl, Nat.le_refl _⟩
  | f + 1, met, pl => by
    unfold walk
    split
    · exact ⟨rfl, Nat.zero_le _⟩
    · have := walk_len (os := os) f (met.set pl true) (os.getD pl 0)
      exact ⟨by simpa using this.1, by simpa using this.2⟩
theorem few_le (met : List Bool) : few met ≤ met.length := List.count_le_length
theorem upTo_len (os : List Nat) : ∀ i, (upTo os i).2.length = os.length
  | 0 => by simp [upTo]
  | i + 1 => by
    rw [upTo_succ]
    show (walk os (os.length + 1) (upTo os i).2 i).2.length = _
    rw [(walk_len _ _ _).1, upTo_len os i]
theorem upTo_few (os : List Nat) : ∀ i, (upTo os i).1.length ≤ i ∧ ∀ r ∈ (upTo os i).1, r.length ≤ os.length + 1
  | 0 => by simp [upTo]
  | i + 1 => by
    obtain ⟨h1, h2⟩ := upTo_few os i
    rw [upTo_succ]
    have hl := (walk_len (os := os) (os.length + 1) (upTo os i).2 i).2
    show (if 1 < (walk os (os.length + 1) (upTo os i).2 i).1.length then (upTo os i).1 ++ [(walk os (os.length + 1) (upTo os i).2 i).1] else (upTo os i).1).length ≤ _ ∧ ∀ r ∈ (if 1 < (walk os (os.length + 1) (upTo os i).2 i).1.length then (upTo os i).1 ++ [(walk os (os.length + 1) (upTo os i).2 i).1] else (upTo os i).1), _
    split
    · refine ⟨by simp; omega, fun r hr => ?_⟩
      rcases List.mem_append.mp hr with h | h
      · exact h2 r h
      · rw [List.mem_singleton.mp h]; exact hl
    · exact ⟨by omega, h2⟩
theorem nodup_inj {xs : List Nat} (hn : xs.Nodup) {i j : Nat} (hi : i < xs.length) (hj : j < xs.length) (e : xs[i] = xs[j]) : i = j := by
  rcases Nat.lt_trichotomy i j with h | h | h
  · exact absurd e (List.pairwise_iff_getElem.mp hn i j hi hj h)
  · exact h
  · exact absurd e.symm (List.pairwise_iff_getElem.mp hn j i hj hi h)
end L2
namespace L2
open PySem PySem.Spec PyProof.Rows
theorem in_nsplit {c A B : Prop} [Decidable c] (h1 : ¬ c → A) (h2 : c → B) : if (!decide c) = true then A else B := by
  by_cases h : c
  · rw [decide_eq_true h]; exact h2 h
  · rw [decide_eq_false h]; exact h1 h
theorem NV_set (os : List Nat) (i o : Nat) : (NV os).set i (V.int o) = NV (os.set i o) := by simp [NV, List.map_set]
theorem NV_rev (os : List Nat) : (NV os).reverse = NV os.reverse := by simp [NV]
theorem NV_erase (os : List Nat) (i : Nat) : (NV os).eraseIdx i = NV (os.eraseIdx i) := by
  induction os generalizing i with
  | nil => rfl
  | cons x r ih =>
    cases i with
    | zero => rfl
    | succ i => show V.int x :: (NV r).eraseIdx i = V.int x :: NV (r.eraseIdx i); rw [ih]
theorem NV_app (xs ys : List Nat) : NV xs ++ NV ys = NV (xs ++ ys) := by simp [NV]
theorem perm_pop {rg lf : List Nat} {k n : Nat} (hk : k < lf.length) (h : (rg ++ lf).Perm (List.range n)) : (rg ++ [lf[k]] ++ lf.eraseIdx k).Perm (List.range n) := by
  refine List.Perm.trans ?_ h
  rw [List.append_assoc]
  refine List.Perm.append_left rg ?_
  have : ∀ (lf : List Nat) (k : Nat) (hk : k < lf.length), ([lf[k]] ++ lf.eraseIdx k).Perm lf := by
    intro lf
    induction lf with
    | nil => intro k hk; simp at hk
    | cons x r ih =>
      intro k hk
      cases k with
      | zero => exact List.Perm.refl _
      | succ k =>
        have hk' : k < r.length := by simpa using hk
        show (r[k] :: x :: r.eraseIdx k).Perm (x :: r)
        exact (List.Perm.swap x r[k] _).trans (List.Perm.cons x (ih k hk'))
  exact this lf k hk
end L2

namespace L2
open PySem PySem.Spec PyProof.Rows
noncomputable def tRev2 (K : PySem.W.Frag) (te : TE) : TE := fun σ H Q => te σ H fun x H1 => ∃ a xs, x = .ref a ∧ SqL K H1 a xs ∧ 0 < xs.length ∧ ∀ p, H1 p = none → Q (.ref p) (upd H1 p (.lst xs.dropLast.reverse))
section
variable {X : Cx} {e : Expr} {te : TE} {pos p1 p2 p3 p4 p5 : Pos} {j j' : Nat}
end
theorem in_rev2 {K : PySem.W.Frag} {σ : St} {H : Hp} {Q : VK} {te : TE} (h : te σ H fun x H1 => ∃ a xs, x = .ref a ∧ SqL K H1 a xs ∧ 0 < xs.length ∧ ∀ p, H1 p = none → Q (.ref p) (upd H1 p (.lst xs.dropLast.reverse))) : tRev2 K te σ H Q := h
structure Ord (os : List Nat) (n : Nat) : Prop where
  len : os.length = n
  lt : ∀ x ∈ os, x < n
  inj : ∀ (i j r : Nat), os[i]? = some r → os[j]? = some r → i = j
  sur : ∀ x, x < n → ∃ i, i < n ∧ os[i]? = some x
theorem Ord.of_perm {os : List Nat} {n : Nat} (h : os.Perm (List.range n)) : Ord os n := by
  have hl : os.length = n := by have := h.length_eq; rw [List.length_range] at this; exact this
  refine ⟨hl, fun x hx => List.mem_range.mp (h.mem_iff.mp hx), fun i j r a b => ?_, fun x hx => ?_⟩
  · obtain ⟨a1, a2⟩ := List.getElem?_eq_some_iff.mp a
    obtain ⟨b1, b2⟩ := List.getElem?_eq_some_iff.mp b
    exact nodup_inj (h.nodup_iff.mpr List.nodup_range) a1 b1 (by rw [a2, b2])
  · obtain ⟨i, hi⟩ := List.getElem?_of_mem (h.mem_iff.mpr (List.mem_range.mpr hx))
    exact ⟨i, by have := (List.getElem?_eq_some_iff.mp hi).1; omega, hi⟩
theorem Ord.get {os : List Nat} {n i : Nat} (h : Ord os n) (hi : i < n) : ∃ r, os[i]? = some r ∧ r < n := by
  have hl : i < os.length := by rw [h.len]; exact hi
  exact ⟨os[i], by simp [hl], h.lt _ (List.getElem_mem hl)⟩
noncomputable def cmp (one other : List Nat) : List Nat := other.map fun j => one.getD j 0
theorem cmp_get {one other : List Nat} {i j r : Nat} (h1 : other[i]? = some j) (h2 : one[j]? = some r) : (cmp one other)[i]? = some r := by
  unfold cmp
  rw [List.getElem?_map, h1]
  show some (one.getD j 0) = some r
  rw [List.getD_eq_getElem?_getD, h2]; rfl
theorem cmp_len (one other : List Nat) : (cmp one other).length = other.length := by simp [cmp]
theorem get_lt {α : Type} {xs : List α} {i : Nat} {x : α} (h : xs[i]? = some x) : i < xs.length := (List.getElem?_eq_some_iff.mp h).1
theorem Ord.cmp_at {one other : List Nat} {n i r : Nat} (h1 : Ord one n) (h2 : Ord other n) (h : (cmp one other)[i]? = some r) : ∃ j, other[i]? = some j ∧ one[j]? = some r := by
  have hi : i < n := by have := get_lt h; rw [cmp_len, h2.len] at this; exact this
  obtain ⟨j, a, b⟩ := h2.get hi
  obtain ⟨r', c, _⟩ := h1.get b
  have := cmp_get a c
  rw [h] at this
  exact ⟨j, a, by rw [c, Option.some.inj this]⟩
theorem Ord.cmp {one other : List Nat} {n : Nat} (h1 : Ord one n) (h2 : Ord other n) : Ord (cmp one other) n := by
  refine ⟨by rw [cmp_len, h2.len], fun x hx => ?_, fun i j r a b => ?_, fun x hx => ?_⟩
  · obtain ⟨i, hi⟩ := List.getElem?_of_mem hx
    obtain ⟨j, _, b⟩ := h1.cmp_at h2 hi
    exact h1.lt _ (List.mem_of_getElem? b)
  · obtain ⟨k, a1, a2⟩ := h1.cmp_at h2 a
    obtain ⟨l, b1, b2⟩ := h1.cmp_at h2 b
    have := h1.inj k l r a2 b2
    subst this
    exact h2.inj i j k a1 b1
  · obtain ⟨j, hj, a⟩ := h1.sur x hx
    obtain ⟨i, hi, b⟩ := h2.sur j hj
    exact ⟨i, hi, cmp_get b a⟩
structure Back (os bs : List Nat) (n : Nat) : Prop where
  len : bs.length = n
  at_ : ∀ (i r : Nat), os[i]? = some r → bs[r]? = some i
theorem Back.ord {os bs : List Nat} {n : Nat} (h : Ord os n) (b : Back os bs n) : Ord bs n := by
  have key : ∀ {x i : Nat}, bs[x]? = some i → os[i]? = some x := fun {x i} e => by
    have hx : x < n := by have := get_lt e; rw [b.len] at this; exact this
    obtain ⟨j, hj, a⟩ := h.sur x hx
    have := b.at_ j x a
    rw [e] at this
    rw [Option.some.inj this]; exact a
  refine ⟨b.len, fun x hx => ?_, fun i j r a c => ?_, fun x hx => ?_⟩
  · obtain ⟨i, hi⟩ := List.getElem?_of_mem hx
    have := get_lt (key hi)
    rw [h.len] at this; exact this
  · have e1 := key a
    have e2 := key c
    rw [e1] at e2; exact Option.some.inj e2
  · obtain ⟨r, a, l⟩ := h.get hx
    exact ⟨r, l, b.at_ x r a⟩
end L2
namespace L2
open PySem PySem.Spec PyProof.Rows
end L2

namespace L2
open PySem PySem.Spec PyProof.Rows
section
variable {X : Cx} {N tgs frs : List Str} {ix : List Nat} {scope : Scope} {cl : List (Str × Addr)}
noncomputable def tCompF (wi : TI) (g : TG) (tc : TT) (te : TE) (tgs : List Str) (ix : List Nat) : TE := fun σ H Q => wi σ H fun J H1 =>
  ∃ W : Nat → Nat → List V → St → Hp → Prop, (∃ m, W 0 m [] (stComp tgs ix σ) H1) ∧ ∀ i m xs σc H, W i m xs σc H → xs.length < sizeLine ∧
    ((J.stop i H ∧ ∀ p, H p = none → Q (.ref p) (upd H p (.lst xs))) ∨ (J.go i H ∧ ∀ x H', J.yld i H x H' → g x σc H' fun σ2 H2 => tc σ2 H2 fun b H3 => if b = true then te σ2 H3 fun y H4 => ∃ m', m' < m ∧ W (i + 1) m' (xs ++ [y]) σ2 H4 else ∃ m', m' < m ∧ W (i + 1) m' xs σ2 H3))
end
end L2
namespace L2
open PySem PySem.Spec PyProof.Rows
section
variable {X : Cx} {e o b : Expr} {to tb te : TE} {t : TA} {pos apos cpos tpos : Pos}
end
end L2

namespace L2
open PySem PySem.Spec PyProof.Rows
section
variable {X : Cx} {N tgs frs : List Str} {ix : List Nat} {scope : Scope} {cl : List (Str × Addr)} {xc : Str}
end
end L2

namespace L2
open PySem PySem.Spec PyProof.Rows
section
variable {X : Cx} {e o b : Expr} {to tb te : TE} {pos tpos : Pos}
noncomputable def rCatTA : R2 := fun x y H Q => ∃ a b xs ys, x = .ref a ∧ y = .ref b ∧ H a = some (.tup xs) ∧ H b = some (.tup ys) ∧ xs.length + ys.length ≤ sizeLine ∧ ∀ p H', Same H H' → H' p = some (.tup (xs ++ ys)) → Q (.ref p) H'
theorem q_catTA : QOp X (binaryOp .Add) rCatTA := by
  refine ⟨fun pins s σ H x y v u Q I rx ry h => ?_⟩
  obtain ⟨a, b, xs, ys, rfl, rfl, ha, hb, hz, q⟩ := h
  by_cases hx : xs = []
  · subst hx
    cases rx; cases ry
    obtain ⟨its, r1, p1, _⟩ := I.tuple (SqT.of ha)
    obtain ⟨its2, r2, p2, _⟩ := I.tuple (SqT.of hb)
    obtain ⟨⟨c1, d1, t1, l1⟩, o1, o2, n1, o3⟩ := id p1
    obtain ⟨⟨c2, d2, t2, l2⟩, o4, o5, n2, o6⟩ := id p2
    simp only at o2 o3 o5 o6
    subst o2 o3 o5 o6
    have e1 : its = [] := r1.nil_iff.mpr rfl
    refine concat_meets ⟨_, o1, rfl⟩ ⟨_, o4, rfl⟩ noFill_tuple_add seq_tuple_add PySem.F.slot_tuple_add PySem.F.entry_tuple_add (PySem.F.args_tuple_add_2 _ _)
      (tuple_addW0 a b its.toArray its2.toArray n1 n2 d1 d2 l1 l2 (by simp [e1])) ⟨o1, o4, ?_⟩
    exact ⟨.ref b, H, I, rfl, q b H (Same.refl H) hb⟩
  · exact op_catT pins s σ H _ _ v u Q I rx ry ⟨a, b, xs, ys, rfl, rfl, SqT.of ha, SqT.of hb, hx, hz, fun e => q a H (Same.refl H) (by rw [e, List.append_nil]; exact ha), fun _ p hp => q p _ ((Same.refl H).new hp) upd_same⟩
noncomputable def rNeNil (K : PySem.W.Frag) : R2 := fun x y H Q => ∃ a b xs, x = .ref a ∧ y = .ref b ∧ SqL K H a xs ∧ SqL K H b [] ∧ Q (.bl (!decide (xs = []))) H
theorem q_neNil {K : PySem.W.Frag} (hu : X.A.units < cLine) (hK : X.K = K := by rfl) : QOp X (compareOp .NotEq) (rNeNil K) := by
  subst hK
  refine ⟨fun pins s σ H x y v u Q I rx ry h => ?_⟩
  obtain ⟨a, b, xs, rfl, rfl, ha, hb, q⟩ := h
  cases rx; cases ry
  obtain ⟨its, r1, p1, z1⟩ := I.list ha
  obtain ⟨its2, r2, p2, z2⟩ := I.list hb
  have l1 : its.toArray.size = xs.length := by have := r1.length; simp; omega
  have l2 : its2.toArray.size = 0 := by have := r2.length; simp at this; simp [this]
  by_cases hx : xs = []
  · subst hx
    refine SeqAt.RcNeAt.lists (e := fun _ => true) p1.isList p2.isList (by rw [l1, l2]; rfl) hu (fun j h1 h2 => absurd h2 (by omega)) X.prog X.w X.xe _ ?_
    rw [l1]
    exact ⟨.bl false, H, I, rfl, q⟩
  · refine SeqAt.RcNeAt.lists_lengths p1.isList p2.isList (by rw [l1, l2]; have := List.length_pos_iff.mpr hx; simp; exact hx) hu X.prog X.w X.xe _ ?_
    rw [decide_eq_false hx] at q
    exact ⟨.bl true, H, I, rfl, q⟩
end
section
variable {K : PySem.W.Frag} {σ : St} {H : Hp} {Q : VK} {D : Ends}
theorem in_augS {to ti te : TE} {tget : V → V → Hp → VK → Prop} {tip : TIp} {tset : TSet} (h : to σ H fun o H1 => ti σ H1 fun i H2 => tget o i H2 fun x H3 => te σ H3 fun y H4 => tip x y H4 fun z H5 => tset o i z H5 fun H6 => D.nx σ H6) : tAugS to ti te tget tip tset D σ H := h
theorem in_bm0 {r : V → List V → Hp → VK → Prop} {to : TE} {T : String} (h : to σ H fun x H1 => tyV K T x H1 ∧ r x [] H1 Q) : tBM0 K T r to σ H Q := h
theorem in_compF {wi : TI} {g : TG} {tc : TT} {te : TE} {tgs : List Str} {ix : List Nat} (h : wi σ H fun J H1 =>
  ∃ W : Nat → Nat → List V → St → Hp → Prop, (∃ m, W 0 m [] (stComp tgs ix σ) H1) ∧ ∀ i m xs σc H, W i m xs σc H → xs.length < sizeLine ∧
    ((J.stop i H ∧ ∀ p, H p = none → Q (.ref p) (upd H p (.lst xs))) ∨ (J.go i H ∧ ∀ x H', J.yld i H x H' → g x σc H' fun σ2 H2 => tc σ2 H2 fun b H3 => if b = true then te σ2 H3 fun y H4 => ∃ m', m' < m ∧ W (i + 1) m' (xs ++ [y]) σ2 H4 else ∃ m', m' < m ∧ W (i + 1) m' xs σ2 H3))) : tCompF wi g tc te tgs ix σ H Q := h
end
noncomputable def colN (rss : List (List Nat)) (c : Nat) : List Nat := rss.map fun r => r.getD c 0
theorem cut_takeN (os : List Nat) (w : Nat) (h : w ≤ os.length) : cutV (NV os) none (some (w : Int)) = NV (os.take w) := by
  unfold cutV
  rw [HT.sIx_nat, HT.sIx_none, NV_len, Nat.min_eq_left h, List.drop_zero, Nat.sub_zero]
  unfold NV
  rw [List.map_take]
theorem cut_dropN (os : List Nat) (w : Nat) (h : w ≤ os.length) : cutV (NV os) (some (w : Int)) none = NV (os.drop w) := by
  unfold cutV
  rw [HT.sIx_nat, HT.sIx_none, NV_len, Nat.min_eq_left h, List.take_of_length_le (by rw [List.length_drop, NV_len]; exact Nat.le_refl _)]
  unfold NV
  rw [List.map_drop]
end L2

namespace L2
open PySem PySem.Spec PyProof.Rows
theorem sizeD (m : Nat) : Builtin.Range.rangeSize ((m : Int) - 1) (-1) (-1) = m := by
  unfold Builtin.Range.rangeSize
  rw [if_neg (by decide)]
  split
  · rw [show (-(-1) : Int) = 1 by decide, Int.ediv_one]; omega
  · omega
theorem smallD {m : Nat} (h : m ≤ 1000) : Builtin.Range.small ((m : Int) - 1) (-1) (-1) = true := by
  unfold Builtin.Range.small
  rw [sizeD]
  simp only [Builtin.Range.rangeFitsLong, Bool.and_eq_true, Bool.or_eq_true, decide_eq_true_eq, beq_iff_eq, show ¬ ((-1 : Int) > 0) by decide, if_false]
  refine ⟨?_, ?_⟩ <;> first | omega | (refine ⟨?_, ?_⟩ <;> first | omega | (split <;> omega)) | (split <;> omega) | trace_state
noncomputable def Itd (m : Nat) : It := ⟨fun i _ => i < m, fun i H x H' => H' = H ∧ x = .int ((m - 1 - i : Nat) : Int), fun i _ => m ≤ i⟩
theorem turn_rangeD {P : Program} {w : World} {K : PySem.W.Frag} {tg : Expr} (it : Addr) (m : Nat) : Turn P w K tg (Itd m) [it] it (fun i h => IsRangeIter h it (((m : Int) - 1) + (i : Nat) * (-1)) ((m : Int) - (i : Nat)) (-1)) where
  mem := by simp
  obj := fun i h st b hb => by
    have e : b = it := by simpa using hb
    subst e
    exact ⟨_, st, fun v z => by
      have z' : Data.fields _ = Data.cell v := z
      cases z'⟩
  keep := fun i h h' st k => k it (by simp) _ st
  item := by
    intro X hP hw hK hc i pins s σ H E I hf st hg
    subst hP hw hK
    obtain ⟨f0, f1, f2, f3, f4, f5⟩ := hf it (by simp)
    have hi : i < m := hg
    have W := Walks.range (prog := X.prog) (w := X.w) (I.ok.hd hc) it ((m : Int) - 1) (-1) m
    refine W.item i s _ _ hg st fun v h' tk hv st' kk => ?_
    obtain ⟨t, rfl⟩ := hv
    have I1 : Inv X pins σ H { s with heap := h', toks := tk } := I.turned (fun b o hb e => kk b o (by simpa using hb) e) f0 f1 f3 f4 f5
    refine ⟨_, rfl, go_of (s := { s with heap := h', toks := tk }) (n := "range_iterator") st' rfl rfl (by decide) ⟨.int ((m - 1 - i : Nat) : Int), H, I1, ⟨t, ?_⟩, ⟨rfl, rfl⟩, st', fun b hb => (hf b hb).1⟩⟩
    congr 1
    omega
  done := by
    intro X hP hw hK hc i pins s σ H E I hf st hg
    subst hP hw hK
    obtain ⟨f0, f1, f2, f3, f4, f5⟩ := hf it (by simp)
    exact wpAny_pyNext_range_end (I.ok.hd hc) st (by have : m ≤ i := hg; omega) fun h' eb => ⟨rfl, I.turned (t' := s.toks) (fun b o hb e => eb b o hb e) f0 f1 f3 f4 f5⟩
  self := fun _ _ _ _ _ st h => wpAny_pyIter_rangeiter st h
section
variable {X : Cx} {tg a b c : Expr} {t : TA} {p pos : Pos}
noncomputable def iRngD (t : TA) : TI := fun σ H R => t σ H fun vs H1 => ∃ m : Nat, vs = [.int ((m : Int) - 1), .int (-1), .int (-1)] ∧ m ≤ 1000 ∧ R (Itd m) H1
theorem qi_rangeD (hg : Gl X "range") (hm : X.mg "range" = none) (ha : QA X [a, b, c] t) (hn : nstar a = true := by rfl) (hn2 : nstar b = true := by rfl) (hn3 : nstar c = true := by rfl) : QI X tg (.Call (.Name "range" p) [a, b, c] [] pos) (iRngD t) := by
  refine ⟨fun pins s σ H R I h => ?_⟩
  have e3 : starEach [c] X.env = [(false, eval c X.env)] := star_cons hn3
  have e2 : starEach [b, c] X.env = [(false, eval b X.env), (false, eval c X.env)] := by rw [star_cons hn2, e3]
  refine Call_ (ld_blt I hg hm boot_range (PyProof.Rows.callWith_type1 (thn (ha.out pos pins s σ H _ I h) fun us s1 ⟨vs, H1, I1, r1, q1⟩ => ?_) (star_cons hn) (by rw [e2]; rfl)))
  obtain ⟨m, e, hm1, q⟩ := q1
  subst e
  cases r1 with
  | cons r rr =>
    cases rr with
    | cons r' rr =>
      cases rr with
      | cons r'' rr =>
        cases rr
        obtain ⟨t1, rfl⟩ := r
        obtain ⟨t2, rfl⟩ := r'
        obtain ⟨t3, rfl⟩ := r''
        refine call_range_3 (by decide) ?_ (.inl (PyProof.noPylong_of_log2 (by decide +kernel)))
        refine wpAny_pyIter_range (IsRange.new ..) (smallD hm1) ?_
        have I2 : Inv X pins σ H1 { s1 with heap := s1.heap.push { cls := .type "range", data := .fields #[.int ((m : Int) - 1) t1, .int (-1) t2, .int (-1) t3] }, toks := s1.toks } := I1.kept fun b o e => Heap.get?_push_of_some _ e
        refine ⟨_, [(s1.heap.push { cls := .type "range", data := .fields #[.int ((m : Int) - 1) t1, .int (-1) t2, .int (-1) t3] }).objs.size], _, _, H1, rfl, I2.kept (t' := s1.toks) fun b o e => Heap.get?_push_of_some _ e, turn_rangeD _ m, ?_, fun b hb => ?_, q⟩
        · show IsRangeIter _ _ (((m : Int) - 1) + ((0 : Nat) : Int) * (-1)) ((m : Int) - ((0 : Nat) : Int)) (-1)
          have g1 : ((m : Int) - 1) + ((0 : Nat) : Int) * (-1) = (m : Int) - 1 := by simp
          have g2 : (m : Int) - ((0 : Nat) : Int) = Builtin.Range.rangeSize ((m : Int) - 1) (-1) (-1) := by rw [sizeD]; simp
          rw [g1, g2]
          exact Heap.get?_push_size _ rfl
        · have e : b = (s1.heap.push { cls := .type "range", data := .fields #[.int ((m : Int) - 1) t1, .int (-1) t2, .int (-1) t3] }).objs.size := by simpa using hb
          subst e
          exact I2.fpOk (Nat.le_refl _) (I2.hok.fresh (Nat.le_refl _))
end
theorem in_rngD {σ : St} {H : Hp} {t : TA} {R : It → Hp → Prop} (h : t σ H fun vs H1 => ∃ m : Nat, vs = [.int ((m : Int) - 1), .int (-1), .int (-1)] ∧ m ≤ 1000 ∧ R (Itd m) H1) : iRngD t σ H R := h
end L2

namespace L2
open PySem PySem.Spec PyProof.Rows
section
variable {prog : Program} {w : World} {A : Around} {E : Value → Shared → Prop} {s : Shared}
theorem zipT_next {z TI TO i1 i2 l1 l2 : Addr} {k : Nat} {xs ys : Array Value} {x y a b : Value} {Q : Value → Shared → Prop} (D : ZipApart z TI TO i1 i2 l1 l2)
    (g0 : IsZip s.heap z TI TO .none) (g1 : IsPair s.heap TI (.ref i1) (.ref i2)) (g2 : IsPair s.heap TO a b) (g3 : s.heap.IsTupleIter i1 l1 k) (g4 : s.heap.IsTupleIter i2 l2 k) (g5 : s.heap.IsTuple l1 xs) (g6 : s.heap.IsTuple l2 ys) (g7 : xs[k]? = some x) (g8 : ys[k]? = some y)
    (hQ : ∀ g, IsZip g z TI TO (rawInt s.heap.objs.size) → IsPair g TO x y → g.IsTupleIter i1 l1 (k + 1) → g.IsTupleIter i2 l2 (k + 1) → IsPair g s.heap.objs.size x y → (∀ c o, c ≠ z → c ≠ TO → c ≠ i1 → c ≠ i2 → s.heap.get? c = some o → g.get? c = some o) → Q (.ref s.heap.objs.size) { s with heap := g }) :
    wpAny (model prog w) A (Builtin.«zip.__next__» ⟨[.ref z], []⟩) (fun fin s' => ∃ v, fin = .done (.ret v) ∧ Q v s') E s := by
  show wpAny _ _ (PySem.field (.ref z) 2 >>= _) _ _ _
  refine wpAny_bind (wpAny_field g0 rfl (x := .bool false) rfl ?_)
  show wpAny _ _ (PySem.field (.ref z) 3 >>= _) _ _ _
  refine wpAny_bind (wpAny_field g0 rfl (x := .ref TI) rfl ?_)
  refine wpAny_bind (wpAny_seqItems g1 rfl ?_)
  show wpAny _ _ (Builtin.SmallTypes.ownedTupleIsFree (Value.ref z) >>= _) _ _ _
  refine wpAny_bind ?_
  unfold Builtin.SmallTypes.ownedTupleIsFree
  refine wpAny_bind (wpAny_field g0 rfl (x := .none) rfl (wpAny_pure ?_))
  simp only [if_true]
  refine wpAny_bind (wpAny_rule ?_)
  refine wpAny_bind (wpAny_field g0 rfl (x := .ref TO) rfl ?_)
  refine wpAny_bind (wpAny_setField_rec g0 (by simp) fun a1 b1 c1 => ?_)
  have b1 : IsZip a1 z TI TO .ellipsis := b1
  refine wpAny_bind ?_
  simp only [List.zipIdx_cons, List.zipIdx_nil, List.forIn_cons, List.forIn_nil]
  refine wpAny_bind (wpAny_bind (wpAny_onRaise ?_))
  show wpAny _ _ (Builtin.SmallTypes.nextOf (Value.ref i1) >>= _) _ _ _
  refine wpAny_bind (drawT_item (g3.extBut c1.extBut D.i1z) (g5.extBut c1.extBut D.l1z) g7 fun a2 b2 c2 => wpAny_pure ?_)
  have d2 : IsPair a2 TO a b := c2.extBut _ _ D.TOi1 (c1.extBut _ _ D.TOz g2)
  refine wpAny_bind (wpAny_seqItems d2 rfl ?_)
  refine wpAny_bind (wpAny_updateSeq_pair d2 fun a3 b3 c3 => ?_)
  have b3 : IsPair a3 TO x b := b3
  refine wpAny_bind (wpAny_letGo (wpAny_pure ?_))
  refine wpAny_bind (wpAny_bind (wpAny_onRaise ?_))
  show wpAny _ _ (Builtin.SmallTypes.nextOf (Value.ref i2) >>= _) _ _ _
  refine wpAny_bind (drawT_item (((g4.extBut c1.extBut D.i2z).extBut c2.extBut D.i12.symm).extBut c3.extBut D.TOi2.symm) (((g6.extBut c1.extBut D.l2z).extBut c2.extBut D.l2i1).extBut c3.extBut D.l2TO) g8 fun a4 b4 c4 => wpAny_pure ?_)
  have d4 : IsPair a4 TO x b := c4.extBut _ _ D.TOi2 b3
  refine wpAny_bind (wpAny_seqItems d4 rfl ?_)
  refine wpAny_bind (wpAny_updateSeq_pair d4 fun a5 b5 c5 => ?_)
  have b5 : IsPair a5 TO x y := b5
  refine wpAny_bind (wpAny_letGo (wpAny_pure (wpAny_pure ?_)))
  refine wpAny_bind (wpAny_seqItems b5 rfl ?_)
  refine wpAny_bind (wpAny_newTuple ?_)
  have sz : a5.objs.size = s.heap.objs.size := by rw [c5.1, c4.1, c3.1, c2.1, c1.1]
  have z5 : IsZip a5 z TI TO .ellipsis := c5.extBut _ _ D.TOz.symm (c4.extBut _ _ D.i2z.symm (c3.extBut _ _ D.TOz.symm (c2.extBut _ _ D.i1z.symm b1)))
  have k5 : ∀ c o, c ≠ z → c ≠ TO → c ≠ i1 → c ≠ i2 → s.heap.get? c = some o → a5.get? c = some o := fun c o n1 n2 n3 n4 e => c5.extBut _ _ n2 (c4.extBut _ _ n4 (c3.extBut _ _ n2 (c2.extBut _ _ n3 (c1.extBut _ _ n1 e))))
  have p5 : a5.IsTupleIter i1 l1 (k + 1) := ((b2.extBut c3.extBut D.TOi1.symm).extBut c4.extBut D.i12).extBut c5.extBut D.TOi1.symm
  have q5 : a5.IsTupleIter i2 l2 (k + 1) := b4.extBut c5.extBut D.TOi2.symm
  have zl : z < a5.objs.size := Heap.lt_size z5
  show wpAny _ _ (Builtin.SmallTypes.ownedTupleHandOut (Value.ref z) (.ref a5.objs.size) >>= _) _ _ _
  refine wpAny_bind ?_
  unfold Builtin.SmallTypes.ownedTupleHandOut
  have z6 : IsZip (a5.push { cls := .type "tuple", data := .seq #[x, y] }) z TI TO .ellipsis := Heap.get?_push_of_some _ z5
  refine wpAny_bind (wpAny_setField_rec z6 (by simp) fun a7 b7 c7 => ?_)
  have b7 : IsZip a7 z TI TO (rawInt a5.objs.size) := b7
  refine wpAny_setField_rec b7 (by simp) fun a8 b8 c8 => ?_
  have b8 : IsZip a8 z TI TO (rawInt a5.objs.size) := b8
  have up : ∀ c o, c ≠ z → a5.get? c = some o → a8.get? c = some o := fun c o n e => c8.extBut _ _ n (c7.extBut _ _ n (Heap.get?_push_of_some _ e))
  have t8 : IsPair a8 a5.objs.size x y := c8.extBut _ _ (Nat.ne_of_gt zl) (c7.extBut _ _ (Nat.ne_of_gt zl) (Heap.get?_push_size _ rfl))
  rw [sz] at b8 t8
  refine wpAny_pure ⟨_, rfl, ?_⟩
  show Q (.ref a5.objs.size) _
  rw [sz]
  have r1 : a8.IsTupleIter i1 l1 (k + 1) := by obtain ⟨o, e, r⟩ := p5; exact ⟨o, up _ _ D.i1z e, r⟩
  have r2 : a8.IsTupleIter i2 l2 (k + 1) := by obtain ⟨o, e, r⟩ := q5; exact ⟨o, up _ _ D.i2z e, r⟩
  exact hQ a8 b8 (up _ _ D.TOz b5) r1 r2 t8 fun c o n1 n2 n3 n4 e => up c o n1 (k5 c o n1 n2 n3 n4 e)
theorem zipT_end {z TI TO i1 i2 l1 l2 : Addr} {k : Nat} {xs : Array Value} {Q : Fin → Shared → Prop} (hh : A.handled = none) (D : ZipApart z TI TO i1 i2 l1 l2)
    (g0 : IsZip s.heap z TI TO .none) (g1 : IsPair s.heap TI (.ref i1) (.ref i2)) (g3 : s.heap.IsTupleIter i1 l1 k) (g5 : s.heap.IsTuple l1 xs) (g7 : xs[k]? = none)
    (hE : ∀ g e, (∀ c o, c ≠ z → c ≠ i1 → s.heap.get? c = some o → g.get? c = some o) → (∃ o, g.get? e = some o ∧ o.cls = .type "StopIteration") → E (.ref e) { s with heap := g }) :
    wpAny (model prog w) A (Builtin.«zip.__next__» ⟨[.ref z], []⟩) Q E s := by
  show wpAny _ _ (PySem.field (.ref z) 2 >>= _) _ _ _
  refine wpAny_bind (wpAny_field g0 rfl (x := .bool false) rfl ?_)
  show wpAny _ _ (PySem.field (.ref z) 3 >>= _) _ _ _
  refine wpAny_bind (wpAny_field g0 rfl (x := .ref TI) rfl ?_)
  refine wpAny_bind (wpAny_seqItems g1 rfl ?_)
  show wpAny _ _ (Builtin.SmallTypes.ownedTupleIsFree (Value.ref z) >>= _) _ _ _
  refine wpAny_bind ?_
  unfold Builtin.SmallTypes.ownedTupleIsFree
  refine wpAny_bind (wpAny_field g0 rfl (x := .none) rfl (wpAny_pure ?_))
  simp only [if_true]
  refine wpAny_bind (wpAny_rule ?_)
  refine wpAny_bind (wpAny_field g0 rfl (x := .ref TO) rfl ?_)
  refine wpAny_bind (wpAny_setField_rec g0 (by simp) fun a1 b1 c1 => ?_)
  have b1 : IsZip a1 z TI TO .ellipsis := b1
  refine wpAny_bind ?_
  simp only [List.zipIdx_cons, List.zipIdx_nil, List.forIn_cons, List.forIn_nil]
  refine wpAny_bind (wpAny_bind (wpAny_onRaise ?_))
  show wpAny _ _ (Builtin.SmallTypes.nextOf (Value.ref i1) >>= _) _ _ _
  refine wpAny_bind (drawT_end hh (g3.extBut c1.extBut D.i1z) (g5.extBut c1.extBut D.l1z) g7 fun a2 e c2 he => ?_)
  obtain ⟨oe, e1, e2⟩ := he
  have z2 : IsZip a2 z TI TO .ellipsis := c2 _ _ D.i1z.symm b1
  have ez : e ≠ z := fun q => by
    subst q
    rw [z2] at e1
    cases e1
    simp at e2
  exact wpAny_setField_rec z2 (by simp) fun a3 _ c3 => hE a3 e (fun c o n1 n3 q => c3.extBut _ _ n1 (c2 _ _ n3 (c1.extBut _ _ n1 q))) ⟨oe, c3.extBut _ _ ez e1, e2⟩
theorem zipT_pyNext {z TI TO i1 i2 l1 l2 : Addr} {k : Nat} {xs ys : Array Value} {x y a b : Value} {Q : Option Value → Shared → Prop} (D : ZipApart z TI TO i1 i2 l1 l2)
    (g0 : IsZip s.heap z TI TO .none) (g1 : IsPair s.heap TI (.ref i1) (.ref i2)) (g2 : IsPair s.heap TO a b) (g3 : s.heap.IsTupleIter i1 l1 k) (g4 : s.heap.IsTupleIter i2 l2 k) (g5 : s.heap.IsTuple l1 xs) (g6 : s.heap.IsTuple l2 ys) (g7 : xs[k]? = some x) (g8 : ys[k]? = some y)
    (hQ : ∀ g, IsZip g z TI TO (rawInt s.heap.objs.size) → IsPair g TO x y → g.IsTupleIter i1 l1 (k + 1) → g.IsTupleIter i2 l2 (k + 1) → IsPair g s.heap.objs.size x y → (∀ c o, c ≠ z → c ≠ TO → c ≠ i1 → c ≠ i2 → s.heap.get? c = some o → g.get? c = some o) → Q (some (.ref s.heap.objs.size)) { s with heap := g }) :
    wpAny (model prog w) A (pyNext (.ref z)) Q E s := by
  have ty : s.TypeIs (.ref z) "zip" := ⟨_, g0, rfl⟩
  unfold pyNext
  exact wpAny_bind (wpAny_attempt (wpAny_callSpecial?_slot (name := Str.ofString "__next__") ty F.slot_zip_next (wpAny_call_entry F.slot_zip_next ty F.entry_zip_next (zipT_next D g0 g1 g2 g3 g4 g5 g6 g7 g8 fun g a1 a2 a3 a4 a5 a6 => wpAny_pure (hQ g a1 a2 a3 a4 a5 a6)) (F.args_zip_next_1 _))))
theorem zipT_pyEnd {z TI TO i1 i2 l1 l2 : Addr} {k : Nat} {xs : Array Value} {Q : Option Value → Shared → Prop} (hh : A.handled = none) (D : ZipApart z TI TO i1 i2 l1 l2)
    (g0 : IsZip s.heap z TI TO .none) (g1 : IsPair s.heap TI (.ref i1) (.ref i2)) (g3 : s.heap.IsTupleIter i1 l1 k) (g5 : s.heap.IsTuple l1 xs) (g7 : xs[k]? = none)
    (hQ : ∀ g, (∀ c o, c ≠ z → c ≠ i1 → s.heap.get? c = some o → g.get? c = some o) → Q none { s with heap := g }) : wpAny (model prog w) A (pyNext (.ref z)) Q E s := by
  have ty : s.TypeIs (.ref z) "zip" := ⟨_, g0, rfl⟩
  unfold pyNext
  refine wpAny_bind (wpAny_attempt (wpAny_callSpecial?_slot (name := Str.ofString "__next__") ty F.slot_zip_next (wpAny_call_entry F.slot_zip_next ty F.entry_zip_next (zipT_end hh D g0 g1 g3 g5 g7 fun g e kk he => ?_) (F.args_zip_next_1 _))))
  obtain ⟨o, e1, e2⟩ := he
  refine wpAny_bind (wpAny_isInstance (T := "StopIteration") (b := true) ⟨o, e1, e2⟩ isSubtype_stop ?_)
  exact wpAny_pure (hQ _ kk)
noncomputable abbrev zt1 (h : Heap) (l : Addr) : Heap := h.push { cls := .type "tuple_iterator", data := .fields #[.ref l, .int 0 0] }
noncomputable abbrev zt2 (h : Heap) (l m : Addr) : Heap := zt1 (zt1 h l) m
noncomputable abbrev zt3 (h : Heap) (l m : Addr) : Heap := (zt2 h l m).push { cls := .type "tuple", data := .seq #[.ref h.objs.size, .ref (zt1 h l).objs.size] }
noncomputable abbrev zt4 (h : Heap) (l m : Addr) : Heap := (zt3 h l m).push { cls := .type "tuple", data := .seq #[.none, .none] }
noncomputable abbrev zt5 (h : Heap) (l m : Addr) : Heap := (zt4 h l m).push { cls := .type "zip", data := .fields #[.none, .bool false, .bool false, .ref (zt2 h l m).objs.size, .ref (zt3 h l m).objs.size] }
theorem newZipT (l m : Addr) (xs ys : Array Value) : Meets (Builtin.«zip.__new__» ⟨[.type "zip", .ref l, .ref m], []⟩) (fun _ R s => s.heap.IsTuple l xs ∧ s.heap.IsTuple m ys ∧ R (.ok (.ret (.ref (zt4 s.heap l m).objs.size))) { s with heap := zt5 s.heap l m }) :=
  .of_wp fun prog w A R s h => by
    obtain ⟨q1, q2, q3, q4, q5⟩ := s
    obtain ⟨a1, a2, h⟩ := h
    have sub := sub_zip
    have e1 : Heap.IsTuple (Shared.heap ⟨q1, q2, q3, q4, q5⟩) l xs := a1
    have e2 : Heap.IsTuple (Shared.heap ⟨zt1 q1 l, q2, q3, q4, q5⟩) m ys := Heap.IsTuple.push a2 _
    wp_walk using wpAny_pyIter_tuple e1, wpAny_pyIter_tuple e2
    exact ⟨_, rfl, h⟩
theorem callZipT {l m : Addr} {xs ys : Array Value} {Q : Value → Shared → Prop} (a1 : s.heap.IsTuple l xs) (a2 : s.heap.IsTuple m ys)
    (h : ∀ g, IsZip g (s.heap.objs.size + 4) (s.heap.objs.size + 2) (s.heap.objs.size + 3) .none → IsPair g (s.heap.objs.size + 2) (.ref s.heap.objs.size) (.ref (s.heap.objs.size + 1)) → IsPair g (s.heap.objs.size + 3) .none .none → g.IsTupleIter s.heap.objs.size l 0 → g.IsTupleIter (s.heap.objs.size + 1) m 0 →
      (∀ c o, s.heap.get? c = some o → g.get? c = some o) → Q (.ref (s.heap.objs.size + 4)) { s with heap := g }) : wpAny (model prog w) A (call (.type "zip") [.ref l, .ref m]) Q E s := by
  refine callType_new F.called_zip (by decide) (F.typeCall_zip_2 _ _) (F.newCall_zip_2 _ _) (fun obj => F.args_object_init_3 obj _ _) F.entry_zip_new (newZipT l m xs ys) ⟨a1, a2, ?_⟩
  have w1 : (zt1 s.heap l).objs.size = s.heap.objs.size + 1 := Heap.size_push ..
  have w2 : (zt2 s.heap l m).objs.size = s.heap.objs.size + 2 := by rw [Heap.size_push, w1]
  have w3 : (zt3 s.heap l m).objs.size = s.heap.objs.size + 3 := by rw [Heap.size_push, w2]
  have w4 : (zt4 s.heap l m).objs.size = s.heap.objs.size + 4 := by rw [Heap.size_push, w3]
  have r5 : (zt5 s.heap l m).get? (zt4 s.heap l m).objs.size = some { cls := .type "zip", data := .fields #[.none, .bool false, .bool false, .ref (zt2 s.heap l m).objs.size, .ref (zt3 s.heap l m).objs.size] } := Heap.get?_push_size _ rfl
  have r4 : (zt5 s.heap l m).get? (zt3 s.heap l m).objs.size = some { cls := .type "tuple", data := .seq #[.none, .none] } := Heap.get?_push_of_some _ (Heap.get?_push_size _ rfl)
  have r3 : (zt5 s.heap l m).get? (zt2 s.heap l m).objs.size = some { cls := .type "tuple", data := .seq #[.ref s.heap.objs.size, .ref (zt1 s.heap l).objs.size] } := Heap.get?_push_of_some _ (Heap.get?_push_of_some _ (Heap.get?_push_size _ rfl))
  have r2 : (zt5 s.heap l m).get? (zt1 s.heap l).objs.size = some { cls := .type "tuple_iterator", data := .fields #[.ref m, .int 0 0] } := Heap.get?_push_of_some _ (Heap.get?_push_of_some _ (Heap.get?_push_of_some _ (Heap.get?_push_size _ rfl)))
  have r1 : (zt5 s.heap l m).get? s.heap.objs.size = some { cls := .type "tuple_iterator", data := .fields #[.ref l, .int 0 0] } := Heap.get?_push_of_some _ (Heap.get?_push_of_some _ (Heap.get?_push_of_some _ (Heap.get?_push_of_some _ (Heap.get?_push_size _ rfl))))
  rw [w2, w3, w4] at r5
  rw [w1, w2] at r3
  rw [w3] at r4
  rw [w1] at r2
  show _ ∧ _
  rw [w4]
  exact ⟨⟨_, r5, rfl⟩, h _ r5 r3 r4 ⟨_, r1, rfl, rfl⟩ ⟨_, r2, rfl, rfl⟩ fun c o q => Heap.get?_push_of_some _ (Heap.get?_push_of_some _ (Heap.get?_push_of_some _ (Heap.get?_push_of_some _ (Heap.get?_push_of_some _ q))))⟩
end
noncomputable def ItzT (K : PySem.W.Frag) (a b : Addr) : It :=
  ⟨fun i H => ∃ xs ys x y, SqT K H a xs ∧ SqT K H b ys ∧ xs[i]? = some x ∧ ys[i]? = some y, fun i H v H' => ∃ p x y, v = .ref p ∧ H p = none ∧ H' = upd H p (.tup [x, y]) ∧ (∀ xs, SqT K H a xs → xs[i]? = some x) ∧ ∀ ys, SqT K H b ys → ys[i]? = some y, fun i H => ∃ xs, SqT K H a xs ∧ xs.length ≤ i⟩
theorem turn_zipT {P : Program} {w : World} {K : PySem.W.Frag} {elts : List Expr} {k : Nat} {pos : Pos} (a b z TI TO i1 i2 : Addr) (D : ZipApart z TI TO i1 i2 a b) :
    Turn P w K (.Tuple elts k pos) (ItzT K a b) [z, TI, TO, i1, i2] z (fun i h => IsZip h z TI TO .none ∧ IsPair h TI (.ref i1) (.ref i2) ∧ (∃ u v, IsPair h TO u v) ∧ h.IsTupleIter i1 a i ∧ h.IsTupleIter i2 b i) where
  mem := by simp
  obj := fun i h st c hb => by
    obtain ⟨q1, q2, ⟨u, v, q3⟩, ⟨o4, q4, _, d4⟩, ⟨o5, q5, _, d5⟩⟩ := st
    simp only [List.mem_cons, List.not_mem_nil, or_false] at hb
    rcases hb with rfl | rfl | rfl | rfl | rfl
    · exact ⟨_, q1, fun v z => by cases z⟩
    · exact ⟨_, q2, fun v z => by cases z⟩
    · exact ⟨_, q3, fun v z => by cases z⟩
    · exact ⟨o4, q4, fun v z => by rw [d4] at z; cases z⟩
    · exact ⟨o5, q5, fun v z => by rw [d5] at z; cases z⟩
  keep := fun i h h' st kk => by
    obtain ⟨q1, q2, ⟨u, v, q3⟩, ⟨o4, q4, r4⟩, ⟨o5, q5, r5⟩⟩ := st
    exact ⟨kk z (by simp) _ q1, kk TI (by simp) _ q2, ⟨u, v, kk TO (by simp) _ q3⟩, ⟨o4, kk i1 (by simp) _ q4, r4⟩, ⟨o5, kk i2 (by simp) _ q5, r5⟩⟩
  item := by
    intro X hP hw hK hc i pins s σ H E I hf st hg
    subst hP hw hK
    obtain ⟨xs, ys, x, y, hqx, hqy, hx, hy⟩ := hg
    obtain ⟨its, rv, p, hz⟩ := I.tuple hqx
    obtain ⟨jts, rw', p', hz'⟩ := I.tuple hqy
    have p : s.heap.IsTuple a its.toArray := p
    have p' : s.heap.IsTuple b jts.toArray := p'
    obtain ⟨u, hu, ru⟩ := rv.get hx
    obtain ⟨v, hv, rv'⟩ := rw'.get hy
    obtain ⟨q1, q2, ⟨u3, v3, q3⟩, q4, q5⟩ := st
    have l1 := Heap.lt_size q1
    have l2 := Heap.lt_size q2
    have l3 := Heap.lt_size q3
    have l4 : i1 < s.heap.objs.size := by obtain ⟨o, g, _⟩ := q4; exact Heap.lt_size g
    have l5 : i2 < s.heap.objs.size := by obtain ⟨o, g, _⟩ := q5; exact Heap.lt_size g
    refine zipT_pyNext D q1 q2 q3 q4 q5 p p' (x := u) (y := v) (by simpa using hu) (by simpa using hv) fun h' a1 a2 a3 a4 a5 a7 => ⟨_, rfl, wpAny_letOwnedTupleGo_zip a1 fun g hz2 sb => ?_⟩
    obtain ⟨I2, hn⟩ := I.pair (g := g) (tk := s.toks) (ch := [z, TO, i1, i2]) (x := x) (y := y) (fun c o hb r => (sb.2 c (fun e => hb (by simp [e]))).trans (a7 c o (fun e => hb (by simp [e])) (fun e => hb (by simp [e])) (fun e => hb (by simp [e])) (fun e => hb (by simp [e])) r)) (fun c hb => hf c (by simp at hb; rcases hb with e | e | e | e <;> simp [e])) ((sb.2 _ (Nat.ne_of_gt l1)).trans a5) ru rv'
    have r3 : g.IsTupleIter i1 a (i + 1) := by obtain ⟨o, e, r⟩ := a3; exact ⟨o, (sb.2 i1 D.i1z).trans e, r⟩
    have r4 : g.IsTupleIter i2 b (i + 1) := by obtain ⟨o, e, r⟩ := a4; exact ⟨o, (sb.2 i2 D.i2z).trans e, r⟩
    refine ⟨.ref s.heap.objs.size, _, I2, rfl, ⟨_, x, y, rfl, hn, rfl, fun zs h => by rw [I.tuple_inj h hqx]; exact hx, fun zs h => by rw [I.tuple_inj h hqy]; exact hy⟩, ⟨hz2, ?_, ⟨_, _, (sb.2 _ D.TOz).trans a2⟩, r3, r4⟩, fun c hb => ?_⟩
    · exact (sb.2 _ D.TIz).trans (a7 TI _ D.TIz D.TITO D.TIi1 D.TIi2 q2)
    · have hc0 := (hf c hb).1
      simp only [List.mem_cons, List.not_mem_nil, or_false] at hb
      have : c < s.heap.objs.size := by rcases hb with rfl | rfl | rfl | rfl | rfl <;> assumption
      rw [upd_ne (Nat.ne_of_lt this)]; exact hc0
  done := by
    intro X hP hw hK hc i pins s σ H E I hf st hg
    subst hP hw hK
    obtain ⟨xs, hqx, hx⟩ := hg
    obtain ⟨its, rv, p, hz⟩ := I.tuple hqx
    have m1 := rv.length
    obtain ⟨q1, q2, _, q4, _⟩ := st
    exact zipT_pyEnd (I.ok.hd hc) D q1 q2 q4 (show s.heap.IsTuple a its.toArray from p) (by simp; omega) fun h' kk => ⟨rfl, I.turnedAll (t' := s.toks) (ch := [z, i1]) (fun c o hb r => kk c o (fun e => hb (by simp [e])) (fun e => hb (by simp [e])) r) (fun c hb => hf c (by simp at hb; rcases hb with e | e <;> simp [e]))⟩
  self := fun _ _ _ _ _ st h => wpAny_pyIter_zip st.1 h
section
variable {X : Cx} {a b : Expr} {t : TA} {p pos tpos : Pos} {ts : List Expr} {k : Nat}
noncomputable def iZipT (K : PySem.W.Frag) (t : TA) : TI := fun σ H R => t σ H fun vs H1 => ∃ a b, vs = [.ref a, .ref b] ∧ (∃ xs, SqT K H1 a xs) ∧ (∃ ys, SqT K H1 b ys) ∧ R (ItzT K a b) H1
theorem qi_zipT {K : PySem.W.Frag} (hg : Gl X "zip") (hm : X.mg "zip" = none) (ha : QA X [a, b] t) (hn : nstar a = true := by rfl) (hn2 : nstar b = true := by rfl) (hK : X.K = K := by rfl) : QI X (.Tuple ts k tpos) (.Call (.Name "zip" p) [a, b] [] pos) (iZipT K t) := by
  subst hK
  refine ⟨fun pins s σ H R I h => ?_⟩
  have e2 : starEach [b] X.env = [(false, eval b X.env)] := star_cons hn2
  refine Call_ (ld_blt I hg hm (by decide +kernel : bootBuiltins "zip" = some (.type "zip")) (PyProof.Rows.callWith_type1 (thn (ha.out pos pins s σ H _ I h) fun us s1 ⟨vs, H1, I1, r1, q1⟩ => ?_) (star_cons hn) (by rw [e2]; rfl)))
  obtain ⟨l, m, e, ⟨xs, hq⟩, ⟨ys, hq'⟩, q⟩ := q1
  subst e
  cases r1 with
  | cons r rr =>
    cases rr with
    | cons r' rr =>
      cases rr
      cases r; cases r'
      obtain ⟨its, rv, pl, hz⟩ := I1.tuple hq
      obtain ⟨jts, rw', pl', hz'⟩ := I1.tuple hq'
      have pl : s1.heap.IsTuple l its.toArray := pl
      have pl' : s1.heap.IsTuple m jts.toArray := pl'
      have a1 : l < s1.heap.objs.size := by obtain ⟨o, g, _⟩ := pl; exact Heap.lt_size g
      have a2 : m < s1.heap.objs.size := by obtain ⟨o, g, _⟩ := pl'; exact Heap.lt_size g
      refine callZipT pl pl' fun g h1 h2 h3 h4 h5 h7 => wpAny_pyIter_zip h1 ?_
      have I2 : Inv X pins σ H1 { s1 with heap := g } := I1.kept (t' := s1.toks) h7
      refine ⟨_, _, _, _, H1, rfl, I2, turn_zipT l m _ _ _ _ _ (zipApart_new a1 a2), ⟨h1, h2, ⟨_, _, h3⟩, h4, h5⟩, fun c hc => ?_, q⟩
      have hle : s1.heap.objs.size ≤ c := by
        simp only [List.mem_cons, List.not_mem_nil, or_false] at hc
        rcases hc with rfl | rfl | rfl | rfl | rfl
        · exact Nat.le_add_right _ _
        · exact Nat.le_add_right _ _
        · exact Nat.le_add_right _ _
        · exact Nat.le_refl _
        · exact Nat.le_add_right _ _
      exact I1.fpOk hle (I1.hok.fresh hle)
end
theorem in_zipT {K : PySem.W.Frag} {σ : St} {H : Hp} {t : TA} {R : It → Hp → Prop} (h : t σ H fun vs H1 => ∃ a b, vs = [.ref a, .ref b] ∧ (∃ xs, SqT K H1 a xs) ∧ (∃ ys, SqT K H1 b ys) ∧ R (ItzT K a b) H1) : iZipT K t σ H R := h
end L2

namespace L2
open PySem PySem.Spec PyProof.Rows
section
variable {X : Cx} {N tgs frs : List Str} {ix : List Nat} {scope : Scope} {cl : List (Str × Addr)}
end
section
variable {X : Cx} {N tgs frs : List Str} {ix : List Nat} {scope : Scope} {cl : List (Str × Addr)} {xc : Str}
end
section
variable {X : Cx} {e o : Expr} {to te : TE} {t : TA} {pos apos cpos : Pos}
end
section
variable {K : PySem.W.Frag} {σ : St} {H : Hp} {Q : VK} {g : TG} {tc : TT} {te : TE}
end
section
variable {X : Cx}
end
noncomputable def lessN (os : List Nat) (f : Nat) : Nat := os.countP fun x => decide (x < f)
theorem perm_full {xs ys : List Nat} (h : xs.Nodup) (hs : ∀ x ∈ xs, x ∈ ys) (hl : ys.length ≤ xs.length) : xs.Perm ys := by
  induction xs generalizing ys with
  | nil => cases ys with
    | nil => exact List.Perm.refl _
    | cons y r => simp at hl
  | cons x xs ih =>
    have hx : x ∈ ys := hs x (List.mem_cons_self ..)
    have hp := List.perm_cons_erase hx
    refine List.Perm.trans (List.Perm.cons x (ih (List.nodup_cons.mp h).2 (fun z hz => ?_) ?_)) hp.symm
    · have : z ≠ x := fun e => (List.nodup_cons.mp h).1 (e ▸ hz)
      exact (List.mem_erase_of_ne this).mpr (hs z (List.mem_cons_of_mem _ hz))
    · rw [List.length_erase_of_mem hx]; simp at hl; omega
theorem sum_castN (ns : List Nat) : (ns.map fun x : Nat => (x : Int)).sum = ((ns.sum : Nat) : Int) := by
  induction ns with
  | nil => rfl
  | cons x xs ih => simp [ih]
end L2

namespace HT
open PySem PyProof.Rows
section
open PySem.SeqAt
open PySem.AutoSeq1 (wpAny_loadPart')
open PySem.MeetsSeq PySem.MeetsSeq2 PySem.MeetsSeq3

end

section
variable {prog : Program} {w : World} {A : Around} {E : Value → Shared → Prop} {s : Shared}

end
end HT
namespace L2
open PySem PySem.Spec PyProof.Rows
section
variable {X : Cx} {e e2 o : Expr} {to te : TE} {t : TA} {pos apos cpos : Pos}
end
theorem all_of {P : PyData → Bool} {PA : List PyData → Bool} (h0 : PA [] = true) (h1 : ∀ x xs, PA (x :: xs) = (P x && PA xs)) : ∀ {ds : List PyData}, (∀ d ∈ ds, P d = true) → PA ds = true
  | [], _ => h0
  | d :: ds, h => by rw [h1, h d (List.mem_cons_self ..), all_of h0 h1 fun x hx => h x (List.mem_cons_of_mem _ hx)]; rfl
theorem depthAll_le {n : Nat} : ∀ {ds : List PyData}, (∀ d ∈ ds, d.depth ≤ n) → PyData.depthAll ds ≤ n
  | [], _ => Nat.zero_le _
  | d :: ds, h => by
    show max d.depth (PyData.depthAll ds) ≤ n
    have h1 := h d (List.mem_cons_self ..)
    have h2 := depthAll_le (ds := ds) fun x hx => h x (List.mem_cons_of_mem _ hx)
    omega
section
variable {X : Cx} {pins : List (Addr × Obj)} {σ : St} {H : Hp} {s : Shared}
theorem readsAll_of {R : V → PyData → Prop} {h : Heap} (hR : ∀ x v d, R x d → RelV x v → ∃ as, Reads h v d as) : ∀ {xs : List V} {its : List Value} {ds : List PyData}, Vals xs its → xs.length = ds.length → (∀ (i : Nat) u e, xs[i]? = some u → ds[i]? = some e → R u e) → ∃ as, ReadsAll h its ds as
  | _, _, [], .nil, _, _ => ⟨[], .nil⟩
  | _, _, d :: ds, .cons r rr, hl, hi => by
    obtain ⟨as, h1⟩ := hR _ _ d (hi 0 _ d rfl rfl) r
    obtain ⟨bs, h2⟩ := readsAll_of hR rr (by simpa using hl) fun i u e e1 e2 => hi (i + 1) u e e1 e2
    exact ⟨as ++ bs, .cons h1 h2⟩
  | _, _, _ :: _, .nil, hl, _ => by simp at hl
  | _, _, [], .cons _ _, hl, _ => by simp at hl
end
section
variable {K : PySem.W.Frag} {σ : St} {H : Hp} {Q : VK}
end
end L2

namespace L2
open PySem PySem.Spec PyProof.Rows
noncomputable def castL (a : List Nat) : List Int := a.map fun x : Nat => (x : Int)
noncomputable def lxt (a b : List Nat) : Bool := HT.lexLt (castL a) (castL b)
theorem lxt_cons (x y : Nat) (a b : List Nat) : lxt (x :: a) (y :: b) = if x = y then lxt a b else decide (x < y) := by
  unfold lxt castL
  rw [List.map_cons, List.map_cons, HT.lexLt_cons]
  by_cases h : x = y
  · rw [if_pos h, if_pos (by rw [h])]
  · rw [if_neg h, if_neg (by omega)]
    exact decide_eq_decide.mpr (by omega)
theorem lxt_irrefl (a : List Nat) : lxt a a = false := by
  induction a with
  | nil => rfl
  | cons x a ih => rw [lxt_cons, if_pos rfl, ih]
theorem lxt_trans {a b c : List Nat} (h1 : lxt a b = true) (h2 : lxt b c = true) : lxt a c = true := by
  induction a generalizing b c with
  | nil =>
    cases b with
    | nil => cases h1
    | cons y b => cases c with
      | nil => cases h2
      | cons z c => rfl
  | cons x a ih =>
    cases b with
    | nil => cases h1
    | cons y b =>
      cases c with
      | nil => cases h2
      | cons z c =>
        rw [lxt_cons] at h1 h2 ⊢
        by_cases e1 : x = y
        · subst e1
          rw [if_pos rfl] at h1
          by_cases e2 : x = z
          · rw [if_pos e2] at h2 ⊢; exact ih h1 h2
          · rw [if_neg e2] at h2 ⊢; exact h2
        · rw [if_neg e1] at h1
          have h1 := of_decide_eq_true h1
          by_cases e2 : y = z
          · subst e2; rw [if_neg e1]; exact decide_eq_true h1
          · rw [if_neg e2] at h2
            have h2 := of_decide_eq_true h2
            rw [if_neg (by omega)]; exact decide_eq_true (by omega)
theorem lxt_tri (a b : List Nat) : lxt a b = true ∨ a = b ∨ lxt b a = true := by
  induction a generalizing b with
  | nil => cases b with
    | nil => exact .inr (.inl rfl)
    | cons y b => exact .inl rfl
  | cons x a ih =>
    cases b with
    | nil => exact .inr (.inr rfl)
    | cons y b =>
      rw [lxt_cons, lxt_cons]
      by_cases e : x = y
      · subst e
        rw [if_pos rfl, if_pos rfl]
        rcases ih b with h | h | h
        · exact .inl h
        · exact .inr (.inl (by rw [h]))
        · exact .inr (.inr h)
      · rw [if_neg e, if_neg (Ne.symm e)]
        rcases Nat.lt_or_gt_of_ne e with h | h
        · exact .inl (decide_eq_true h)
        · exact .inr (.inr (decide_eq_true h))
theorem lxt_asymm {a b : List Nat} (h1 : lxt a b = true) (h2 : lxt b a = true) : False := by
  have := lxt_trans h1 h2
  rw [lxt_irrefl] at this; cases this
noncomputable def Rk (rss : List (List Nat)) (c i j : Nat) : Prop := lxt ((rss.getD i []).drop c) ((rss.getD j []).drop c) = true ∨ ((rss.getD i []).drop c = (rss.getD j []).drop c ∧ i < j)
theorem Rk.asymm {rss : List (List Nat)} {c i j : Nat} (h1 : Rk rss c i j) (h2 : Rk rss c j i) : False := by
  rcases h1 with h1 | ⟨e1, l1⟩
  · rcases h2 with h2 | ⟨e2, l2⟩
    · exact lxt_asymm h1 h2
    · rw [e2, lxt_irrefl] at h1; cases h1
  · rcases h2 with h2 | ⟨e2, l2⟩
    · rw [e1, lxt_irrefl] at h2; cases h2
    · omega
theorem sorted_one {α : Type} {R : α → α → Prop} (ha : ∀ a b, R a b → R b a → False) : ∀ {xs ys : List α}, xs.Perm ys → xs.Pairwise R → ys.Pairwise R → xs = ys
  | [], ys, hp, _, _ => by have := hp.length_eq; exact (List.length_eq_zero_iff.mp this.symm).symm
  | x :: xs, [], hp, _, _ => by have := hp.length_eq; simp at this
  | x :: xs, y :: ys, hp, h1, h2 => by
    have e : x = y := by
      rcases List.mem_cons.mp (hp.mem_iff.mp (List.mem_cons_self ..)) with h | h
      · exact h
      · rcases List.mem_cons.mp (hp.mem_iff.mpr (List.mem_cons_self ..)) with g | g
        · exact g.symm
        · exact (ha x y ((List.pairwise_cons.mp h1).1 y g) ((List.pairwise_cons.mp h2).1 x h)).elim
    subst e
    rw [sorted_one ha (List.perm_cons x |>.mp hp) (List.pairwise_cons.mp h1).2 (List.pairwise_cons.mp h2).2]
end L2

namespace L2
open PySem PySem.Spec PyProof.Rows
section
variable {X : Cx} {o a b e : Expr} {to ta tb te : TE} {pos p2 tpos : Pos}
noncomputable def gSlA (to ta tb : TE) : TG := fun v σ H R => to σ H fun x H1 => ta σ H1 fun y H2 => tb σ H2 fun z H3 => ∃ (l c : Addr) (xs ys : List V) (i j : Int), x = .ref l ∧ v = .ref c ∧ y = .int i ∧ z = .int j ∧ H3 l = some (.lst xs) ∧ H3 c = some (.lst ys) ∧ l ≠ c ∧ 0 ≤ i ∧ i ≤ j ∧ j ≤ xs.length ∧ xs.length + ys.length ≤ sizeLine ∧ R σ (upd H3 l (.lst (xs.take i.toNat ++ ys ++ xs.drop j.toNat)))
end
section
variable {K : PySem.W.Frag} {σ : St} {H : Hp} {Q : VK} {D : Ends}
theorem in_gslA {to ta tb : TE} {v : V} {R : St → Hp → Prop} (h : to σ H fun x H1 => ta σ H1 fun y H2 => tb σ H2 fun z H3 => ∃ (l c : Addr) (xs ys : List V) (i j : Int), x = .ref l ∧ v = .ref c ∧ y = .int i ∧ z = .int j ∧ H3 l = some (.lst xs) ∧ H3 c = some (.lst ys) ∧ l ≠ c ∧ 0 ≤ i ∧ i ≤ j ∧ j ≤ xs.length ∧ xs.length + ys.length ≤ sizeLine ∧ R σ (upd H3 l (.lst (xs.take i.toNat ++ ys ++ xs.drop j.toNat)))) : gSlA to ta tb v σ H R := h
theorem in_cont (h : D.ct σ H) : tCont D σ H := h
end
noncomputable abbrev Str3 := Nat × Nat × Nat
end L2

namespace L2
open PySem PySem.Spec PyProof.Rows
noncomputable def Sc (v : V) : Prop := v = .non ∨ (∃ b, v = .bl b) ∨ (∃ i, v = .int i) ∨ ∃ x, v = .str x
section
variable {X : Cx} {e e2 o : Expr} {to te : TE} {t : TA} {pos apos cpos : Pos}
inductive TyC (H : Hp) : V → Value → Prop where
  | non : TyC H .non (.type "NoneType")
  | bl (b : Bool) : TyC H (.bl b) (.type "bool")
  | int (i : Int) : TyC H (.int i) (.type "int")
  | str (x : Str) : TyC H (.str x) (.type "str")
  | lst {a : Addr} {xs : List V} (e : H a = some (.lst xs)) : TyC H (.ref a) (.type "list")
  | tup {a : Addr} {xs : List V} (e : H a = some (.tup xs)) : TyC H (.ref a) (.type "tuple")
noncomputable def rIsiC (K : PySem.W.Frag) : RC := fun xs H Q => ∃ x t tp b, xs = [x, .ref tp] ∧ H tp = some (.tup [.ty "list", .ty "tuple"]) ∧ TyC H x t ∧ PySem.W.kitAny K t [.type "list", .type "tuple"] = some b ∧ Q (.bl b) H
theorem qc_isiC {K : PySem.W.Frag} (hK : X.K = K := by rfl) : QC X (.builtin "isinstance") (rIsiC K) := by
  subst hK
  refine ⟨fun pins s σ H xs us Q I r h => ?_⟩
  obtain ⟨x, t, tp, b, rfl, htp, ty, e, q⟩ := h
  cases r with
  | cons rx rr =>
    cases rr with
    | cons ry rr =>
      cases rr
      cases ry
      obtain ⟨_, its, rv, ⟨⟨c, dd, dt, sl⟩, g1, g2, n, g3⟩⟩ := (show ObjOk X.prog X.w H s.heap tp (.tup [.ty "list", .ty "tuple"]) from I.hok tp _ htp)
      have g2' : c = .type "tuple" := g2
      have g3' : dt = .seq its.toArray n := g3
      subst g2' g3'
      have ei : its = [.type "list", .type "tuple"] := by
        cases rv with
        | cons r1 rr =>
          cases rr with
          | cons r2 rr =>
            cases rr
            cases r1; cases r2; rfl
      subst ei
      have fin : ∀ tk, EP X pins σ Q (.bool b) { s with toks := tk } := fun tk => ⟨.bl b, H, I.tok _, rfl, q⟩
      cases ty with
      | non => cases (show _ = Value.none from rx); exact PySem.W.kia_tup PySem.W.kitx_none I.kIn True.intro g1 e (fun z => nomatch z) fin
      | bl i => cases (show _ = Value.bool i from rx); exact PySem.W.kia_tup PySem.W.kitx_bool I.kIn True.intro g1 e (fun z => nomatch z) fin
      | int i => obtain ⟨tt, rfl⟩ := rx; exact PySem.W.kia_tup PySem.W.kitx_int I.kIn True.intro g1 e (fun z => nomatch z) fin
      | str i => obtain ⟨tt, rfl⟩ := rx; exact PySem.W.kia_tup PySem.W.kitx_str I.kIn True.intro g1 e (fun z => nomatch z) fin
      | @lst a xs ea =>
        cases rx
        obtain ⟨_, _, n', _, h1⟩ := (show ObjOk X.prog X.w H s.heap a (.lst xs) from I.hok a _ ea)
        exact PySem.W.kia_tup PySem.W.kitx_list I.kIn ⟨_, h1, rfl⟩ g1 e (fun z => nomatch z) fin
      | @tup a xs ea =>
        cases rx
        obtain ⟨_, _, _, ⟨o', h1, h2, _⟩⟩ := (show ObjOk X.prog X.w H s.heap a (.tup xs) from I.hok a _ ea)
        exact PySem.W.kia_tup PySem.W.kitx_tuple I.kIn ⟨_, h1, h2⟩ g1 e (fun z => nomatch z) fin
theorem list_extend_tup (l : Addr) (items : Array Value) (n : Nat) (b : Addr) (items2 : Array Value) (n2 : Nat) (dd2 : Option Addr) (sl2 : Array (Option Value)) (hlong : ¬ (!items.isEmpty && Builtin.List.listTooLong (items.size + items2.size)) = true) (hz : items.size ≤ sizeLine) (hz2 : items.size + items2.size ≤ sizeLine + 1) :
    Meets (Builtin.«list.extend» ⟨[.ref l, .ref b], []⟩)
      (fun _ R s => s.heap.get? l = some { cls := .type "list", data := .seq items n } ∧ s.heap.get? b = some { cls := .type "tuple", dict := dd2, data := .seq items2 n2, slots := sl2 } ∧
        R (.ok (.ret .none)) { s with heap := s.heap.update l (Obj.mapSeq fun x => x ++ items2) }) :=
  .of_wp fun prog w A R s h => by
    obtain ⟨hp, g, d, tk, os⟩ := s; obtain ⟨hl, hb, h⟩ := h
    have f2 := AutoSeq1.sub_tuple_tuple
    wp_walk using PySem.AutoSeq1.wpAny_loadPart' hl, PySem.AutoSeq1.wpAny_loadPart' hb
    have e9 : (Obj.mapSeq (fun x => x ++ items2) { cls := Value.type "list", data := Data.seq items n }).data.pastItsLine = none := by
      unfold Obj.mapSeq Data.pastItsLine
      simp
      omega
    rw [e9]
    exact wpAny_pure (wpAny_pure ⟨_, rfl, h⟩)
noncomputable def rExtendT : V → List V → Hp → VK → Prop := fun x vs H Q => ∃ l b xs zs, x = .ref l ∧ vs = [.ref b] ∧ H l = some (.lst xs) ∧ H b = some (.tup zs) ∧ xs.length + zs.length ≤ sizeLine ∧ Q .non (upd H l (.lst (xs ++ zs)))
theorem mt_extendT : MtM X "list.extend" rExtendT := by
  intro pins s σ H x vs v us Q I rx rv h
  obtain ⟨l, b, xs, zs, rfl, rfl, hH, hB, hz, q⟩ := h
  cases rx
  obtain ⟨u, rfl, ru⟩ := rv.one
  cases ru
  obtain ⟨z, its, n, r, hl, e⟩ := I.lstM hH
  obtain ⟨its2, r2, ⟨⟨c2, d2, t2, l2⟩, o4, o5, n2, o6⟩, hz2⟩ := I.tuple (SqT.of hB)
  have hl2 := r2.length
  have o5' : c2 = .type "tuple" := o5
  have o6' : t2 = .seq its2.toArray n2 := o6
  subst o5' o6'
  have hsz : its.toArray.size + its2.toArray.size ≤ sizeLine := by rw [List.size_toArray, List.size_toArray]; omega
  have hlong : ¬ (!its.toArray.isEmpty && Builtin.List.listTooLong (its.toArray.size + its2.toArray.size)) = true := by
    rw [notLongL hsz, Bool.and_false]
    exact Bool.false_ne_true
  refine call_meets F.slot_list_extend ⟨_, e, rfl⟩ F.entry_list_extend (F.args_list_extend_2 _ _)
    (list_extend_tup l its.toArray n b its2.toArray n2 d2 l2 hlong (by rw [List.size_toArray]; omega) (by omega)) ⟨e, o4, ?_⟩
  refine ⟨.non, _, I.lset (its' := its ++ its2) hH e (by simp) (r.append r2) ?_, rfl, q⟩
  rw [List.length_append]
  omega
theorem qe_extendT {K : PySem.W.Frag} (ho : QE X o to) (ha : QA X [e] t) (hbase : attributeBase o ("extend" : Str) X.env (eval o X.env) = eval o X.env := by rfl) (hline : (apos.endLine == cpos.line) = true := by rfl) (hn : nstar e = true := by rfl) (hK : X.K = K := by rfl) :
    QE X (.Call (.Attribute o "extend" apos) [e] [] cpos) (tBM K "list" rExtendT to t) := by subst hK; exact ⟨pe_bmN PySem.F.plainAttrs_list PySem.F.slot_list_extend PySem.F.type_list_extend mt_extendT ho.out ha.out hbase hline hn⟩
end
section
variable {K : PySem.W.Frag} {σ : St} {H : Hp} {Q : VK}
theorem in_isiC0 {x : V} {tp : Addr} (e : H tp = some (.tup [.ty "list", .ty "tuple"])) (hx : Sc x) (h : Q (.bl false) H) : rIsiC K [x, .ref tp] H Q := by
  rcases hx with rfl | ⟨b, rfl⟩ | ⟨i, rfl⟩ | ⟨s, rfl⟩
  · exact ⟨_, _, tp, _, rfl, e, .non, rfl, h⟩
  · exact ⟨_, _, tp, _, rfl, e, .bl b, rfl, h⟩
  · exact ⟨_, _, tp, _, rfl, e, .int i, rfl, h⟩
  · exact ⟨_, _, tp, _, rfl, e, .str s, rfl, h⟩
theorem in_isiCT {p tp : Addr} {xs : List V} (s : H p = some (.tup xs)) (e : H tp = some (.tup [.ty "list", .ty "tuple"])) (h : Q (.bl true) H) : rIsiC K [.ref p, .ref tp] H Q := ⟨_, _, tp, _, rfl, e, .tup s, rfl, h⟩
theorem in_isi0L {x : V} (hx : Sc x) (h : Q (.bl false) H) : rIsi K [x, .ty "list"] H Q := by
  rcases hx with rfl | ⟨b, rfl⟩ | ⟨i, rfl⟩ | ⟨s, rfl⟩
  · exact ⟨_, _, _, _, rfl, .non, rfl, h⟩
  · exact ⟨_, _, _, _, rfl, .bl b, rfl, h⟩
  · exact ⟨_, _, _, _, rfl, .int i, rfl, h⟩
  · exact ⟨_, _, _, _, rfl, .str s, rfl, h⟩
theorem in_isi0T {x : V} (hx : Sc x) (h : Q (.bl false) H) : rIsi K [x, .ty "tuple"] H Q := by
  rcases hx with rfl | ⟨b, rfl⟩ | ⟨i, rfl⟩ | ⟨s, rfl⟩
  · exact ⟨_, _, _, _, rfl, .non, rfl, h⟩
  · exact ⟨_, _, _, _, rfl, .bl b, rfl, h⟩
  · exact ⟨_, _, _, _, rfl, .int i, rfl, h⟩
  · exact ⟨_, _, _, _, rfl, .str s, rfl, h⟩
theorem in_isiBB {b : Bool} (h : Q (.bl true) H) : rIsi K [.bl b, .ty "bool"] H Q := ⟨_, _, _, _, rfl, .bl b, rfl, h⟩
theorem in_isiSB {x : Str} (h : Q (.bl false) H) : rIsi K [.str x, .ty "bool"] H Q := ⟨_, _, _, _, rfl, .str x, rfl, h⟩
theorem in_isiSS {x : Str} (h : Q (.bl true) H) : rIsi K [.str x, .ty "str"] H Q := ⟨_, _, _, _, rfl, .str x, rfl, h⟩
theorem in_eqB {x y : Bool} (h : Q (.bl (decide (V.bl x = V.bl y))) H) : rEq (.bl x) (.bl y) H Q := ⟨rfl, h⟩
theorem in_extendT {l c : Addr} {xs ys : List V} (h1 : H l = some (.lst xs)) (h2 : H c = some (.tup ys)) (hz : xs.length + ys.length ≤ sizeLine) (h : Q .non (upd H l (.lst (xs ++ ys)))) : rExtendT (.ref l) [.ref c] H Q := ⟨l, c, xs, ys, rfl, rfl, h1, h2, hz, h⟩
end
end L2

namespace L2
open PySem PySem.Spec PyProof.Rows
noncomputable def It2 (n : Nat) : It := ⟨fun i _ => i < (n + 1) / 2, fun i H x H' => H' = H ∧ x = .int ((2 * i : Nat) : Int), fun i _ => (n + 1) / 2 ≤ i⟩
section
variable {X : Cx} {tg a b c : Expr} {t : TA} {p pos : Pos}
noncomputable def iRngS (t : TA) : TI := fun σ H R => t σ H fun vs H1 => ∃ n : Nat, vs = [.int 0, .int (n : Nat), .int 2] ∧ n ≤ 1000 ∧ R (It2 n) H1
end
theorem in_rngS {σ : St} {H : Hp} {t : TA} {R : It → Hp → Prop} (h : t σ H fun vs H1 => ∃ n : Nat, vs = [.int 0, .int (n : Nat), .int 2] ∧ n ≤ 1000 ∧ R (It2 n) H1) : iRngS t σ H R := h
section
variable {X : Cx} {e o b : Expr} {to tb te : TE} {pos tpos : Pos}
end
end L2
namespace HT
open PySem PyProof.Rows L2
section
variable {prog : Program} {w : World} {A : Around} {E : Value → Shared → Prop} {s : Shared}
end
end HT
namespace L2
open PySem PySem.Spec PyProof.Rows
section
variable {X : Cx} {tg a b : Expr} {t : TA} {p pos : Pos}
noncomputable def rSlTA : V → Option Int → Option Int → Hp → VK → Prop := fun x lo hi H Q => ∃ a xs, x = .ref a ∧ H a = some (.tup xs) ∧ ∀ p H', Same H H' → H' p = some (.tup (cutV xs lo hi)) → Q (.ref p) H'
end
section
variable {K : PySem.W.Frag} {σ : St} {H : Hp} {Q : VK}
theorem in_rng2 {t : TA} {R : It → Hp → Prop} (h : t σ H fun vs H1 => ∃ i j : Int, vs = [.int i, .int j] ∧ (-(2 ^ 62) ≤ i ∧ i < 2 ^ 62 ∧ -(2 ^ 62) ≤ j ∧ j < 2 ^ 62) ∧ R (Itr i (j - i).toNat) H1) : iRng2 t σ H R := h
end
end L2

namespace L2
open PySem PySem.Spec PyProof.Rows
noncomputable def brk (rss : List (List Nat)) (k : Nat) : Bool := lxt (rss.getD k []) (rss.getD (k - 1) [])
end L2

namespace L2
open PySem PySem.Spec PyProof.Rows PySem.W
noncomputable def Sat (N : Nat) (lt : Nat → Nat → Bool) {α : Type} : KasT α → (α → Prop) → Prop
  | .ret a, R => R a
  | .ask i j k, R => i < N ∧ j < N ∧ Sat N lt (k (lt i j)) R
theorem Sat.mono {N : Nat} {lt : Nat → Nat → Bool} {α : Type} {R R' : α → Prop} (hR : ∀ a, R a → R' a) : ∀ (t : KasT α), Sat N lt t R → Sat N lt t R'
  | .ret _, h => hR _ h
  | .ask i j k, h => ⟨h.1, h.2.1, Sat.mono hR (k (lt i j)) h.2.2⟩
theorem Sat.bind {N : Nat} {lt : Nat → Nat → Bool} {α β : Type} {R : α → Prop} {R' : β → Prop} {f : α → KasT β} (hf : ∀ a, R a → Sat N lt (f a) R') : ∀ (t : KasT α), Sat N lt t R → Sat N lt (t.bind f) R'
  | .ret a, h => hf a h
  | .ask i j k, h => ⟨h.1, h.2.1, Sat.bind hf (k (lt i j)) h.2.2⟩
theorem Sat.wp {N : Nat} {lt : Nat → Nat → Bool} {α : Type} {R : α → Prop} {I : Shared → Prop} {cmp : Nat → Nat → (Bool → Shared → Prop) → Shared → Prop}
    (hc : ∀ i j (C : Bool → Shared → Prop) s, i < N → j < N → I s → (∀ s', I s' → C (lt i j) s') → cmp i j C s) {Q : α → Shared → Prop} :
    ∀ (t : KasT α) (s : Shared), Sat N lt t R → I s → (∀ a s', R a → I s' → Q a s') → t.kasWp cmp Q s
  | .ret a, s, h, hi, hq => hq a s h hi
  | .ask i j k, s, h, hi, hq => hc i j _ s h.1 h.2.1 hi fun s' hi' => Sat.wp hc (k (lt i j)) s' h.2.2 hi' hq

structure Lt (lt : Nat → Nat → Bool) : Prop where
  asym : ∀ i j, lt i j = true → lt j i = false
  tr : ∀ i j k, lt i j = false → lt j k = false → lt i k = false
noncomputable def Ah (lt : Nat → Nat → Bool) (i j : Nat) : Prop := lt j i = false ∧ (lt i j = false → i < j)
theorem Ah.of_lt {lt : Nat → Nat → Bool} (H : Lt lt) {i j : Nat} (h : lt i j = true) : Ah lt i j := ⟨H.asym i j h, fun h' => by rw [h] at h'; cases h'⟩
theorem Ah.trans {lt : Nat → Nat → Bool} (H : Lt lt) {i j k : Nat} (a : Ah lt i j) (b : Ah lt j k) : Ah lt i k := by
  refine ⟨H.tr k j i b.1 a.1, fun h => ?_⟩
  have h1 : lt i j = false := H.tr i k j h b.1
  have h2 : lt j k = false := H.tr j i k a.1 h
  exact Nat.lt_trans (a.2 h1) (b.2 h2)
theorem lt_true {lt : Nat → Nat → Bool} (H : Lt lt) {i j k : Nat} (h : lt i j = true) (h' : lt k j = false) : lt i k = true := by
  cases e : lt i k with
  | true => rfl
  | false => rw [H.tr i k j e h'] at h; cases h
theorem lt_true' {lt : Nat → Nat → Bool} (H : Lt lt) {i j k : Nat} (h : lt i j = true) (h' : lt i k = false) : lt k j = true := by
  cases e : lt k j with
  | true => rfl
  | false => rw [H.tr i k j h' e] at h; cases h

section
variable {N : Nat} {lt : Nat → Nat → Bool}
structure Pm (N : Nat) (p : Array Nat) : Prop where
  sz : p.size = N
  bd : ∀ i, i < N → p.getD i 0 < N
  inj : ∀ i j, i < N → j < N → p.getD i 0 = p.getD j 0 → i = j
theorem pm_of {p : Array Nat} (h : p.Perm (List.toArray (List.range N))) : Pm N p := by
  have hp : p.toList.Perm (List.range N) := by simpa using Array.perm_iff_toList_perm.mp h
  have hs : p.size = N := by rw [← Array.length_toList, hp.length_eq, List.length_range]
  have hn : p.toList.Nodup := hp.nodup_iff.mpr List.nodup_range
  refine ⟨hs, fun i hi => ?_, fun i j hi hj e => ?_⟩
  · have hi' : i < p.size := by omega
    have : p[i] ∈ p.toList := Array.mem_toList_iff.mpr (Array.getElem_mem hi')
    have h2 := hp.mem_iff.mp this
    rw [show p.getD i 0 = p[i] by simp [Array.getD, hi']]
    exact List.mem_range.mp h2
  · have hi' : i < p.size := by omega
    have hj' : j < p.size := by omega
    rw [show p.getD i 0 = p[i] by simp [Array.getD, hi'], show p.getD j 0 = p[j] by simp [Array.getD, hj']] at e
    have e' : p.toList[i]'(by simpa using hi') = p.toList[j]'(by simpa using hj') := by simpa using e
    have hq := List.pairwise_iff_getElem.mp hn
    rcases Nat.lt_trichotomy i j with x | x | x
    · exact absurd e' (hq i j _ _ x)
    · exact x
    · exact absurd e'.symm (hq j i _ _ x)
theorem getD_rev {p : Array Nat} {i j : Nat} (hj : j ≤ p.size) (k : Nat) : (kas_rev p i j).getD k 0 = if i ≤ k ∧ k < j then p.getD (i + j - 1 - k) 0 else p.getD k 0 := by
  have h := getElem?_mirror_all (i := i) hj k
  rw [Array.getD_eq_getD_getElem?, Array.getD_eq_getD_getElem?, Array.getD_eq_getD_getElem?]
  show ((mirror p i j ((j - i) / 2))[k]?).getD 0 = _
  rw [h]
  split <;> rfl
theorem getD_bub {p : Array Nat} {k l : Nat} (hk : k < p.size) (hl : l ≤ k) (i : Nat) : (bubble p k (k - l)).getD i 0 = if i = l then p.getD k 0 else if l < i ∧ i ≤ k then p.getD (i - 1) 0 else p.getD i 0 := by
  have h := getElem?_bubble hk (k - l) (by omega) i
  have e : k - (k - l) = l := by omega
  rw [e] at h
  simp only [Array.getD_eq_getD_getElem?]
  rw [h]
  repeat' split
  all_goals rfl
theorem rev_perm {p : Array Nat} (i j : Nat) (h : p.Perm (List.toArray (List.range N))) : (kas_rev p i j).Perm (List.toArray (List.range N)) := (mirror_perm _ _ _ _).trans h
theorem bub_perm {p : Array Nat} (i j : Nat) (h : p.Perm (List.toArray (List.range N))) : (bubble p i j).Perm (List.toArray (List.range N)) := (bubble_perm _ _ _).trans h
noncomputable def Tl (N : Nat) (p : Array Nat) (m : Nat) : Prop := ∀ i, m ≤ i → i < N → p.getD i 0 = i
theorem Pm.lo {p : Array Nat} (P : Pm N p) {m i : Nat} (T : Tl N p m) (hi : i < m) (hm : m ≤ N) : p.getD i 0 < m := by
  rcases Nat.lt_or_ge (p.getD i 0) m with h | h
  · exact h
  · have h2 := T _ h (P.bd i (by omega))
    have := P.inj _ _ (P.bd i (by omega)) (by omega) h2
    omega
noncomputable def Up (lt : Nat → Nat → Bool) (p : Array Nat) (m : Nat) : Prop := ∀ i, 0 < i → i < m → Ah lt (p.getD (i - 1) 0) (p.getD i 0)
theorem Up.all (H : Lt lt) {p : Array Nat} {m : Nat} (U : Up lt p m) : ∀ d i, i + d + 1 < m → Ah lt (p.getD i 0) (p.getD (i + d + 1) 0)
  | 0, i, h => U (i + 1) (by omega) h
  | d + 1, i, h => (Up.all H U d i (by omega)).trans H (U (i + d + 1 + 1) (by omega) h)
theorem Up.at (H : Lt lt) {p : Array Nat} {m i j : Nat} (U : Up lt p m) (h : i < j) (hj : j < m) : Ah lt (p.getD i 0) (p.getD j 0) := by
  have := U.all H (j - i - 1) i (by omega)
  rw [show i + (j - i - 1) + 1 = j by omega] at this
  exact this

theorem sat_asc {p : Array Nat} (hb : ∀ i, i < N → p.getD i 0 < N) : ∀ (f n : Nat), 1 ≤ n → n + f ≤ N →
    Sat N lt (kas_asc p f n) (fun m => n ≤ m ∧ m ≤ n + f ∧ (∀ i, n ≤ i → i < m → lt (p.getD i 0) (p.getD (i - 1) 0) = false) ∧ (m < n + f → lt (p.getD m 0) (p.getD (m - 1) 0) = true))
  | 0, n, _, _ => ⟨Nat.le_refl _, Nat.le_refl _, fun i a b => by omega, fun h => by omega⟩
  | f + 1, n, h1, hN => by
    refine ⟨hb _ (by omega), hb _ (by omega), ?_⟩
    cases e : lt (p.getD n 0) (p.getD (n - 1) 0) with
    | true =>
      simp only [if_true]
      exact ⟨Nat.le_refl _, by omega, fun i a b => by omega, fun _ => e⟩
    | false =>
      simp only [Bool.false_eq_true, if_false]
      refine Sat.mono (fun m hm => ?_) _ (sat_asc hb f (n + 1) (by omega) (by omega))
      obtain ⟨a, b, c, d⟩ := hm
      refine ⟨by omega, by omega, fun i hi him => ?_, fun h => d (by omega)⟩
      rcases Nat.eq_or_lt_of_le hi with rfl | h
      · exact e
      · exact c i h him

structure Dn (N : Nat) (lt : Nat → Nat → Bool) (p : Array Nat) (n q : Nat) : Prop where
  perm : p.Perm (List.toArray (List.range N))
  tl : Tl N p n
  fall : ∀ i, 0 < i → i + (q + 1) < n → Ah lt (p.getD i 0) (p.getD (i - 1) 0)
  like : ∀ i, n ≤ i + q → i < n → Ah lt (p.getD (i - 1) 0) (p.getD i 0) ∧ lt (p.getD (i - 1) 0) (p.getD i 0) = false
  join : ∀ i, 0 < i → i + (q + 1) = n → lt (p.getD i 0) (p.getD (i - 1) 0) = true
  len : q + 1 ≤ n
  top : n ≤ N
theorem Dn.alike (H : Lt lt) {p : Array Nat} {n q : Nat} (D : Dn N lt p n q) : ∀ d i j, i + d = j → n ≤ i + q + 1 → j < n → lt (p.getD i 0) (p.getD j 0) = false ∧ lt (p.getD j 0) (p.getD i 0) = false
  | 0, i, j, e, h1, h2 => by
    have : i = j := by omega
    subst this
    cases e : lt (p.getD i 0) (p.getD i 0) with
    | false => exact ⟨rfl, rfl⟩
    | true => have := H.asym _ _ e; rw [e] at this; cases this
  | d + 1, i, j, e, h1, h2 => by
    obtain ⟨a, b⟩ := Dn.alike H D d i (j - 1) (by omega) h1 (by omega)
    obtain ⟨⟨c, _⟩, c'⟩ := D.like j (by omega) h2
    exact ⟨H.tr _ _ _ a c', H.tr _ _ _ c b⟩
theorem Dn.turn (H : Lt lt) {p : Array Nat} {n q : Nat} (D : Dn N lt p n q) : Tl N (kas_rev p (n - (q + 1)) n) n ∧ (∀ i, 0 < i → i < n → Ah lt ((kas_rev p (n - (q + 1)) n).getD i 0) ((kas_rev p (n - (q + 1)) n).getD (i - 1) 0)) ∧
    (∀ x, lt x (p.getD (n - 1) 0) = true → lt x ((kas_rev p (n - (q + 1)) n).getD (n - 1) 0) = true) := by
  have P := pm_of D.perm
  have hn : n ≤ p.size := by rw [P.sz]; exact D.top
  have hl := D.len
  refine ⟨fun i h1 h2 => ?_, fun i h1 h2 => ?_, fun x hx => ?_⟩
  · rw [getD_rev hn, if_neg (by omega)]; exact D.tl i h1 h2
  · rw [getD_rev hn, getD_rev hn]
    by_cases c1 : n - (q + 1) ≤ i
    · rw [if_pos ⟨c1, h2⟩]
      by_cases c2 : n - (q + 1) ≤ i - 1
      · rw [if_pos ⟨c2, by omega⟩]
        have := (D.like (n - (q + 1) + n - 1 - (i - 1)) (by omega) (by omega)).1
        rw [show n - (q + 1) + n - 1 - (i - 1) - 1 = n - (q + 1) + n - 1 - i by omega] at this
        exact this
      · rw [if_neg (by omega)]
        have ei : i = n - (q + 1) := by omega
        rw [show n - (q + 1) + n - 1 - i = n - 1 by omega]
        have j := D.join i h1 (by omega)
        have k := (D.alike H (n - 1 - i) i (n - 1) (by omega) (by omega) (by omega)).1
        exact Ah.of_lt H (lt_true' H j k)
    · rw [if_neg (by omega), if_neg (by omega)]
      exact D.fall i h1 (by omega)
  · rw [getD_rev hn, if_pos (by omega), show n - (q + 1) + n - 1 - (n - 1) = n - (q + 1) by omega]
    have k := (D.alike H (n - 1 - (n - (q + 1))) (n - (q + 1)) (n - 1) (by omega) (by omega) (by omega)).1
    exact lt_true H hx k

theorem sat_desc (H : Lt lt) : ∀ (f : Nat) (p : Array Nat) (n q : Nat), Dn N lt p n q → n + f ≤ N →
    Sat N lt (kas_desc f p n q) (fun r => Dn N lt r.1 r.2.1 r.2.2)
  | 0, p, n, q, D, _ => D
  | f + 1, p, n, q, D, hN => by
    have P := pm_of D.perm
    have hl := D.len
    have hn : n ≤ p.size := by rw [P.sz]; exact D.top
    refine ⟨P.bd _ (by omega), P.bd _ (by omega), ?_⟩
    cases e : lt (p.getD n 0) (p.getD (n - 1) 0) with
    | true =>
      simp only [if_true]
      have step : ∀ p' : Array Nat, p'.Perm (List.toArray (List.range N)) → Tl N p' n → (∀ i, 0 < i → i < n → Ah lt (p'.getD i 0) (p'.getD (i - 1) 0)) → lt (p'.getD n 0) (p'.getD (n - 1) 0) = true → Dn N lt p' (n + 1) 0 :=
        fun p' a b c d => ⟨a, fun i h1 h2 => b i (by omega) h2, fun i h1 h2 => c i h1 (by omega), fun i h1 h2 => by omega,
          fun i h1 h2 => by have : i = n := by omega
                            subst this; exact d, by omega, by omega⟩
      by_cases hq : q > 0
      · rw [if_pos hq]
        obtain ⟨t1, t2, t3⟩ := D.turn H
        refine sat_desc H f _ (n + 1) 0 (step _ (rev_perm _ _ D.perm) t1 t2 ?_) (by omega)
        refine t3 _ ?_
        rw [getD_rev hn, if_neg (by omega)]
        exact e
      · rw [if_neg hq]
        have hq0 : q = 0 := by omega
        subst hq0
        refine sat_desc H f _ (n + 1) 0 (step _ D.perm D.tl (fun i h1 h2 => ?_) e) (by omega)
        rcases Nat.lt_or_ge (i + 1) n with h | h
        · exact D.fall i h1 h
        · exact Ah.of_lt H (D.join i h1 (by omega))
    | false =>
      simp only [Bool.false_eq_true, if_false]
      refine ⟨P.bd _ (by omega), P.bd _ (by omega), ?_⟩
      cases e2 : lt (p.getD (n - 1) 0) (p.getD n 0) with
      | true =>
        simp only [if_true]
        exact D
      | false =>
        simp only [Bool.false_eq_true, if_false]
        refine sat_desc H f p (n + 1) (q + 1) ⟨D.perm, fun i h1 h2 => D.tl i (by omega) h2, fun i h1 h2 => D.fall i h1 (by omega), fun i h1 h2 => ?_, fun i h1 h2 => D.join i h1 (by omega), by omega, by omega⟩ (by omega)
        rcases Nat.lt_or_ge i n with h | h
        · exact D.like i (by omega) h
        · have : i = n := by omega
          subst this
          refine ⟨⟨e, fun _ => ?_⟩, e2⟩
          rw [D.tl i (Nat.le_refl _) (by omega)]
          exact P.lo D.tl (by omega) D.top

structure Rn (N : Nat) (lt : Nat → Nat → Bool) (p : Array Nat) (m : Nat) : Prop where
  perm : p.Perm (List.toArray (List.range N))
  tl : Tl N p m
  up : Up lt p m
  top : m ≤ N
theorem Rn.longer (H : Lt lt) {p : Array Nat} {n m : Nat} (R : Rn N lt p n) (h1 : 1 ≤ n) (h : n ≤ m) (hm : m ≤ N) (ha : ∀ i, n ≤ i → i < m → lt (p.getD i 0) (p.getD (i - 1) 0) = false) : Rn N lt p m := by
  have P := pm_of R.perm
  refine ⟨R.perm, fun i a b => R.tl i (by omega) b, fun i a b => ?_, hm⟩
  rcases Nat.lt_or_ge i n with c | c
  · exact R.up i a c
  · refine ⟨ha i c b, fun _ => ?_⟩
    rw [R.tl i c (by omega)]
    exact P.lo (fun j x y => R.tl j (by omega) y) (by omega) (by omega)
theorem rn_of_fall (H : Lt lt) {p : Array Nat} {n : Nat} (hp : p.Perm (List.toArray (List.range N))) (T : Tl N p n) (hn : n ≤ N) (F : ∀ i, 0 < i → i < n → Ah lt (p.getD i 0) (p.getD (i - 1) 0)) : Rn N lt (kas_rev p 0 n) n := by
  have P := pm_of hp
  have hs : n ≤ p.size := by rw [P.sz]; exact hn
  refine ⟨rev_perm _ _ hp, fun i a b => ?_, fun i a b => ?_, hn⟩
  · rw [getD_rev hs, if_neg (by omega)]; exact T i a b
  · rw [getD_rev hs, getD_rev hs, if_pos (by omega), if_pos (by omega)]
    have := F (0 + n - 1 - (i - 1)) (by omega) (by omega)
    rw [show 0 + n - 1 - (i - 1) - 1 = 0 + n - 1 - i by omega] at this
    exact this
theorem sat_tail3 (H : Lt lt) {p : Array Nat} {n : Nat} (h1 : 1 ≤ n) (hp : p.Perm (List.toArray (List.range N))) (T : Tl N p n) (hn : n ≤ N) (F : ∀ i, 0 < i → i < n → Ah lt (p.getD i 0) (p.getD (i - 1) 0)) :
    Sat N lt (kas_tail3 n N p) (fun r => 1 ≤ r.1 ∧ Rn N lt r.2 r.1) := by
  have R := rn_of_fall H hp T hn F
  refine Sat.bind (fun m hm => ?_) _ (sat_asc (pm_of R.perm).bd (N - n) n h1 (by omega))
  exact ⟨by show 1 ≤ m; omega, R.longer H h1 hm.1 (by omega) hm.2.2.1⟩
theorem sat_descPart (H : Lt lt) {p : Array Nat} {n : Nat} (D : Dn N lt p (n + 1) 0) : Sat N lt (kas_descPart n N p) (fun r => 1 ≤ r.1 ∧ Rn N lt r.2 r.1) := by
  have := D.top
  refine Sat.bind (fun r D' => ?_) _ (sat_desc H (N - (n + 1)) p (n + 1) 0 D (by omega))
  have hl := D'.len
  by_cases hq : r.2.2 > 0
  · rw [if_pos hq]
    obtain ⟨t1, t2, _⟩ := D'.turn H
    exact sat_tail3 H (by omega) (rev_perm _ _ D'.perm) t1 D'.top t2
  · rw [if_neg hq]
    refine sat_tail3 H (by omega) D'.perm D'.tl D'.top fun i h1 h2 => ?_
    rcases Nat.lt_or_ge (i + (r.2.2 + 1)) r.2.1 with h | h
    · exact D'.fall i h1 h
    · exact Ah.of_lt H (D'.join i h1 (by omega))
theorem range_getD (i : Nat) (h : i < N) : (List.toArray (List.range N)).getD i 0 = i := by
  simp [Array.getD, h]
theorem sat_count (H : Lt lt) (h1 : 1 ≤ N) : Sat N lt (kas_count N (List.toArray (List.range N))) (fun r => 1 ≤ r.1 ∧ Rn N lt r.2 r.1) := by
  have hp : (List.toArray (List.range N)).Perm (List.toArray (List.range N)) := Array.Perm.refl _
  have P := pm_of hp
  have R1 : Rn N lt (List.toArray (List.range N)) 1 := ⟨hp, fun i a b => range_getD i b, fun i a b => by omega, h1⟩
  refine Sat.bind (fun n hn => ?_) _ (sat_asc P.bd (N - 1) 1 (Nat.le_refl _) (by omega))
  obtain ⟨a, b, c, d⟩ := hn
  have R := R1.longer H (Nat.le_refl _) a (by omega) c
  by_cases e : n = N
  · rw [if_pos (by simp [e])]; exact ⟨a, R⟩
  · rw [if_neg (by simp [e])]
    have dd := d (by omega)
    rw [range_getD _ (by omega), range_getD _ (by omega)] at dd
    by_cases h : n > 1
    · rw [if_pos h]
      refine ⟨P.bd _ (by omega), P.bd _ (by omega), ?_⟩
      rw [range_getD _ (by omega), range_getD _ (by omega)]
      cases e2 : lt 0 (n - 1) with
      | true =>
        simp only [if_true]
        exact ⟨a, R⟩
      | false =>
        simp only [Bool.false_eq_true, if_false]
        have hs : n ≤ (List.toArray (List.range N)).size := by simp; omega
        have le : ∀ i j, i < j → j < n → lt j i = false := fun i j x y => by
          have := (R.up.at H x y).1
          rwa [range_getD _ (by omega), range_getD _ (by omega)] at this
        have ge : ∀ i j, i < j → j < n → lt i j = false := fun i j x y => by
          have p1 : lt i 0 = false := by
            rcases Nat.eq_zero_or_pos i with rfl | q
            · cases e5 : lt 0 0 with
              | false => rfl
              | true => have := H.asym _ _ e5; rw [e5] at this; cases this
            · exact le 0 i q (by omega)
          have p2 : lt (n - 1) j = false := by
            rcases Nat.lt_or_ge j (n - 1) with q | q
            · exact le j (n - 1) q (by omega)
            · have : j = n - 1 := by omega
              subst this
              cases e5 : lt (n - 1) (n - 1) with
              | false => rfl
              | true => have := H.asym _ _ e5; rw [e5] at this; cases this
          exact H.tr _ _ _ p1 (H.tr _ _ _ e2 p2)
        have g : ∀ i, i < N → (kas_rev (List.toArray (List.range N)) 0 n).getD i 0 = if i < n then n - 1 - i else i := fun i hi => by
          rw [getD_rev hs]
          by_cases q : i < n
          · rw [if_pos (by omega), if_pos q, range_getD _ (by omega)]; omega
          · rw [if_neg (by omega), if_neg q, range_getD _ hi]
        refine sat_descPart H ⟨rev_perm _ _ hp, fun i x y => ?_, fun i x y => ?_, fun i x y => by omega, fun i x y => ?_, by omega, by omega⟩
        · rw [g i y, if_neg (by omega)]
        · rw [g i (by omega), g (i - 1) (by omega), if_pos (by omega), if_pos (by omega)]
          exact ⟨le _ _ (by omega) (by omega), fun _ => by omega⟩
        · have ei : i = n := by omega
          subst ei
          rw [g i (by omega), g (i - 1) (by omega), if_neg (by omega), if_pos (by omega), show i - 1 - (i - 1) = 0 by omega]
          exact lt_true H dd e2
    · rw [if_neg h]
      have : n = 1 := by omega
      subst this
      refine sat_descPart H ⟨hp, fun i x y => range_getD i y, fun i x y => by omega, fun i x y => by omega, fun i x y => ?_, by omega, by omega⟩
      have : i = 1 := by omega
      subst this
      rw [range_getD _ (by omega), range_getD _ (by omega)]
      exact dd

theorem sat_place (H : Lt lt) {p : Array Nat} {k : Nat} (R : Rn N lt p k) (hk : k < N) : ∀ (f l r : Nat), l ≤ r → r ≤ k → r - l ≤ f → (∀ i, i < l → lt k (p.getD i 0) = false) → (∀ i, r ≤ i → i < k → lt k (p.getD i 0) = true) →
    Sat N lt (kas_place p k f l r) (fun m => m ≤ k ∧ (∀ i, i < m → lt k (p.getD i 0) = false) ∧ (∀ i, m ≤ i → i < k → lt k (p.getD i 0) = true))
  | 0, l, r, h1, h2, h3, a, b => ⟨by omega, a, fun i x y => b i (by omega) y⟩
  | f + 1, l, r, h1, h2, h3, a, b => by
    have P := pm_of R.perm
    unfold kas_place
    by_cases h : l ≥ r
    · rw [if_pos h]
      exact ⟨by omega, a, fun i x y => b i (by omega) y⟩
    · rw [if_neg h]
      refine ⟨P.bd _ (by omega), P.bd _ (by omega), ?_⟩
      have ek : p.getD k 0 = k := R.tl k (Nat.le_refl _) hk
      rw [ek]
      cases e : lt k (p.getD ((l + r) / 2) 0) with
      | true =>
        simp only [if_true]
        refine sat_place H R hk f l ((l + r) / 2) (by omega) (by omega) (by omega) a fun i x y => ?_
        rcases Nat.eq_or_lt_of_le x with rfl | x
        · exact e
        · exact lt_true H e (R.up.at H x y).1
      | false =>
        simp only [Bool.false_eq_true, if_false]
        refine sat_place H R hk f ((l + r) / 2 + 1) r (by omega) h2 (by omega) (fun i x => ?_) b
        rcases Nat.lt_or_ge i ((l + r) / 2) with y | y
        · exact H.tr _ _ _ e (R.up.at H y (by omega)).1
        · have : i = (l + r) / 2 := by omega
          subst this; exact e
theorem Rn.put (H : Lt lt) {p : Array Nat} {k m : Nat} (R : Rn N lt p k) (hk : k < N) (hm : m ≤ k) (a : ∀ i, i < m → lt k (p.getD i 0) = false) (b : ∀ i, m ≤ i → i < k → lt k (p.getD i 0) = true) : Rn N lt (bubble p k (k - m)) (k + 1) := by
  have P := pm_of R.perm
  have hs : k < p.size := by rw [P.sz]; exact hk
  have ek : p.getD k 0 = k := R.tl k (Nat.le_refl _) hk
  refine ⟨bub_perm _ _ R.perm, fun i x y => ?_, fun i x y => ?_, hk⟩
  · rw [getD_bub hs hm, if_neg (by omega), if_neg (by omega)]; exact R.tl i (by omega) y
  · rw [getD_bub hs hm, getD_bub hs hm, ek]
    rcases Nat.lt_or_ge i m with c | c
    · rw [if_neg (by omega), if_neg (by omega), if_neg (by omega), if_neg (by omega)]
      exact R.up i x (by omega)
    · by_cases c1 : i = m
      · rw [if_neg (by omega), if_neg (by omega), if_pos c1]
        exact ⟨a _ (by omega), fun _ => P.lo R.tl (by omega) (by omega)⟩
      · by_cases c2 : i = m + 1
        · rw [if_pos (by omega), if_neg (by omega), if_pos (by omega)]
          exact Ah.of_lt H (b _ (by omega) (by omega))
        · rw [if_neg (by omega), if_pos (by omega), if_neg (by omega), if_pos (by omega)]
          exact R.up (i - 1) (by omega) (by omega)
theorem sat_bin (H : Lt lt) : ∀ (f : Nat) (p : Array Nat) (k : Nat), Rn N lt p k → k + f = N → Sat N lt (kas_bin f p k) (fun r => Rn N lt r N)
  | 0, p, k, R, h => by
    have : k = N := by omega
    subst this; exact R
  | f + 1, p, k, R, h => by
    refine Sat.bind (fun m hm => ?_) _ (sat_place H R (by omega) k 0 k (Nat.zero_le _) (Nat.le_refl _) (by omega) (fun i x => by omega) fun i x y => by omega)
    exact sat_bin H f _ (k + 1) (R.put H (by omega) hm.1 hm.2.1 hm.2.2) (by omega)
theorem sat_sort (H : Lt lt) (h1 : 1 ≤ N) : Sat N lt (kas_sort N) (fun r => Rn N lt r N) := by
  refine Sat.bind (fun r hr => ?_) _ (sat_count H h1)
  obtain ⟨a, R⟩ := hr
  have ht := R.top
  by_cases h : r.1 < N
  · rw [if_pos h, Nat.max_eq_left a]
    exact sat_bin H _ _ _ R (by omega)
  · rw [if_neg h]
    have : r.1 = N := by omega
    rw [this] at R; exact R
theorem Rn.list (H : Lt lt) {p : Array Nat} (R : Rn N lt p N) : p.toList.Perm (List.range N) ∧ p.toList.Pairwise (Ah lt) := by
  have P := pm_of R.perm
  refine ⟨by simpa using Array.perm_iff_toList_perm.mp R.perm, ?_⟩
  rw [List.pairwise_iff_getElem]
  intro i j hi hj hij
  have hi' : i < p.size := by simpa using hi
  have hj' : j < p.size := by simpa using hj
  have := R.up.at H hij (by rw [← P.sz]; exact hj')
  rw [show p.getD i 0 = p[i] by simp [Array.getD, hi'], show p.getD j 0 = p[j] by simp [Array.getD, hj']] at this
  simpa using this
end
end L2

namespace HT
open PySem PyProof.Rows PySem.W L2
theorem big_run {prog : Program} {w : World} {A : Around} {E : Value → Shared → Prop} {s : Shared} {κ : SortKind} {lt : Nat → Nat → Bool} {ks vs : List Value} {I : Shared → Prop} (hl : ks.length = vs.length) (h2 : 2 ≤ vs.length) (H : Lt lt) (hI : I s)
    (hc : ∀ i j s', i < vs.length → j < vs.length → I s' → wpAny (model prog w) A (keyLt' κ (ks.getD i Value.none) (ks.getD j Value.none)) (fun b s'' => b = lt i j ∧ I s'') (fun _ _ => False) s')
    (h64 : vs.length < 64 := by first | omega | (rw [List.length_reverse]; omega)) :
    wpAny (model prog w) A ((sortRuns').run (SortSt.mk' κ (ks.toArray.zip vs.toArray) #[] 7 none))
      (fun r s' => ∃ p : Array Nat, arrOf r.2 = p.map (kas_item (ks.toArray.zip vs.toArray)) ∧ failedOf r.2 = none ∧ p.size = vs.length ∧ I s' ∧ p.toList.Perm (List.range vs.length) ∧ p.toList.Pairwise (Ah lt)) E s := by
  have ask := Sat.wp (I := I) (cmp := kas_ask prog w A κ ks) (N := vs.length) (lt := lt) (Q := fun p s' => I s' ∧ p.toList.Perm (List.range vs.length) ∧ p.toList.Pairwise (Ah lt))
    (fun i j C s' hi hj es hC => wpAny_mono (hc i j s' hi hj es) (fun b s'' hb => by obtain ⟨rfl, hb2⟩ := hb; exact hC _ hb2) fun _ _ z => z) _ _ (sat_sort H (by omega)) hI (fun p s' R es => ⟨es, R.list H⟩)
  refine wpAny_mono (kat_run (ks := ks) (vs := vs) (Q := fun st' s' => ∃ p : Array Nat, arrOf st' = p.map (kas_item (ks.toArray.zip vs.toArray)) ∧ failedOf st' = none ∧ p.size = vs.length ∧ I s' ∧ p.toList.Perm (List.range vs.length) ∧ p.toList.Pairwise (Ah lt)) hl (by omega) h64
      (fun p st' s' a1 a2 a3 a4 => ⟨p, a2, a3, a1, a4⟩) ask) (fun r s' hr => hr) fun _ _ e => e
end HT

namespace HT
open PySem PyProof.Rows PySem.W L2
section
variable {prog : Program} {w : World} {A : Around} {E : Value → Shared → Prop} {s : Shared}
theorem pw_small {R : Nat → Nat → Prop} (n : Nat) (h : n < 2) : (List.range n).Pairwise R := by
  match n, h with
  | 0, _ => exact .nil
  | 1, _ => exact List.pairwise_singleton _ _
theorem list_sort_own {a : Addr} {vs : List Value} {n : Nat} {κ : SortKind} {lt : Nat → Nat → Bool} {P : PySem.Fin → Shared → Prop} (ho : s.heap.get? a = some (seqObj "list" vs.toArray n)) (h64 : vs.length < 64) (H : Lt lt)
    (hk : ∀ h' (Q : SortKind → Shared → Prop), 2 ≤ vs.length → (∀ b o, b ≠ a → s.heap.get? b = some o → h'.get? b = some o) → Q κ { s with heap := h' } → wpAny (model prog w) A (keyKind' vs.toArray) Q (fun _ _ => False) { s with heap := h' })
    (hc : ∀ h' i j (Q : Bool → Shared → Prop), i < vs.length → j < vs.length → (∀ b o, b ≠ a → s.heap.get? b = some o → h'.get? b = some o) → Q (lt i j) { s with heap := h' } →
      wpAny (model prog w) A (keyLt' κ (vs.getD i Value.none) (vs.getD j Value.none)) Q (fun _ _ => False) { s with heap := h' })
    (h : ∀ p : List Nat, p.Perm (List.range vs.length) → p.Pairwise (Ah lt) → P (.done (.ret .none)) { s with heap := sortedHeap s.heap a vs (List.toArray (p.map fun i => vs.getD i Value.none)) }) :
    wpAny (model prog w) A (Builtin.«list.sort» ⟨[.ref a], []⟩) P E s := by
  rw [list_sort_plain]
  have ha : a < s.heap.objs.size := Heap.lt_size ho
  refine wpAny_bind (listItems_at ho rfl ?_)
  refine wpAny_bind (listUpdate_at ho rfl ?_ (by rw [List.size_toArray, sizeLine_eq]; omega) (Nat.zero_le _))
  obtain ⟨e1, ho1⟩ : ∃ e1, (s.heap.update a (Obj.mapSeq fun _ => (#[] : Array Value))).get? a = some (seqObj "list" #[] e1) := ⟨_, get?_update_seq ho (fun _ => #[])⟩
  refine wpAny_bind (seqEpoch_at ho1 rfl ?_)
  refine wpAny_bind (wpAny_newTuple ?_ (by show vs.length ≤ _; rw [sizeLine_eq]; omega))
  refine wpAny_bind (wpAny_newList ?_ (Nat.zero_le _))
  refine wpAny_holding ?_
  have ho6 : (((s.heap.update a (Obj.mapSeq fun _ => (#[] : Array Value))).push (seqObj "tuple" vs.toArray 0)).push (seqObj "list" #[] 0)).get? a = some (seqObj "list" #[] e1) := by
    rw [Heap.get?_push_ne _ _ _ (by rw [size_push', Heap.size_update]; exact Nat.ne_of_lt (Nat.lt_succ_of_lt ha)), Heap.get?_push_ne _ _ _ (by rw [Heap.size_update]; exact Nat.ne_of_lt ha)]
    exact ho1
  have kp : ∀ b o, b ≠ a → s.heap.get? b = some o → (((s.heap.update a (Obj.mapSeq fun _ => (#[] : Array Value))).push (seqObj "tuple" vs.toArray 0)).push (seqObj "list" #[] 0)).get? b = some o := fun b o hb e => by
    have hlt := Heap.lt_size e
    rw [Heap.get?_push_ne _ _ _ (by rw [size_push', Heap.size_update]; exact Nat.ne_of_lt (Nat.lt_succ_of_lt hlt)), Heap.get?_push_ne _ _ _ (by rw [Heap.size_update]; exact Nat.ne_of_lt hlt), Heap.get?_update_ne _ _ _ _ hb]
    exact e
  show wpAny (model prog w) A _ P E { s with heap := ((s.heap.update a (Obj.mapSeq fun _ => (#[] : Array Value))).push (seqObj "tuple" vs.toArray 0)).push (seqObj "list" #[] 0) }
  dsimp only
  have hsz : vs.toArray.size = vs.length := by simp
  by_cases h2 : vs.toArray.size < 2
  · rw [if_pos h2, if_pos h2]
    refine wpAny_bind (wpAny_pure ?_)
    rw [StateT.run_pure]
    refine wpAny_bind (wpAny_pure ?_)
    dsimp only
    refine wpAny_bind (seqEpoch_at ho6 rfl ?_)
    refine wpAny_bind (listUpdate_at ho6 rfl ?_ (Nat.zero_le _) (by rw [Array.size_map]; show (pairsOf vs).size ≤ _; rw [pairsOf_size, sizeLine_eq]; omega))
    simp only [bne_self_eq_false, Bool.false_eq_true, if_false]
    have := h (List.range vs.length) (List.Perm.refl _) (pw_small _ (by omega))
    have eo : (arrOf (SortSt.mk' general' (vs.toArray.zip vs.toArray) #[] 7 none)).map (·.2) = List.toArray ((List.range vs.length).map fun i => vs.getD i Value.none) := by
      have e := kas_range (vs.toArray.zip vs.toArray)
      rw [show (vs.toArray.zip vs.toArray).size = vs.length by simp] at e
      have := kat_snds (st := SortSt.mk' general' (vs.toArray.zip vs.toArray) #[] 7 none) (ks := vs) (vs := vs) rfl e.symm
      simpa using this
    rw [← eo] at this
    exact wpAny_pure this
  · rw [if_neg h2, if_neg h2]
    refine wpAny_bind (wpAny_mono (hk _ (fun κ' s' => κ' = κ ∧ s' = { s with heap := ((s.heap.update a (Obj.mapSeq fun _ => (#[] : Array Value))).push (seqObj "tuple" vs.toArray 0)).push (seqObj "list" #[] 0) }) (by omega) kp ⟨rfl, rfl⟩) (fun κ' s' hh => ?_) fun _ _ x => x.elim)
    obtain ⟨rfl, rfl⟩ := hh
    refine wpAny_bind (wpAny_mono (big_run (ks := vs) (I := fun s' => s' = { s with heap := ((s.heap.update a (Obj.mapSeq fun _ => (#[] : Array Value))).push (seqObj "tuple" vs.toArray 0)).push (seqObj "list" #[] 0) }) rfl (by omega) H rfl (fun i j s' hi hj es => by subst es; exact hc _ i j _ hi hj kp ⟨rfl, rfl⟩)) ?_ fun _ _ e => e)
    rintro ⟨⟨⟩, st'⟩ s' ⟨p, har, hf, hp, rfl, q1, q2⟩
    dsimp only
    have hout := kat_snds rfl har
    rw [hout]
    refine wpAny_bind (seqEpoch_at ho6 rfl ?_)
    refine wpAny_bind (listUpdate_at ho6 rfl ?_ (Nat.zero_le _) (by rw [List.size_toArray, List.length_map, Array.length_toList, hp, sizeLine_eq]; omega))
    rw [hf]
    simp only [bne_self_eq_false, Bool.false_eq_true, if_false]
    exact wpAny_pure (h p.toList q1 q2)
theorem sorted_own {l : Addr} {vs : List Value} {κ : SortKind} {lt : Nat → Nat → Bool} {Q : Value → Shared → Prop} (hl : s.heap.IsList l vs.toArray) (h64 : vs.length < 64) (H : Lt lt)
    (hk : ∀ h' (Q : SortKind → Shared → Prop), 2 ≤ vs.length → (∀ b o, s.heap.get? b = some o → h'.get? b = some o) → Q κ { s with heap := h' } → wpAny (model prog w) A.in1.in1 (keyKind' vs.toArray) Q (fun _ _ => False) { s with heap := h' })
    (hc : ∀ h' i j (Q : Bool → Shared → Prop), i < vs.length → j < vs.length → (∀ b o, s.heap.get? b = some o → h'.get? b = some o) → Q (lt i j) { s with heap := h' } →
      wpAny (model prog w) A.in1.in1 (keyLt' κ (vs.getD i Value.none) (vs.getD j Value.none)) Q (fun _ _ => False) { s with heap := h' })
    (h : ∀ p : List Nat, p.Perm (List.range vs.length) → p.Pairwise (Ah lt) → Q (.ref (s.heap.objs.size + 1)) { s with heap := sortedAll s.heap vs (List.toArray (p.map fun i => vs.getD i Value.none)) }) :
    wpAny (model prog w) A (call (.builtin "sorted") [.ref l]) Q E s := by
  refine Calls.call_function_entry kind_sorted plain_sorted entry_sorted (args_sorted1 _) ?_
  unfold Builtin.«sorted»
  refine wpAny_bind (m := checkCount "sorted" 1 1 _) (wpAny_pure ?_)
  refine wpAny_bind (collect_list hl ?_ (by rw [sizeLine_eq]; omega))
  refine wpAny_bind (wpAny_newList ?_ (by rw [sizeLine_eq]; omega))
  have hsz : ((s.heap.push (seqObj "list" #[] 0)).update s.heap.objs.size (Obj.mapSeq (· ++ vs.toArray))).objs.size = s.heap.objs.size + 1 := by
    rw [Heap.size_update, size_push']
  have hoL : (((s.heap.push (seqObj "list" #[] 0)).update s.heap.objs.size (Obj.mapSeq (· ++ vs.toArray))).push (seqObj "list" vs.toArray 0)).get? (s.heap.objs.size + 1) = some (seqObj "list" vs.toArray 0) := by
    rw [← hsz]; exact Heap.get?_push_size _ rfl
  have keep : ∀ b o, s.heap.get? b = some o → (((s.heap.push (seqObj "list" #[] 0)).update s.heap.objs.size (Obj.mapSeq (· ++ vs.toArray))).push (seqObj "list" vs.toArray 0)).get? b = some o := fun b o q => by
    have hlt : b < s.heap.objs.size := Heap.lt_size q
    rw [Heap.get?_push_ne _ _ _ (by rw [hsz]; exact Nat.ne_of_lt (Nat.lt_succ_of_lt hlt)), Heap.get?_update_ne _ _ _ _ (Nat.ne_of_lt hlt), Heap.get?_push_ne _ _ _ (Nat.ne_of_lt hlt)]
    exact q
  have ne : ∀ b o, s.heap.get? b = some o → b ≠ s.heap.objs.size + 1 := fun b o q => Nat.ne_of_lt (Nat.lt_succ_of_lt (Heap.lt_size q))
  show wpAny _ _ _ _ _ { s with heap := ((s.heap.push (seqObj "list" #[] 0)).update s.heap.objs.size (Obj.mapSeq (· ++ vs.toArray))).push (seqObj "list" vs.toArray 0) }
  rw [hsz]
  refine wpAny_bind (wpAny_holding (wpAny_call_entry slot_list_sort ⟨_, hoL, rfl⟩ entry_list_sort (list_sort_own hoL h64 H
    (fun h' Q' h2 k q => hk h' Q' h2 (fun b o e => k b o (ne b o e) (keep b o e)) q) (fun h' i j Q' hi hj k q => hc h' i j Q' hi hj (fun b o e => k b o (ne b o e) (keep b o e)) q) fun p a1 a2 => ⟨_, rfl, ?_⟩) (args_list_sort _)))
  exact wpAny_pure ⟨_, rfl, h p a1 a2⟩

theorem lex_ints {fin : Bool} {Q : Bool → Shared → Prop} : ∀ {xs ys : List Value} {ns ms : List Int}, IntsAre xs ns → IntsAre ys ms → ∀ (i : Nat) (b : Bool), fin = decide (ns.length < ms.length) → Q (lexLt ns ms) s →
    KatLex prog w A b fin Q (xs.zip ys) i s
  | _, _, _, _, .nil, .nil, i, b, e, h => by subst e; exact h
  | _, _, _, _, .nil, .cons m u r, i, b, e, h => by
    subst e; rw [List.zip_nil_left]; refine kat_nil ?_; simpa using (show Q true s from h)
  | _, _, _, _, .cons n t r, .nil, i, b, e, h => by
    subst e; rw [List.zip_nil_right]; refine kat_nil ?_; simpa using (show Q false s from h)
  | _, _, _, _, .cons n t r, .cons m u r', i, b, e, h => by
    rw [List.zip_cons_cons]
    refine kat_cons (wpAny_eqBool_int ?_)
    rw [lexLt_cons] at h
    by_cases hn : n = m
    · rw [if_pos hn] at h
      rw [show (n == m) = true by simp [hn]]
      exact kat_yes (lex_ints r r' (i + 1) b (by rw [e]; simp) h)
    · rw [if_neg hn] at h
      rw [show (n == m) = false by simp [hn]]
      refine kat_no ?_
      cases (b && i == 0) with
      | true => exact oneLt_int h
      | false => exact kat_one _ _ (lt_int h)
theorem ask_tups {x y : Addr} {its its2 : Array Value} {ns ms : List Int} {b : Bool} {Q : Bool → Shared → Prop} (hx : IsTup s.heap x its) (hy : IsTup s.heap y its2) (hi : IntsAre its.toList ns) (hj : IntsAre its2.toList ms) (h : Q (lexLt ns ms) s) :
    wpAny (model prog w) A (keyLt' (tuples' b) (.ref x) (.ref y)) Q E s := by
  obtain ⟨o, ho, hc, n, hd⟩ := id hx
  obtain ⟨o2, ho2, hc2, n2, hd2⟩ := id hy
  refine kat_lt ho hd ho2 hd2 (lex_ints hi hj 0 b ?_ h)
  rw [← hi.length, ← hj.length]; simp
theorem ask_one {x y : Addr} {its its2 : Array Value} {ns ms : List Int} {Q : Bool → Shared → Prop} (hu : A.units < cLine) (hx : IsTup s.heap x its) (hy : IsTup s.heap y its2) (hi : IntsAre its.toList ns) (hj : IntsAre its2.toList ms) (h : Q (lexLt ns ms) s) :
    wpAny (model prog w) A (keyLt' oneType' (.ref x) (.ref y)) Q E s := by
  obtain ⟨⟨cls, dd, data, sl⟩, ho, hc, n, hd⟩ := id hx
  obtain ⟨⟨cls2, dd2, data2, sl2⟩, ho2, hc2, n2, hd2⟩ := id hy
  simp only at hc hd hc2 hd2
  subst hc hd hc2 hd2
  rw [keyLt'_oneType, oneLt'_eq]
  simp only [if_true]
  refine wpAny_bind (wpAny_cRoomFor hu ?_)
  refine wpAny_bind (wpAny_callSpecialIfBound?_slot (T := "tuple") ⟨_, ho, rfl⟩ PySem.F.slot_tuple_lt (call_meets PySem.F.slot_tuple_lt ⟨_, ho, rfl⟩ PySem.F.entry_tuple_lt (PySem.F.args_tuple_lt_2 _ _) (tuple_lt_ints x y its its2 n n2 dd dd2 sl sl2 ns ms hi hj) ⟨ho, ho2, ?_⟩))
  exact wpAny_truthy_bool h
theorem kind_nil {vs : List Value} {Q : SortKind → Shared → Prop} (h2 : 2 ≤ vs.length) (ht : ∀ v ∈ vs, ∃ a, v = .ref a ∧ IsTup s.heap a #[]) (h : Q oneType' s) :
    wpAny (model prog w) A (keyKind' vs.toArray) Q E s := by
  obtain ⟨v₁, rest, rfl⟩ : ∃ v₁ rest, vs = v₁ :: rest := by
    match vs, h2 with
    | v₁ :: rest, _ => exact ⟨v₁, rest, rfl⟩
  rw [kat_kind_eq, List.mapM_toArray, map_eq_pure_bind]
  refine wpAny_bind (wpAny_bind (kas_mapM (r := none) _ (fun v hv Q' hq => ?_) (wpAny_pure ?_)))
  · obtain ⟨a, rfl, o, ho, hc, n, hd⟩ := ht v hv
    rw [kas_first_eq]
    refine wpAny_bind (Looks.here (show Looks (model prog w) s.heap (typeOf (.ref a)) o.cls from (Looks.ld ho).andThen .now) ?_)
    rw [hc, if_neg (by first | decide | simp)]
    refine wpAny_bind (listItems_at ho hd (wpAny_pure ?_))
    exact hq
  · rw [if_neg (by simp), if_neg (by simp)]
    rw [oneTypeOnly'_eq, List.mapM_toArray, map_eq_pure_bind]
    refine wpAny_bind (wpAny_bind (wpAny_bind (kas_mapM (r := Value.type "tuple") _ (fun v hv Q' hq => ?_) (wpAny_pure ?_))))
    · obtain ⟨a, rfl, o, ho, hc, n, hd⟩ := ht v hv
      refine Looks.here (show Looks (model prog w) s.heap (typeOf (.ref a)) (Value.type "tuple") from ?_) hq
      rw [← hc]
      exact (Looks.ld ho).andThen .now
    · have hall : ((List.map (fun _ => Value.type "tuple") (v₁ :: rest)).toArray.all fun x => x == Value.type "tuple") = true := by
        simp only [List.all_toArray, List.all_map, List.all_eq_true]
        intro _ _
        rfl
      have h0 : (List.map (fun _ => Value.type "tuple") (v₁ :: rest)).toArray[0]? = some (Value.type "tuple") := by simp
      rw [h0]
      simp only [hall, if_true]
      exact wpAny_pure (wpAny_pure h)
theorem tups_of : ∀ {vs : List Value} {rss : List (List Int)}, vs.length = rss.length → (∀ (i : Nat) v r, vs[i]? = some v → rss[i]? = some r → ∃ a its, v = .ref a ∧ IsTup s.heap a its ∧ IntsAre its.toList r) → (∀ r ∈ rss, r ≠ []) →
    ∃ fs, KatTups s.heap vs fs ∧ fs.length = vs.length ∧ ∀ f ∈ fs, ∃ n t, f = Value.int n t
  | [], [], _, _, _ => ⟨[], .nil, rfl, fun _ h => nomatch h⟩
  | v :: vs, r :: rss, hl, h, hne => by
    obtain ⟨fs, k1, k2, k3⟩ := tups_of (vs := vs) (rss := rss) (by simpa using hl) (fun i v r e1 e2 => h (i + 1) v r (by simpa using e1) (by simpa using e2)) fun r hr => hne r (.tail _ hr)
    obtain ⟨a, its, rfl, ⟨o, ho, hc, n, hd⟩, hi⟩ := h 0 v r rfl rfl
    have hr := hne r (.head _)
    obtain ⟨its'⟩ := its
    cases hi with
    | nil => exact absurd rfl hr
    | cons m t hi' => exact ⟨_ :: fs, KatTups.cons (f := .int m t) ho hc hd (by simp) k1, by simp [k2], fun f hf => (List.mem_cons.mp hf).elim (fun e => ⟨m, t, e⟩) (k3 f)⟩
theorem kind_tups {vs : List Value} {rss : List (List Int)} {Q : SortKind → Shared → Prop} (h2 : 2 ≤ vs.length) (hl : vs.length = rss.length) (ht : ∀ (i : Nat) v r, vs[i]? = some v → rss[i]? = some r → ∃ a its, v = .ref a ∧ IsTup s.heap a its ∧ IntsAre its.toList r) (hne : ∀ r ∈ rss, r ≠ [])
    (h : Q (tuples' true) s) : wpAny (model prog w) A (keyKind' vs.toArray) Q E s := by
  obtain ⟨fs, k1, k2, k3⟩ := tups_of hl ht hne
  refine kat_kind (T := Value.type "int") k1 (by omega) (fun v hv => ?_) rfl h
  obtain ⟨n, t, rfl⟩ := k3 v hv
  exact Looks.of_pure rfl
end
theorem lexLt_asym (a : List Int) : ∀ b, lexLt a b = true → lexLt b a = false := by
  induction a with
  | nil => intro b h; cases b <;> first | rfl | cases h
  | cons x xs ih =>
    intro b h
    cases b with
    | nil => cases h
    | cons y ys =>
      rw [lexLt_cons] at h ⊢
      by_cases e : x = y
      · rw [if_pos e] at h; rw [if_pos e.symm]; exact ih ys h
      · rw [if_neg e] at h; rw [if_neg (Ne.symm e)]
        have := of_decide_eq_true h
        exact decide_eq_false (by omega)
theorem lexLt_ntr (a : List Int) : ∀ b c, lexLt a b = false → lexLt b c = false → lexLt a c = false := by
  induction a with
  | nil =>
    intro b c h1 h2
    cases b with
    | nil => exact h2
    | cons y ys => cases h1
  | cons x xs ih =>
    intro b c h1 h2
    cases c with
    | nil => rfl
    | cons z zs =>
      cases b with
      | nil => cases h2
      | cons y ys =>
        rw [lexLt_cons] at h1 h2 ⊢
        by_cases e : x = y
        · subst e
          rw [if_pos rfl] at h1
          by_cases e2 : x = z
          · subst e2; rw [if_pos rfl] at h2 ⊢; exact ih ys zs h1 h2
          · rw [if_neg e2] at h2 ⊢; exact h2
        · rw [if_neg e] at h1
          have h1 := of_decide_eq_false h1
          by_cases e2 : y = z
          · subst e2; rw [if_neg e]; exact decide_eq_false h1
          · rw [if_neg e2] at h2
            have h2 := of_decide_eq_false h2
            rw [if_neg (by omega)]; exact decide_eq_false (by omega)
theorem lt_lex (rss : List (List Int)) : Lt (fun i j => lexLt (rss.getD i []) (rss.getD j [])) := ⟨fun i j h => lexLt_asym _ _ h, fun i j k h1 h2 => lexLt_ntr _ _ _ h1 h2⟩
end HT
namespace L2
open PySem PySem.Spec PyProof.Rows PySem.W
section
variable {X : Cx}
theorem vals_refs : ∀ {rs : List Addr} {us : List Value}, Vals (rs.map V.ref) us → us = rs.map Value.ref
  | [], _, .nil => rfl
  | _ :: _, _, .cons r t => by
    rw [List.map_cons, ← vals_refs t]
    cases r
    rfl
theorem vals_map {f : Nat → V} {g : Nat → Value} : ∀ {p : List Nat}, (∀ i ∈ p, RelV (f i) (g i)) → Vals (p.map f) (p.map g)
  | [], _ => .nil
  | i :: p, h => .cons (h i (.head _)) (vals_map fun j hj => h j (.tail _ hj))
end
end L2

namespace L2
open PySem PySem.Spec PyProof.Rows PySem.W
section
variable {X : Cx}
end
end L2

namespace HT
open PySem PyProof.Rows PySem.W L2
section
variable {prog : Program} {w : World} {A : Around} {E : Value → Shared → Prop} {s : Shared}
end
theorem lt_ints (ns : List Int) : Lt (fun i j => decide (ns.getD i 0 < ns.getD j 0)) := ⟨fun i j h => by
  have := of_decide_eq_true h
  exact decide_eq_false (by omega), fun i j k h1 h2 => by
  have a := of_decide_eq_false h1
  have b := of_decide_eq_false h2
  exact decide_eq_false (by omega)⟩
theorem ints_at {vs : List Value} {ns : List Int} (h : IntsAre vs ns) : ∀ {i : Nat}, i < vs.length → ∃ t, vs.getD i Value.none = .int (ns.getD i 0) t := by
  induction h with
  | nil => intro i hi; cases hi
  | cons n t h ih =>
    intro i hi
    cases i with
    | zero => exact ⟨t, rfl⟩
    | succ i =>
      obtain ⟨t', e⟩ := ih (i := i) (by simpa using hi)
      exact ⟨t', by simpa using e⟩
end HT
namespace L2
open PySem PySem.Spec PyProof.Rows PySem.W
section
variable {X : Cx}
end
end L2

namespace L2
open PySem PySem.Spec PyProof.Rows
section
variable {X : Cx} {pins : List (Addr × Obj)} {σ : St} {H : Hp} {s : Shared}
end
end L2

namespace L2
open PySem PySem.Spec PyProof.Rows

section
variable {κ : Type} [DecidableEq κ]
end


section
variable {P : Program} {w : World} {H : Hp} {h : Heap} {a : Addr}
end

section
variable {X : Cx} {pins : List (Addr × Obj)} {σ : St} {H : Hp} {s : Shared} {a : Addr} {y v : V} {u r : Value} {o : Option V} {A : Around} {E : Value → Shared → Prop}

end

section
variable {X : Cx} {pins : List (Addr × Obj)} {σ : St} {H : Hp} {s : Shared} {a : Addr} {kvs : List (Key × V)} {k : Key} {u : Value} {A : Around} {E : Value → Shared → Prop}
end


section
variable {X : Cx} {o i e value : Expr} {pos pos' tpos : Pos} {td ty tv : TE}
end


section
variable {X : Cx} {pos : Pos}
end

structure M1 (X : Cx) (o : Expr) (m : Str) (apos : Pos) (e : Expr) (cpos : Pos) : Prop where
  base : attributeBase o m X.env (eval o X.env) = eval o X.env
  few : ((backTo cpos (starEach [e] X.env)).all (fun x => !x.1) && (backToKw cpos (keywordEach [] X.env)).all (fun x => x.1.isSome)
    && decide (([e] : List Expr).length + ([] : List Keyword).length + (if ([] : List Keyword).isEmpty then 0 else 1) < 30)) = true
  line : (apos.endLine == cpos.line) = true
  trees : backTo cpos (starEach [e] X.env) = [(false, eval e X.env)]
structure M2 (X : Cx) (o : Expr) (m : Str) (apos : Pos) (e f : Expr) (cpos : Pos) : Prop where
  base : attributeBase o m X.env (eval o X.env) = eval o X.env
  few : ((backTo cpos (starEach [e, f] X.env)).all (fun x => !x.1) && (backToKw cpos (keywordEach [] X.env)).all (fun x => x.1.isSome)
    && decide (([e, f] : List Expr).length + ([] : List Keyword).length + (if ([] : List Keyword).isEmpty then 0 else 1) < 30)) = true
  line : (apos.endLine == cpos.line) = true
  trees : backTo cpos (starEach [e, f] X.env) = [(false, eval e X.env), (false, eval f X.env)]

section
variable {X : Cx} {pins : List (Addr × Obj)} {σ : St} {H : Hp} {s : Shared} {a : Addr} {y d : V} {u r : Value} {o : Option V} {A : Around} {E : Value → Shared → Prop}
end

section
variable {X : Cx} {o e f : Expr} {apos cpos : Pos} {td ty tx : TE}
end

section
variable {X : Cx} {pins : List (Addr × Obj)} {σ : St} {H : Hp} {s : Shared} {a : Addr} {kvs : List (Key × V)} {A : Around} {E : Value → Shared → Prop}
end


section
variable {X : Cx} {pins : List (Addr × Obj)} {σ : St} {H : Hp} {s : Shared} {a : Addr} {y : V} {u : Value} {A : Around} {E : Value → Shared → Prop}
end
end L2


namespace L2
open PySem PySem.Spec PyProof.Rows
section
variable {X : Cx} {o i value : Expr} {td ty tv : TE} {pos pos' : Pos}
end
end L2

namespace L2
open PySem PySem.Spec PyProof.Rows
noncomputable def itN (os : List Nat) : Nat → Nat → Nat
  | 0, i => i
  | k + 1, i => os.getD (itN os k i) 0
theorem itN_add (os : List Nat) (a : Nat) : ∀ (b i : Nat), itN os (a + b) i = itN os b (itN os a i)
  | 0, i => rfl
  | b + 1, i => by show os.getD (itN os (a + b) i) 0 = os.getD (itN os b (itN os a i)) 0; rw [itN_add os a b i]
theorem Ord.nx {os : List Nat} {n i : Nat} (h : Ord os n) (hi : i < n) : os[i]? = some (os.getD i 0) ∧ os.getD i 0 < n := by
  obtain ⟨r, e, hr⟩ := h.get hi
  have : os.getD i 0 = r := by rw [List.getD_eq_getElem?_getD, e]; rfl
  rw [this]; exact ⟨e, hr⟩
theorem Ord.nx_inj {os : List Nat} {n i j : Nat} (h : Ord os n) (hi : i < n) (hj : j < n) (e : os.getD i 0 = os.getD j 0) : i = j := by
  have a := (h.nx hi).1
  have b := (h.nx hj).1
  rw [e] at a
  exact h.inj i j _ a b
theorem itN_lt {os : List Nat} {n : Nat} (h : Ord os n) : ∀ (k : Nat) {i : Nat}, i < n → itN os k i < n
  | 0, i, hi => hi
  | k + 1, i, hi => (h.nx (itN_lt h k hi)).2
theorem itN_inj {os : List Nat} {n : Nat} (h : Ord os n) : ∀ (k : Nat) {i j : Nat}, i < n → j < n → itN os k i = itN os k j → i = j
  | 0, i, j, _, _, e => e
  | k + 1, i, j, hi, hj, e => itN_inj h k hi hj (h.nx_inj (itN_lt h k hi) (itN_lt h k hj) e)
theorem itN_period {os : List Nat} {n i : Nat} (h : Ord os n) (hi : i < n) : ∃ m, 0 < m ∧ itN os m i = i := by
  apply Classical.byContradiction
  intro hno
  have hne : ∀ p q, p < q → itN os p i ≠ itN os q i := fun p q hpq e => by
    refine hno ⟨q - p, by omega, ?_⟩
    have e2 : itN os q i = itN os p (itN os (q - p) i) := by rw [← itN_add]; congr 1; omega
    rw [e2] at e
    exact (itN_inj h p hi (itN_lt h _ hi) e).symm
  have hnd : ((List.range (n + 1)).map fun k => itN os k i).Nodup := by
    rw [List.nodup_iff_pairwise_ne, List.pairwise_map]
    exact List.pairwise_lt_range.imp fun {a b} hab => hne a b hab
  have hp := perm_full (ys := List.range n) hnd (fun x hx => by
    obtain ⟨k, _, rfl⟩ := List.mem_map.mp hx
    exact List.mem_range.mpr (itN_lt h k hi)) (by simp)
  have := hp.length_eq
  simp at this
noncomputable def Rb (os : List Nat) (i j : Nat) : Prop := ∃ k, j = itN os k i
theorem Rb.symm {os : List Nat} {n i j : Nat} (h : Ord os n) (hi : i < n) (r : Rb os i j) : Rb os j i := by
  obtain ⟨k, rfl⟩ := r
  obtain ⟨m, hm, e⟩ := itN_period h hi
  have all : ∀ t, itN os (m * t) i = i := fun t => by
    induction t with
    | zero => rfl
    | succ t ih => rw [Nat.mul_succ, itN_add, ih, e]
  have hk : k ≤ m * k := Nat.le_mul_of_pos_left k hm
  refine ⟨m * k - k, ?_⟩
  rw [← itN_add, show k + (m * k - k) = m * k by omega, all]
theorem Rb.trans {os : List Nat} {i j l : Nat} (a : Rb os i j) (b : Rb os j l) : Rb os i l := by
  obtain ⟨k, rfl⟩ := a
  obtain ⟨k', rfl⟩ := b
  exact ⟨k + k', (itN_add os k k' i).symm⟩
theorem Back.nx {os bs : List Nat} {n i : Nat} (h : Ord os n) (b : Back os bs n) (hi : i < n) : bs.getD (os.getD i 0) 0 = i := by
  have := b.at_ i _ (h.nx hi).1
  rw [List.getD_eq_getElem?_getD, this]; rfl
theorem Back.it {os bs : List Nat} {n : Nat} (h : Ord os n) (b : Back os bs n) : ∀ (k : Nat) {i : Nat}, i < n → itN bs k (itN os k i) = i
  | 0, i, _ => rfl
  | k + 1, i, hi => by
    show bs.getD (itN bs k (itN os (k + 1) i)) 0 = i
    have e : itN os (k + 1) i = itN os k (os.getD i 0) := by rw [Nat.add_comm, itN_add]; rfl
    rw [e, Back.it h b k (h.nx hi).2]
    exact b.nx h hi
noncomputable def Lead (os : List Nat) (a : Nat) : Prop := os.getD a 0 ≠ a ∧ ∀ a', a' < a → ¬ Rb os a' a
theorem Back.rb {os bs : List Nat} {n i j : Nat} (h : Ord os n) (b : Back os bs n) (hi : i < n) (r : Rb os i j) : Rb bs j i := by
  obtain ⟨k, rfl⟩ := r
  exact ⟨k, (b.it h k hi).symm⟩
noncomputable def sm (f : Nat → Nat) : Nat → Nat
  | 0 => 0
  | n + 1 => sm f n + f n
theorem sm_congr {f g : Nat → Nat} : ∀ {n : Nat}, (∀ j, j < n → g j = f j) → sm g n = sm f n
  | 0, _ => rfl
  | n + 1, h => by show sm g n + g n = sm f n + f n; rw [sm_congr fun j hj => h j (by omega), h n (by omega)]
theorem sm_upd {f g : Nat → Nat} {pl : Nat} (h : ∀ j, j ≠ pl → g j = f j) : ∀ {n : Nat}, pl < n → sm g n + f pl = sm f n + g pl
  | n + 1, hn => by
    show sm g n + g n + f pl = sm f n + f n + g pl
    rcases Nat.lt_or_ge pl n with hl | hl
    · have := sm_upd h hl
      have := h n (by omega)
      omega
    · have e : pl = n := by omega
      subst e
      have := sm_congr (n := pl) fun j hj => h j (by omega)
      omega
noncomputable def wt (os : List Nat) (j : Nat) : Nat := if os.getD j 0 = j then 0 else 1
noncomputable def mf (os : List Nat) (met : List Bool) (j : Nat) : Nat := if met.getD j false = true then wt os j else 0
theorem met_get {met : List Bool} {pl : Nat} (h : ¬ met.getD pl true = true) : pl < met.length ∧ met[pl]? = some false ∧ met.getD pl false = false := by
  rw [List.getD_eq_getElem?_getD] at h
  cases e : met[pl]? with
  | none => rw [e] at h; exact absurd rfl h
  | some b =>
    rw [e] at h
    cases b with
    | true => exact absurd rfl h
    | false => exact ⟨get_lt e, rfl, by rw [List.getD_eq_getElem?_getD, e]; rfl⟩
theorem set_getD {met : List Bool} {pl j : Nat} (hl : pl < met.length) : (met.set pl true).getD j false = if j = pl then true else met.getD j false := by
  rw [List.getD_eq_getElem?_getD, List.getElem?_set, List.getD_eq_getElem?_getD]
  by_cases e : pl = j
  · subst e; rw [if_pos rfl, if_pos rfl, if_pos hl]; rfl
  · rw [if_neg e, if_neg (Ne.symm e)]
theorem walk_sm {os : List Nat} : ∀ (f : Nat) (met : List Bool) (pl : Nat), sm (mf os (walk os f met pl).2) met.length = sm (mf os met) met.length + ((walk os f met pl).1.map (wt os)).sum
  | 0, met, pl => by simp [walk]
  | f + 1, met, pl => by
    unfold walk
    split
    · simp
    · rename_i h
      obtain ⟨hl, e1, e2⟩ := met_get h
      have ih := walk_sm (os := os) f (met.set pl true) (os.getD pl 0)
      rw [List.length_set] at ih
      have u := sm_upd (f := mf os met) (g := mf os (met.set pl true)) (pl := pl) (fun j hj => by unfold mf; rw [set_getD hl, if_neg hj]) hl
      have a : mf os met pl = 0 := by unfold mf; rw [e2]; rfl
      have b : mf os (met.set pl true) pl = wt os pl := by unfold mf; rw [set_getD hl, if_pos rfl]; rfl
      rw [a, b] at u
      show sm (mf os (walk os f (met.set pl true) (os.getD pl 0)).2) met.length = _ + ((pl :: (walk os f (met.set pl true) (os.getD pl 0)).1).map (wt os)).sum
      rw [ih, List.map_cons, List.sum_cons]
      omega
theorem walk_mem {os : List Nat} : ∀ (f : Nat) (met : List Bool) (pl : Nat), ∀ x ∈ (walk os f met pl).1, Rb os pl x
  | 0, met, pl, x, h => by cases h
  | f + 1, met, pl, x, h => by
    unfold walk at h
    split at h
    · cases h
    · rcases List.mem_cons.mp h with e | h
      · exact ⟨0, e⟩
      · obtain ⟨k, e⟩ := walk_mem f _ _ x h
        exact ⟨1 + k, by rw [itN_add]; exact e⟩
theorem walk_mono {os : List Nat} : ∀ (f : Nat) (met : List Bool) (pl j : Nat), met.getD j false = true → (walk os f met pl).2.getD j false = true
  | 0, met, pl, j, h => h
  | f + 1, met, pl, j, h => by
    unfold walk
    split
    · exact h
    · rename_i h'
      obtain ⟨hl, _, _⟩ := met_get h'
      refine walk_mono f _ _ j ?_
      rw [set_getD hl]; split
      · rfl
      · exact h
theorem walk_from {os : List Nat} : ∀ (f : Nat) (met : List Bool) (pl j : Nat), (walk os f met pl).2.getD j false = true → met.getD j false = true ∨ j ∈ (walk os f met pl).1
  | 0, met, pl, j, h => .inl h
  | f + 1, met, pl, j, h => by
    unfold walk at h ⊢
    split at h
    · rename_i h'; rw [if_pos h']; exact .inl h
    · rename_i h'
      rw [if_neg h']
      obtain ⟨hl, _, _⟩ := met_get h'
      rcases walk_from f _ _ j h with a | a
      · rw [set_getD hl] at a
        split at a
        · rename_i e; exact .inr (by rw [e]; exact .head _)
        · exact .inl a
      · exact .inr (.tail _ a)
theorem walk_closed {os : List Nat} {n : Nat} (h : Ord os n) : ∀ (f : Nat) (met : List Bool) (pl : Nat), met.length = n → pl < n → few met < f → (∀ j, j < n → met.getD j false = true → met.getD (os.getD j 0) false = true ∨ os.getD j 0 = pl) →
    ∀ j, j < n → (walk os f met pl).2.getD j false = true → (walk os f met pl).2.getD (os.getD j 0) false = true
  | 0, met, pl, _, _, hf, _ => by omega
  | f + 1, met, pl, hl, hp, hf, hc => by
    intro j hj
    unfold walk
    split
    · rename_i h'
      intro hm
      rcases hc j hj hm with a | a
      · exact a
      · rw [a]
        have : pl < met.length := by omega
        rw [List.getD_eq_getElem?_getD, List.getElem?_eq_getElem this] at h' ⊢
        exact h'
    · rename_i h'
      obtain ⟨hl', e1, _⟩ := met_get h'
      have hfew := few_set e1
      refine walk_closed h f _ _ (by rw [List.length_set]; exact hl) (h.nx hp).2 (by omega) (fun j' hj' hm => ?_) j hj
      rw [set_getD hl'] at hm
      rw [set_getD hl']
      split at hm
      · rename_i e; rw [e]; exact .inr rfl
      · rcases hc j' hj' hm with a | a
        · refine .inl ?_
          split
          · rfl
          · exact a
        · rw [if_pos a]; exact .inl rfl
theorem wt_nx {os : List Nat} {n j : Nat} (h : Ord os n) (hj : j < n) : wt os (os.getD j 0) = wt os j := by
  unfold wt
  by_cases e : os.getD j 0 = j
  · rw [if_pos e, e, if_pos e]
  · rw [if_neg e, if_neg fun z => e (h.nx_inj (h.nx hj).2 hj z)]
theorem wt_rb {os : List Nat} {n i j : Nat} (h : Ord os n) (hi : i < n) (r : Rb os i j) : wt os j = wt os i := by
  obtain ⟨k, rfl⟩ := r
  induction k with
  | zero => rfl
  | succ k ih => show wt os (os.getD (itN os k i) 0) = _; rw [wt_nx h (itN_lt h k hi), ih]
theorem closed_rb {os : List Nat} {n i : Nat} {met : List Bool} (h : Ord os n) (hc : ∀ j, j < n → met.getD j false = true → met.getD (os.getD j 0) false = true) (hi : i < n) (hm : met.getD i false = true) : ∀ k, met.getD (itN os k i) false = true
  | 0 => hm
  | k + 1 => hc _ (itN_lt h k hi) (closed_rb h hc hi hm k)
open Classical in
noncomputable def ld (os : List Nat) (a : Nat) : Nat := if Lead os a then 1 else 0
theorem sum_const' {xs : List Nat} {f : Nat → Nat} {c : Nat} (h : ∀ x ∈ xs, f x = c) : (xs.map f).sum = xs.length * c := by
  induction xs with
  | nil => simp
  | cons x xs ih => rw [List.map_cons, List.sum_cons, h x (.head _), ih fun y hy => h y (.tail _ hy), List.length_cons, Nat.succ_mul]; omega
theorem upTo_facts {os : List Nat} {n : Nat} (h : Ord os n) : ∀ i, i ≤ n → (∀ j, j < n → (upTo os i).2.getD j false = true → (upTo os i).2.getD (os.getD j 0) false = true) ∧ (∀ j, j < n → ((upTo os i).2.getD j false = true ↔ ∃ a, a < i ∧ Rb os a j)) ∧
    ((upTo os i).1.map fun r => r.length + 1).sum = sm (mf os (upTo os i).2) n + sm (ld os) i
  | 0, _ => by
    have e : ∀ j, (upTo os 0).2.getD j false = false := fun j => by
      show (List.replicate os.length false).getD j false = false
      rw [List.getD_eq_getElem?_getD, List.getElem?_replicate]; split <;> rfl
    refine ⟨fun j _ hm => (by rw [e] at hm; cases hm), fun j _ => ⟨fun hm => (by rw [e] at hm; cases hm), fun ⟨a, ha, _⟩ => by omega⟩, ?_⟩
    have : sm (mf os (upTo os 0).2) n = sm (fun _ => 0) n := sm_congr fun j _ => by unfold mf; rw [e]; rfl
    rw [this]
    have z : ∀ n, sm (fun _ => 0) n = 0 := fun n => by induction n with
      | zero => rfl
      | succ n ih => show sm (fun _ => 0) n + 0 = 0; rw [ih]
    rw [z]; rfl
  | i + 1, hi => by
    obtain ⟨c1, c2, c3⟩ := upTo_facts h i (by omega)
    have hi' : i < n := hi
    have hml : (upTo os i).2.length = n := by rw [upTo_len, h.len]
    rw [upTo_succ]
    unfold goOn
    dsimp only
    generalize hM : (upTo os i).2 = met at c1 c2 c3 hml
    generalize hG : (upTo os i).1 = rgs at c3
    have hl := h.len
    by_cases hm : met.getD i true = true
    · have hm' : met[i]? = some true := by
        have : i < met.length := by omega
        rw [List.getD_eq_getElem?_getD, List.getElem?_eq_getElem this] at hm
        rw [List.getElem?_eq_getElem this]; exact congrArg some hm
      have hmf : met.getD i false = true := by rw [List.getD_eq_getElem?_getD, hm']; rfl
      rw [walk_stop hm' (by omega)]
      dsimp only
      rw [if_neg (by simp)]
      obtain ⟨a, ha, ra⟩ := (c2 i hi').mp hmf
      refine ⟨c1, fun j hj => ⟨fun q => ?_, fun ⟨b, hb, rb⟩ => ?_⟩, ?_⟩
      · obtain ⟨b, hb, rb⟩ := (c2 j hj).mp q
        exact ⟨b, by omega, rb⟩
      · rcases Nat.lt_or_ge b i with q | q
        · exact (c2 j hj).mpr ⟨b, q, rb⟩
        · have : b = i := by omega
          subst this
          exact (c2 j hj).mpr ⟨a, ha, ra.trans rb⟩
      · have : ld os i = 0 := by unfold ld; rw [if_neg fun L => L.2 a ha ra]
        rw [c3]
        show _ = _ + (sm (ld os) i + ld os i)
        omega
    · obtain ⟨hl1, e1, e2⟩ := met_get hm
      have hs := walk_sm (os := os) (os.length + 1) met i
      rw [hml] at hs
      have hcl := walk_closed h (os.length + 1) met i hml hi' (by have := few_le met; omega) fun j hj q => .inl (c1 j hj q)
      have hmem := walk_mem (os := os) (os.length + 1) met i
      have hsum := sum_const' (xs := (walk os (os.length + 1) met i).1) (f := wt os) (c := wt os i) fun x hx => wt_rb h hi' (hmem x hx)
      have hself : (walk os (os.length + 1) met i).2.getD i false = true := by
        rw [walk_go e1 (h.nx hi').1]
        exact walk_mono _ _ _ _ (by rw [set_getD hl1, if_pos rfl])
      have c2' : ∀ j, j < n → ((walk os (os.length + 1) met i).2.getD j false = true ↔ ∃ a, a < i + 1 ∧ Rb os a j) := fun j hj => ⟨fun q => ?_, fun ⟨b, hb, rb⟩ => ?_⟩
      rotate_left
      · rcases walk_from _ _ _ _ q with q | q
        · obtain ⟨b, hb, rb⟩ := (c2 j hj).mp q
          exact ⟨b, by omega, rb⟩
        · exact ⟨i, by omega, hmem j q⟩
      · rcases Nat.lt_or_ge b i with q | q
        · exact walk_mono _ _ _ _ ((c2 j hj).mpr ⟨b, q, rb⟩)
        · have : b = i := by omega
          subst this
          obtain ⟨k, rfl⟩ := rb
          exact closed_rb h hcl hi' hself k
      refine ⟨hcl, c2', ?_⟩
      have unm : ∀ a, a < i → ¬ Rb os a i := fun a ha ra => by
        rw [(c2 i hi').mpr ⟨a, ha, ra⟩] at e2; cases e2
      rw [hs, hsum]
      show _ = _ + (sm (ld os) i + ld os i)
      by_cases hfx : os.getD i 0 = i
      · have hlen : (walk os (os.length + 1) met i).1.length = 1 := by
          rw [walk_go e1 (h.nx hi').1, hfx, walk_stop (f := os.length) (by rw [List.getElem?_set, if_pos rfl, if_pos hl1]) (by omega)]; rfl
        have hw : wt os i = 0 := by unfold wt; rw [if_pos hfx]
        have hld : ld os i = 0 := by unfold ld; rw [if_neg fun L => L.1 hfx]
        rw [hlen, if_neg (by omega), c3, hw, hld]
        omega
      · have hun : met.getD (os.getD i 0) false = false := by
          cases q : met.getD (os.getD i 0) false with
          | false => rfl
          | true =>
            obtain ⟨k, ek⟩ := Rb.symm h hi' ⟨1, rfl⟩ (j := os.getD i 0)
            have := closed_rb h c1 (h.nx hi').2 q k
            rw [← ek, e2] at this
            cases this
        have hlen : 1 < (walk os (os.length + 1) met i).1.length := by
          obtain ⟨f, hf⟩ : ∃ f, os.length = f + 1 := ⟨n - 1, by omega⟩
          have hg : (met.set i true)[os.getD i 0]? = some false := by
            have h3 : os.getD i 0 < met.length := by rw [hml]; exact (h.nx hi').2
            rw [List.getElem?_set, if_neg fun z => hfx z.symm, List.getElem?_eq_getElem h3]
            rw [List.getD_eq_getElem?_getD, List.getElem?_eq_getElem h3] at hun
            exact congrArg some hun
          rw [walk_go e1 (h.nx hi').1, hf, walk_go hg (h.nx (h.nx hi').2).1]
          simp
        have hw : wt os i = 1 := by unfold wt; rw [if_neg hfx]
        have hld : ld os i = 1 := by unfold ld; rw [if_pos ⟨hfx, unm⟩]
        rw [if_pos hlen, List.map_append, List.sum_append, c3, hw, hld]
        simp only [List.map_cons, List.map_nil, List.sum_cons, List.sum_nil]
        omega
theorem rings_sum {os : List Nat} {n : Nat} (h : Ord os n) : ((ringsF os).map fun r => r.length + 1).sum = sm (wt os) n + sm (ld os) n := by
  obtain ⟨_, c2, c3⟩ := upTo_facts h n (Nat.le_refl _)
  unfold ringsF
  rw [h.len, c3]
  congr 1
  refine sm_congr fun j hj => ?_
  unfold mf
  rw [if_pos ((c2 j hj).mpr ⟨j, hj, 0, rfl⟩)]
end L2

namespace L2
open PySem PySem.Spec PyProof.Rows
noncomputable def rgN (os : List Nat) (i k : Nat) : List Nat := (List.range k).map fun t => itN os t i
theorem rgN_len (os : List Nat) (i k : Nat) : (rgN os i k).length = k := by unfold rgN; rw [List.length_map, List.length_range]
theorem rgN_lt {os : List Nat} {n i : Nat} (h : Ord os n) (hi : i < n) (k : Nat) : ∀ x ∈ rgN os i k, x < n := fun x hx => by
  obtain ⟨t, _, rfl⟩ := List.mem_map.mp hx
  exact itN_lt h t hi
theorem rgN_nodup {os : List Nat} {n i : Nat} (h : Ord os n) (hi : i < n) : ∀ (k : Nat), (∀ t, 0 < t → t < k → itN os t i ≠ i) → (rgN os i k).Nodup := fun k hk => by
  unfold rgN
  rw [List.nodup_iff_pairwise_ne, List.pairwise_map, List.pairwise_iff_getElem]
  intro a b ha hb hab e
  rw [List.length_range] at ha hb
  rw [List.getElem_range, List.getElem_range] at e
  refine hk (b - a) (by omega) (by omega) ?_
  have e2 : itN os b i = itN os a (itN os (b - a) i) := by rw [← itN_add]; congr 1; omega
  rw [e2] at e
  exact (itN_inj h a hi (itN_lt h _ hi) e).symm
theorem nodup_le {xs : List Nat} {n : Nat} (h : xs.Nodup) (hb : ∀ x ∈ xs, x < n) : xs.length ≤ n := by
  rcases Nat.lt_or_ge n xs.length with g | g
  · have := (perm_full (ys := List.range n) h (fun x hx => List.mem_range.mpr (hb x hx)) (by rw [List.length_range]; omega)).length_eq
    rw [List.length_range] at this
    omega
  · exact g
theorem rgN_all {os : List Nat} {i k : Nat} (e : itN os (k + 1) i = i) {j : Nat} (r : Rb os i j) : j ∈ rgN os i (k + 1) := by
  obtain ⟨t, rfl⟩ := r
  have per : ∀ q, itN os ((k + 1) * q) i = i := fun q => by
    induction q with
    | zero => rfl
    | succ q ih => rw [Nat.mul_succ, itN_add, ih, e]
  refine List.mem_map.mpr ⟨t % (k + 1), List.mem_range.mpr (Nat.mod_lt _ (Nat.succ_pos _)), ?_⟩
  have := Nat.div_add_mod t (k + 1)
  show itN os (t % (k + 1)) i = itN os t i
  conv => rhs; rw [← this, itN_add, per]
theorem rgN_rb {os : List Nat} {i k j : Nat} (h : j ∈ rgN os i k) : Rb os i j := by
  obtain ⟨t, _, rfl⟩ := List.mem_map.mp h
  exact ⟨t, rfl⟩
end L2

namespace L2
open PySem PySem.Spec PyProof.Rows
noncomputable def seenP (os : List Nat) (i j : Nat) : Prop := wt os j = 1 ∧ ∃ a, a < i ∧ Rb os a j
open Classical in
noncomputable def sx (os : List Nat) (i j : Nat) : Nat := if seenP os i j then 1 else 0
theorem wt_two (os : List Nat) (j : Nat) : wt os j = 0 ∨ wt os j = 1 := by unfold wt; split <;> simp
end L2

namespace L2
open PySem PySem.Spec PyProof.Rows
noncomputable def bk (at_ : Nat) (s : Str3) : Str3 := (s.1, s.2.1, if s.2.2 ≤ at_ then s.2.2 else s.2.2 - 1)
end L2

namespace HT
open PySem PyProof.Rows PySem.W L2
section
variable {prog : Program} {w : World} {A : Around} {E : Value → Shared → Prop} {s : Shared} {a kS : Addr} {vs ks : List Value} {e e1 : Nat} {P : PySem.Fin → Shared → Prop}
noncomputable abbrev keyedHeap (h : Heap) (kS a : Addr) (out : Array Value) : Heap := (h.update kS (Obj.mapSeq fun _ => (#[] : Array Value))).update a (Obj.mapSeq fun _ => out)
theorem key_tail {st : SortSt} {out : Array Value} (hka : kS ≠ a) (hoA : s.heap.get? a = some (seqObj "list" #[] e1)) (hoK : s.heap.get? kS = some (seqObj "list" ks.toArray e)) (hkl : ks.length < 64) (hol : out.size < 64) (hout : (arrOf st).map (·.2) = out) (hfl : failedOf st = none)
    (h : P (.done (.ret .none)) { s with heap := keyedHeap s.heap kS a out }) : wpAny (model prog w) A (ksk_tail a false e1 (.ref kS) st) P E s := by
  have s1 := Heap.SameBut.update s.heap kS (Obj.mapSeq fun _ => (#[] : Array Value))
  have na1 : (s.heap.update kS (Obj.mapSeq fun _ => (#[] : Array Value))).get? a = some (seqObj "list" #[] e1) := (s1.2 a hka.symm).trans hoA
  unfold ksk_tail
  rw [hout]
  simp only [Bool.false_eq_true, if_false]
  refine wpAny_bind (listUpdate_at hoK rfl ?_ (by rw [List.size_toArray, sizeLine_eq]; omega) (Nat.zero_le _))
  refine wpAny_bind (wpAny_letGo ?_)
  refine wpAny_bind (seqEpoch_at na1 rfl ?_)
  refine wpAny_bind (listUpdate_at na1 rfl ?_ (Nat.zero_le _) (by rw [sizeLine_eq]; omega))
  rw [hfl]
  simp only [bne_self_eq_false, Bool.false_eq_true, if_false]
  exact wpAny_pure h
theorem key_end {κ : SortKind} {lt : Nat → Nat → Bool} (hka : kS ≠ a) (hoA : s.heap.get? a = some (seqObj "list" #[] e1)) (hoK : s.heap.get? kS = some (seqObj "list" ks.toArray e)) (hlen : ks.length = vs.length) (h64 : vs.length < 64) (H : Lt lt)
    (hk : ∀ (Q : SortKind → Shared → Prop), 2 ≤ vs.length → Q κ s → wpAny (model prog w) A (keyKind' ks.toArray) Q (fun _ _ => False) s)
    (hc : ∀ i j (Q : Bool → Shared → Prop), i < vs.length → j < vs.length → Q (lt i j) s → wpAny (model prog w) A (keyLt' κ (ks.getD i Value.none) (ks.getD j Value.none)) Q (fun _ _ => False) s)
    (h : ∀ p : List Nat, p.Perm (List.range vs.length) → p.Pairwise (Ah lt) → P (.done (.ret .none)) { s with heap := keyedHeap s.heap kS a (List.toArray (p.map fun i => vs.getD i Value.none)) }) :
    wpAny (model prog w) A (ksk_end a false vs.toArray e1 (.ref kS) ks.toArray) P E s := by
  unfold ksk_end
  simp only [Bool.false_eq_true, if_false]
  have hsz : vs.toArray.size = vs.length := by simp
  by_cases h2 : vs.toArray.size < 2
  · rw [if_pos h2, if_pos h2]
    refine wpAny_bind (wpAny_pure ?_)
    rw [StateT.run_pure]
    refine wpAny_bind (wpAny_pure ?_)
    dsimp only
    have eo : (arrOf (SortSt.mk' general' (ks.toArray.zip vs.toArray) #[] 7 none)).map (·.2) = List.toArray ((List.range vs.length).map fun i => vs.getD i Value.none) := by
      have e := kas_range (ks.toArray.zip vs.toArray)
      rw [show (ks.toArray.zip vs.toArray).size = vs.length by simp [hlen]] at e
      have := kat_snds (st := SortSt.mk' general' (ks.toArray.zip vs.toArray) #[] 7 none) (ks := ks) (vs := vs) hlen e.symm
      simpa using this
    exact key_tail (st := SortSt.mk' general' (ks.toArray.zip vs.toArray) #[] 7 none) hka hoA hoK (by omega) (by simp; omega) eo rfl (h (List.range vs.length) (List.Perm.refl _) (pw_small _ (by omega)))
  · rw [if_neg h2, if_neg h2]
    refine wpAny_bind (wpAny_mono (hk (fun κ' s' => κ' = κ ∧ s' = s) (by omega) ⟨rfl, rfl⟩) (fun κ' s' hh => ?_) fun _ _ x => x.elim)
    obtain ⟨rfl, rfl⟩ := hh
    refine wpAny_bind (wpAny_mono (big_run (ks := ks) (vs := vs) (I := fun s'' => s'' = s') hlen (by omega) H rfl (fun i j s'' hi hj es => by subst es; exact hc i j _ hi hj ⟨rfl, rfl⟩)) ?_ fun _ _ e => e)
    rintro ⟨⟨⟩, st'⟩ s'' ⟨p, har, hf, hp, rfl, q1, q2⟩
    dsimp only
    exact key_tail hka hoA hoK (by omega) (by rw [List.size_toArray, List.length_map, Array.length_toList, hp]; exact h64) (kat_snds hlen har) hf (h p.toList q1 q2)
theorem key_rest {f : Value} (J : Nat → List Value → Shared → Prop) (h0 : J 0 [] s) (h64 : vs.length < 64)
    (step : ∀ i x ks s, vs[i]? = some x → J i ks s → ks.length = i ∧ wpAny (model prog w) A (call f [x]) (fun k s' => ∃ e, s'.heap.get? kS = some (seqObj "list" ks.toArray e) ∧ J (i + 1) (ks ++ [k]) { s' with heap := s'.heap.update kS (Obj.mapSeq (·.push k)) }) (fun _ _ => False) s)
    (done : ∀ ks s, J vs.length ks s → ∃ e, s.heap.get? kS = some (seqObj "list" ks.toArray e) ∧ wpAny (model prog w) A (ksk_end a false vs.toArray e1 (.ref kS) ks.toArray) P E s) :
    wpAny (model prog w) A (ksk_rest a f false vs.toArray e1 (.ref kS)) P E s := by
  unfold ksk_rest
  refine wpAny_bind (wpAny_rule ?_)
  first
    | rw [List.forIn_toArray]
    | (rw [← Array.forIn_toList]; simp only [List.toList_toArray])
    | rw [← Array.forIn_toList]
  refine wpAny_bind (ksk_fold (fun i s' => ∃ ks, J i ks s') vs 0 s ⟨[], h0⟩ ?step ?done)
  case step =>
    rintro j x s' hx ⟨ks, hJ⟩
    rw [Nat.zero_add] at hJ ⊢
    obtain ⟨hkl, hcall⟩ := step j x ks s' hx hJ
    have hj : j < vs.length := (List.getElem?_eq_some_iff.mp hx).1
    refine wpAny_bind (wpAny_attempt (wpAny_mono hcall (fun k s'' he => ?_) fun _ _ hF => hF.elim))
    obtain ⟨e, hk, hJ'⟩ := he
    try dsimp only
    refine wpAny_bind (listUpdate_at hk rfl ?_ (by rw [List.size_toArray, sizeLine_eq]; omega) (Nat.le_trans (Nat.le_of_eq (Array.size_push ..)) (by rw [List.size_toArray, sizeLine_eq]; omega)))
    exact wpAny_pure ⟨rfl, _, hJ'⟩
  case done =>
    rintro s' ⟨ks, hJ⟩
    rw [Nat.zero_add] at hJ
    obtain ⟨e, hk, hd⟩ := done ks s' hJ
    try dsimp only
    exact wpAny_bind (listItems_at hk rfl hd)
theorem key_sort {f : Value} {n : Nat} (ho : s.heap.get? a = some (seqObj "list" vs.toArray n)) (h64 : vs.length < 64)
    (h : ∀ (h' : Heap) (kS : Addr) (e1 : Nat), (∀ b o, b ≠ a → s.heap.get? b = some o → h'.get? b = some o) → s.heap.objs.size ≤ kS → h'.get? kS = some (seqObj "list" #[] 0) → h'.get? a = some (seqObj "list" #[] e1) → (∀ b, s.heap.objs.size ≤ b → b < h'.objs.size → True) →
      wpAny (model prog w) A (ksk_rest a f false vs.toArray e1 (.ref kS)) P E { s with heap := h' }) :
    wpAny (model prog w) A (ksk_tree a f false) P E s := by
  have ha : a < s.heap.objs.size := Heap.lt_size ho
  have s1 := Heap.SameBut.update s.heap a (Obj.mapSeq fun _ => (#[] : Array Value))
  obtain ⟨e1, ho1⟩ : ∃ e1, (s.heap.update a (Obj.mapSeq fun _ => (#[] : Array Value))).get? a = some (seqObj "list" #[] e1) := ⟨_, get?_update_seq ho fun _ => #[]⟩
  have hkS : ((s.heap.update a (Obj.mapSeq fun _ => (#[] : Array Value))).push (seqObj "tuple" vs.toArray 0)).objs.size = s.heap.objs.size + 1 := by rw [size_push', Heap.size_update]
  unfold ksk_tree
  refine wpAny_bind (listItems_at ho rfl ?_)
  refine wpAny_bind (listUpdate_at ho rfl ?_ (by rw [List.size_toArray, sizeLine_eq]; omega) (Nat.zero_le _))
  refine wpAny_bind (seqEpoch_at ho1 rfl ?_)
  refine wpAny_bind (wpAny_newTuple ?_ (by show vs.length ≤ _; rw [sizeLine_eq]; omega))
  refine wpAny_bind (wpAny_newList ?_ (Nat.zero_le _))
  refine wpAny_holding ?_
  refine h (((s.heap.update a (Obj.mapSeq fun _ => (#[] : Array Value))).push (seqObj "tuple" vs.toArray 0)).push (seqObj "list" #[] 0)) _ e1 (fun b o hb e => ?_) (by rw [hkS]; omega) (Heap.get?_push_size _ rfl) (Heap.get?_push_of_some _ (Heap.get?_push_of_some _ ho1)) (fun _ _ _ => trivial)
  exact Heap.get?_push_of_some _ (Heap.get?_push_of_some _ ((s1.2 b hb).trans e))
theorem key_sorted {l q : Addr} {Q : Value → Shared → Prop} {G : List Value → Prop} (h64 : ∀ vs, G vs → vs.length < 64)
    (hcol : ∀ (Q : List Value → Shared → Prop), (∀ vs h1 tk, G vs → (∀ b o, s.heap.get? b = some o → h1.get? b = some o) → Q vs { s with heap := h1, toks := tk }) → wpAny (model prog w) A.in1 (collect (.ref l)) Q (fun _ _ => False) s)
    (h : ∀ (vs : List Value) (h1 h' : Heap) (tk : Nat) (a kS : Addr) (e1 : Nat), G vs → (∀ b o, s.heap.get? b = some o → h1.get? b = some o) → (∀ b o, h1.get? b = some o → h'.get? b = some o) → h1.objs.size ≤ a → a < kS → h'.get? kS = some (seqObj "list" #[] 0) → h'.get? a = some (seqObj "list" #[] e1) →
      wpAny (model prog w) A.in1.in1 (ksk_rest a (.ref q) false vs.toArray e1 (.ref kS)) (fun r s' => r = .done (.ret .none) ∧ Q (.ref a) s') (fun _ _ => False) { s with heap := h', toks := tk }) :
    wpAny (model prog w) A (call (.builtin "sorted") [.ref l] [(Str.ofString "key", .ref q)]) Q E s := by
  refine call_function_entry_kw kind_sorted plain_sorted entry_sorted (ksk_s1 _ _) ?_
  unfold Builtin.«sorted»
  refine wpAny_bind (m := checkCount "sorted" 1 1 _) (wpAny_pure ?_)
  refine wpAny_bind (wpAny_mono (hcol _ fun vs h1 tk g1 k1 => ?_) (fun _ _ x => x) fun _ _ x => x.elim)
  have h64 := h64 vs g1
  refine wpAny_bind (wpAny_newList ?_ (by rw [sizeLine_eq]; omega))
  have hoL : (h1.push (seqObj "list" vs.toArray 0)).get? h1.objs.size = some (seqObj "list" vs.toArray 0) := Heap.get?_push_size _ rfl
  show wpAny _ _ _ _ _ { s with heap := h1.push (seqObj "list" vs.toArray 0), toks := tk }
  refine wpAny_bind (wpAny_holding (wpAny_call_entry_kw slot_list_sort ⟨_, hoL, rfl⟩ entry_list_sort ?body (ksk_l1 _ _)))
  case body =>
    show wpAny (model prog w) A.in1.in1 (Builtin.«list.sort» ⟨[.ref h1.objs.size], [(Str.ofString "key", .ref q)]⟩) _ _ _
    rw [ksk_t1]
    refine key_sort (s := { s with heap := h1.push (seqObj "list" vs.toArray 0), toks := tk }) hoL h64 fun h' kS e1 k2 hk1 hk2 hk3 _ => ?_
    have hlt : h1.objs.size < kS := by
      have := hk1
      rw [show ({ s with heap := h1.push (seqObj "list" vs.toArray 0), toks := tk } : Shared).heap.objs.size = h1.objs.size + 1 from size_push' ..] at this
      omega
    refine wpAny_mono (h vs h1 h' tk h1.objs.size kS e1 g1 k1 (fun b o e => k2 b o (Nat.ne_of_lt (Heap.lt_size e)) (Heap.get?_push_of_some _ e)) (Nat.le_refl _) hlt hk2 hk3) (fun r s' hr => ?_) fun _ _ x => x.elim
    obtain ⟨rfl, hq⟩ := hr
    exact ⟨_, rfl, wpAny_pure ⟨_, rfl, hq⟩⟩
theorem collect_range {r : Addr} {x b c : Int} {t u v : Tok} {n : Nat} {Q : List Value → Shared → Prop} (hh : A.handled = none) (hr : IsRange s.heap r x b c t u v) (hsmall : Builtin.Range.small x b c = true) (hn : Builtin.Range.rangeSize x b c = n) (hlen : n ≤ 2 ^ 24)
    (hQ : ∀ h' tk (acc : Array Value), (∀ b o, s.heap.get? b = some o → h'.get? b = some o) → ItemsOf (fun i v => ∃ t, v = .int (x + i * c) t) acc n → Q acc.toList { s with heap := h', toks := tk }) :
    wpAny (model prog w) A (collect (.ref r)) Q E s := by
  unfold collect
  refine wpAny_bind (wpAny_runValue (codeAny_builtin PySem.F.entry_proto_collect ?_))
  rw [Around.under_plainId PySem.F.plain_proto_collect _]
  show wpAny _ A.in1 (newList [] >>= fun l => again (.builtin "list.__iadd__" ⟨[l, .ref r], []⟩)) _ _ s
  refine wpAny_bind (wpAny_newObj_type ?_)
  refine wpAny_pure ⟨plainId_quiet PySem.F.plain_list_iadd _, codeAny_builtin PySem.F.entry_list_iadd ?_⟩
  rw [Around.under_plainId PySem.F.plain_list_iadd _]
  show wpAny _ A.in1 (Builtin.List.listExtendWith (.ref s.heap.objs.size) (.ref r) (.ref s.heap.objs.size)) _ _ _
  have hS : (s.heap.push { cls := .type "list", data := .seq ([] : List Value).toArray }).get? s.heap.objs.size = some { cls := .type "list", data := .seq #[] 0 } := Heap.get?_push_size _ rfl
  refine wpAny_mono (wpAny_extend_range (A := A) (s := { s with heap := s.heap.push { cls := .type "list", data := .seq ([] : List Value).toArray } }) (R := fun r' s' => r' = .ok (.ret (.ref s.heap.objs.size)) ∧ ∃ h' tk acc c', s' = { s with heap := h', toks := tk } ∧ (∀ b o, s.heap.get? b = some o → h'.get? b = some o) ∧ h'.get? s.heap.objs.size = some { cls := .type "list", dict := none, data := .seq acc c', slots := #[] } ∧ ItemsOf (fun i v => ∃ t, v = .int (x + i * c) t) acc n)
    hh (Heap.get?_push_of_some _ hr) hsmall hn hlen s.heap.objs.size _ 0 hS fun h' tk acc c' k g i => ⟨rfl, h', tk, acc, c', rfl, fun b o e => k b o (Nat.ne_of_lt (Heap.lt_size e)) (Heap.get?_push_of_some _ e), g, i⟩) (fun fin s' hf => ?_) (fun e s' hf => ?_)
  · have fin' : ∀ s', (∃ h' tk acc c', s' = { s with heap := h', toks := tk } ∧ (∀ b o, s.heap.get? b = some o → h'.get? b = some o) ∧ h'.get? s.heap.objs.size = some { cls := .type "list", dict := none, data := .seq acc c', slots := #[] } ∧ ItemsOf (fun i v => ∃ t, v = .int (x + i * c) t) acc n) →
      wpAny (model prog w) A (match Value.ref s.heap.objs.size with
      | Value.ref a => do
        match (← load a).data with
          | Data.seq xs _ => pure xs.toList
          | _ => unsupported "internal:collect"
      | _ => unsupported "internal:collect") Q E s' := by
      rintro s' ⟨h', tk, acc, c', rfl, k, g, i⟩
      show wpAny _ A (load s.heap.objs.size >>= _) _ _ _
      exact wpAny_bind (wpAny_load g (wpAny_pure (hQ h' tk acc k i)))
    cases fin with
    | done f =>
      obtain ⟨e, hx⟩ := hf
      cases e
      exact fin' _ hx
    | again c' => exact ⟨hf.1, codeAny_mono hf.2 fun r' s'' hr => by obtain ⟨rfl, hx⟩ := hr; exact fin' _ hx⟩
  · exact absurd hf.1 (by simp)
end
end HT
namespace L2
open PySem PySem.Spec PyProof.Rows PySem.W
noncomputable def cxLam (X : Cx) (N : List Str) (qual : Str) (scope : Scope) (f c' : Addr) (cl : List (Str × Addr)) (A : Around) (C : Addr) (s : Shared) (H : Hp) : Cx :=
  { X with A := A.deeper (envX qual scope C f (.ref c') cl), N := N, s₀ := s, H₀ := H, env := envX qual scope C f (.ref c') cl, outer := X.stack, stack := envX qual scope C f (.ref c') cl :: X.stack, ex := [], fn := fun _ => false, calm := true, pn := [], xe := fun _ _ => False }
noncomputable def FlOk (X : Cx) (scope : Scope) (cl : List (Str × Addr)) : List Str → Prop
  | [] => True
  | x :: r => (X.env.kindOf x = some .cell ∧ scope.names.lookup x = some .free ∧ ∃ c, cl.lookup x = some c ∧ X.env.cells.lookup x = some c) ∧ FlOk X scope cl r
theorem FlOk.mem {X : Cx} {scope : Scope} {cl : List (Str × Addr)} : ∀ {l : List Str}, FlOk X scope cl l → ∀ x ∈ l,
    X.env.kindOf x = some .cell ∧ scope.names.lookup x = some .free ∧ ∃ c, cl.lookup x = some c ∧ X.env.cells.lookup x = some c
  | [], _, _, h => nomatch h
  | y :: r, ⟨h1, h2⟩, x, h => by
    rcases List.mem_cons.mp h with e | e
    · subst e; exact h1
    · exact FlOk.mem h2 x e
structure LamOk (X : Cx) (N : List Str) (x : Str) (frs : List Str) (ix : List Nat) (scope : Scope) (cl : List (Str × Addr)) : Prop where
  clos : closureFor scope X.env = pure cl
  cell : ∀ y ∈ scope.names, y.2 ≠ .cell
  kind : scope.kind = .function
  par : scope.names.lookup x = some .local
  nm : N = x :: frs
  ixs : ix.map (X.N[·]?) = frs.map some
  fr : FlOk X scope cl frs
  cls : ClOk X cl
  has : scope.names.all (fun p => !(p.2 == .cell || p.2 == .free) || (cl.lookup p.1).isSome) = true
  co : scope.isCoroutine = false
  gen : scope.isGenerator = false
noncomputable def stLam (ix : List Nat) (σ : St) (v : V) : St := some v :: ix.map fun j => (σ[j]?).getD none
section
variable {X : Cx} {N frs : List Str} {x qual : Str} {ix : List Nat} {scope : Scope} {cl : List (Str × Addr)} {A : Around} {f c' C : Addr}
theorem LamOk.hasOf (c : LamOk X N x frs ix scope cl) {y : Str} (h : scope.names.lookup y = some .cell ∨ scope.names.lookup y = some .free) : ∃ a, cl.lookup y = some a := by
  have all := List.all_eq_true.mp c.has
  rcases h with h | h
  · have q := all _ (lookup_mem h)
    exact Option.isSome_iff_exists.mp (by simpa only [beq_self_eq_true, Bool.true_or, Bool.not_true, Bool.false_or] using q)
  · have q := all _ (lookup_mem h)
    exact Option.isSome_iff_exists.mp (by simpa only [beq_self_eq_true, Bool.or_true, Bool.not_true, Bool.false_or] using q)
theorem inv_lam {pins : List (Addr × Obj)} {σ : St} {H : Hp} {s : Shared} {h1 : Heap} {tk : Nat} {m : Str → Option Value} {v : V} {u : Value} (c : LamOk X N x frs ix scope cl) (I : Inv X pins σ H s) (hA : A.frames = some X.stack) (hh : A.handled = none)
    (hC : s.heap.objs.size ≤ C) (hns : h1.Ns C m) (hm : m x = some u) (r : RelV v u) (hk : ∀ b o, s.heap.get? b = some o → h1.get? b = some o) :
    Inv (cxLam X N qual scope f c' cl A C s H) [] (stLam ix σ v) H { s with heap := h1, toks := tk } := by
  have hcn : ∀ x a, cl.lookup x = some a → X.env.cells.lookup x = some a := c.cls.get
  refine ⟨⟨I.ok.mod, c.kind, rfl, rfl, hC, fun x y a h1 h2 => I.ok.inj x y a (hcn _ _ h1) (hcn _ _ h2), fun x hx => c.hasOf hx, (fun x a z _ => Bool.noConfusion z), fun _ => hh, ?_, .inr ⟨rfl, rfl⟩, fun b hb => (by cases hb), I.bs, Nat.le_trans I.ok.bsz I.sz, fun b o e hb => (by cases hb), fun b hb z => (by cases hb), I.stack, I.stkFree⟩,
    rfl, I.bare, Un.kept hk, ⟨m, hns, fun i y w e1 e2 e3 => ?_⟩, fun x a e => ?_, I.hok.fresh hC, fun x a e => I.freeC x a (hcn x a e), fun p hp => (by cases hp), I.hok.kept hk, ?_⟩
  · show (A.deeper _).frames = some _
    simp only [Around.deeper, hA]
    rfl
  · rw [show (cxLam X N qual scope f c' cl A C s H).N = x :: frs from c.nm] at e1
    match i, e1, e2 with
    | 0, e1, e2 =>
      cases e1; cases e2
      exact ⟨u, r, .inl ⟨c.par, hm⟩⟩
    | i + 1, e1, e2 =>
      have e1 : frs[i]? = some y := by simpa using e1
      have e2 : (ix.map fun j => (σ[j]?).getD none)[i]? = some (some w) := e2
      have hy : y ∈ frs := List.mem_of_getElem? e1
      obtain ⟨k1, k2, a, l1, l2⟩ := c.fr.mem y hy
      have e := congrArg (·[i]?) c.ixs
      simp only [List.getElem?_map, e1] at e
      rw [List.getElem?_map] at e2
      cases q : ix[i]? with
      | none => rw [q] at e; cases e
      | some j =>
        rw [q] at e e2
        simp only [Option.map_some, Option.some.injEq] at e e2
        have n2 : σ[j]? = some (some w) := by
          cases z : σ[j]? with
          | none => rw [z] at e2; cases e2
          | some o => rw [z] at e2; simp at e2; rw [e2]
        obtain ⟨m', _, hl⟩ := I.loc
        obtain ⟨u', r', l⟩ := hl j y w e n2 (.inr (.inl k1))
        refine ⟨u', r', .inr ⟨.inr k2, a, l1, ?_⟩⟩
        rcases l with ⟨l, _⟩ | ⟨_, a', l3, o, l4, l5⟩
        · rw [k1] at l; cases l
        · rw [l2] at l3; cases l3
          exact ⟨o, hk _ _ l4, l5⟩
  · obtain ⟨v, o, q1, q2⟩ := I.cell x a (hcn x a e)
    exact ⟨v, o, hk _ _ q1, q2⟩
  · show (stLam ix σ v).length = N.length
    unfold stLam
    have e := congrArg List.length c.ixs
    simp only [List.length_map] at e
    rw [c.nm]; simp [e]
theorem lam_call {pins : List (Addr × Obj)} {σ : St} {H : Hp} {s : Shared} {name : Str} {params : Arguments} {body : Expr} {pm ctv : Value} {te : TE} {Q : VK} {v : V} {u : Value} (c : LamOk X N x frs ix scope cl) (I : Inv X pins σ H s) (hA : A.frames = some X.stack) (hh : A.handled = none) (hroom : A.depth < recursionLimit)
    (hf : s.heap.get? f = some (kla_obj name qual params body scope cl pm c' ctv)) (hcd : s.heap.CodeRec (.ref c') qual) (hbind : bindArgs (kla_fn name qual params body scope cl pm (.ref c') ctv) ⟨[u], []⟩ = pure [(x, u)]) (r : RelV v u)
    (he : ∀ C s H, PE (cxLam X N qual scope f c' cl A C s H) body te) (q : te (stLam ix σ v) H Q) : wpAny (model X.prog X.w) A (call (.ref f) [u]) (EP X pins σ Q) (fun _ _ => False) s := by
  refine wpAny_call (codeAny_mono (R := fun r s' => match r with
    | .ok (.ret u) => CE X.stack X.prog X.w H s Q u s'
    | _ => False) (kla_callFunE hroom hf rfl c.co c.gen rfl hcd ?_) fun r s' hr => ?_)
  · rw [hbind]
    refine wpAny_pure (wpAny_newFunctionEnv c.cell (fun y hy => by rw [List.mem_singleton.mp hy]; exact c.par) (fun h₁ hns hsb => ⟨(I.nolimit).fresh _ hsb, ?_⟩) c.kind)
    have hk₁ : ∀ b o, s.heap.get? b = some o → h₁.get? b = some o := fun b o e => hsb.extBut b o (Nat.ne_of_lt (Heap.lt_size e)) (Heap.get?_push_of_some _ e)
    show codeAny _ _ (.expr body (envX qual scope s.heap.objs.size f (.ref c') cl)) _ _
    have I1 := inv_lam (qual := qual) (f := f) (c' := c') (tk := s.toks + [(x, u)].length) c I hA hh (Nat.le_refl _) hns (by show ([(x, u)].reverse).lookup x = some u; simp) r hk₁
    refine kla_codeExpr (wpAny_mono (he _ _ _ [] _ _ H Q I1 q) (fun w s' hs => ?_) fun _ _ z => (by exact z.elim))
    obtain ⟨y, H', J, rv, hq⟩ := hs
    exact ⟨y, H', J.os, J.bare, J.base, J.hok, rv, hq⟩
  · match r, hr with
    | .ok (.ret u'), hr => exact I.after hr
end
end L2

namespace L2
open PySem PySem.Spec PyProof.Rows PySem.W
noncomputable def codeφ (c' : Addr) (qual : Str) : HO := .ext fun h => h.CodeRec (.ref c') qual
noncomputable def TabOk (P : Addr) (lpos : Pos) (qual : Str) (H : Hp) : Prop := H P = some (.tbl #[]) ∨ ∃ c', H P = some (.tbl #[rawInt lpos.line, rawInt lpos.col, .ref c']) ∧ H c' = some (codeφ c' qual)
noncomputable def SameX (P : Addr) (H H' : Hp) : Prop := ∀ b o, b ≠ P → H b = some o → H' b = some o
theorem SameX.refl (P : Addr) (H : Hp) : SameX P H H := fun _ _ _ h => h
theorem SameX.trans {P : Addr} {H H1 H2 : Hp} (a : SameX P H H1) (b : SameX P H1 H2) : SameX P H H2 := fun c u n e => b c u n (a c u n e)
theorem Same.x {P : Addr} {H H1 : Hp} (a : Same H H1) : SameX P H H1 := fun c u _ e => a c u e
theorem TabOk.ne {P : Addr} {lpos : Pos} {qual : Str} {H : Hp} (t : TabOk P lpos qual H) {b : Addr} {xs : List V} (h : H b = some (.lst xs)) : b ≠ P := fun e => by
  subst e
  rcases t with t | ⟨c, t, _⟩ <;> rw [h] at t <;> cases t
theorem TabOk.neT {P : Addr} {lpos : Pos} {qual : Str} {H : Hp} (t : TabOk P lpos qual H) {b : Addr} {xs : List V} (h : H b = some (.tup xs)) : b ≠ P := fun e => by
  subst e
  rcases t with t | ⟨c, t, _⟩ <;> rw [h] at t <;> cases t
theorem TabOk.same {P : Addr} {lpos : Pos} {qual : Str} {H H1 : Hp} (t : TabOk P lpos qual H) (s : Same H H1) : TabOk P lpos qual H1 := by
  rcases t with t | ⟨c, t, u⟩
  · exact .inl (s _ _ t)
  · exact .inr ⟨c, s _ _ t, s _ _ u⟩
section
variable {X : Cx} {N frs : List Str} {x : Str} {ix : List Nat} {scope : Scope} {cl : List (Str × Addr)} {A : Around} {cc P : Addr} {pins : List (Addr × Obj)} {σ : St} {H : Hp} {s : Shared} {params : Arguments} {body : Expr} {lpos : Pos}
theorem objOk_code {P : Program} {w : World} {H : Hp} {h : Heap} {c' : Addr} {qual : Str} (e : h.CodeRec (.ref c') qual) : ObjOk P w H h c' (codeφ c' qual) := by
  obtain ⟨c, o, vs, t, e1, e2, e3, e4⟩ := id e
  cases e1
  refine ⟨e, ⟨o, e2⟩, fun h1 h2 hφ k => ?_⟩
  obtain ⟨c2, o2, vs2, t2, f1, f2, f3, f4⟩ := hφ
  cases f1
  exact ⟨_, o2, vs2, t2, rfl, k _ f2, f3, f4⟩
theorem lam_make {M : Model} {E : Value → Shared → Prop} {Q : Value → Shared → Prop} (hcl : closureFor scope X.env = pure cl) (I : Inv X pins σ H s) (hcode : X.env.code = .ref cc) (hcd : codeHdIn X.K cc P = true) (hb : X.base.BuiltinsAt X.mg P) (hdef : defaultsOf params X.env = ([], [])) (T : TabOk P lpos (X.env.qual ++ "<lambda>") H)
    (h : ∀ f c' pm ctv H' s', Inv X ((f, kla_obj "<lambda>" (X.env.qual ++ "<lambda>") params body scope cl pm c' ctv) :: pins) σ H' s' → TabOk P lpos (X.env.qual ++ "<lambda>") H' → SameX P H H' → H' c' = some (codeφ c' (X.env.qual ++ "<lambda>")) → Q (.ref f) s') :
    wpAny M A (eval (.Lambda params body scope lpos) X.env) Q E s := by
  refine kla_eval hdef ?_
  have hg : s.heap.Ns mainGlobals X.mg := I.mod.glob.keeps I.bk
  have C : CodeHd s.heap cc P := codeHd_of_K I.kIn hcd
  have hbs : s.heap.BuiltinsAt X.mg P := by
    obtain ⟨bm, o, b1, b2, b3, b4, b5, b6⟩ := hb
    exact ⟨bm, o, b1, b2, b3, b4, I.bk _ _ b5, b6⟩
  have hPL : ∀ ps, H P = some (.tbl ps) → P ≠ X.env.locals := fun ps e z => by rw [z, I.free] at e; cases e
  have hPc : ∀ ps, H P = some (.tbl ps) → ∀ x c, X.env.cells.lookup x = some c → c ≠ P := fun ps e x c h1 z => by rw [← z, I.freeC x c h1] at e; cases e
  have hgP : ∀ ps, H P = some (.tbl ps) → mainGlobals ≠ P := fun ps e z => by
    obtain ⟨o, es, ep, ho, _⟩ := I.mod.glob
    rw [← z, (I.bs _ _ ho).2] at e; cases e
  rcases T with T | ⟨c', T, Tc⟩
  · have hP : s.heap.get? P = some (tabObj #[]) := I.hok P _ T
    refine kla_makeFunction (mg := X.mg) hcl I.ok.glob hg hcode C hP trivial rfl (hgP _ T) hbs fun c' ctv h' tk hx hge hlt hrec htb => ?_
    have htb' : h'.get? P = some (tabObj #[rawInt lpos.line, rawInt lpos.col, .ref c']) := htb
    have nP : ∀ (b : Addr) (u : Obj), H b = none → b ≠ P := fun b u n z => by rw [z, T] at n; cases n
    have hcP : c' ≠ P := Nat.ne_of_gt (Nat.lt_of_lt_of_le (I.hok.lt T) hge)
    have I1 : Inv X pins σ (upd H P (.tbl #[rawInt lpos.line, rawInt lpos.col, .ref c'])) { s with heap := h', toks := tk } := by
      refine I.step (g' := s.gens) (d' := s.drawn) (ch := []) (fun _ z => nomatch z) (fun b o _ _ _ e n => hx b o (nP b o n) e) (fun b o _ _ _ e n => ⟨o.slots, hx b o (nP b o n) e⟩) (fun b o _ e n => by rw [upd_ne (nP b o n)]; exact n) (fun b o _ e => ?_)
        (fun b xs e => ?_) (fun b o u e => ?_) (fun b ps e => ?_) (fun m hm => ?_) (fun b u e => ?_) I.bare
      · by_cases hb : b = P
        · exact ⟨_, hb ▸ htb'⟩
        · exact ⟨o, hx b o hb e⟩
      · rw [upd_ne (ne_of e T (by intro z; cases z))]; exact e
      · rw [upd_ne (ne_of e T (by intro z; cases z))]; exact e
      · by_cases hb : b = P
        · subst hb
          rw [T] at e
          cases e
          exact ⟨#[rawInt lpos.line, rawInt lpos.col, .ref c'], by rw [upd_same]; rfl⟩
        · exact ⟨#[], by rw [upd_ne hb, e]; simp⟩
      · obtain ⟨o, es, ep, ho, r⟩ := hm
        exact ⟨o, es, ep, hx _ o (Ne.symm (hPL _ T)) ho, r⟩
      · by_cases hb : b = P
        · subst hb
          rw [upd_same] at e
          cases e
          exact htb'
        · rw [upd_ne hb] at e
          refine (I.hok b u e).stay (fun c v hc q => hx c v ?_ q) (fun c q => by rw [upd_ne (ne_of q T (by intro z; cases z))]; exact q) fun c xs q => by rw [upd_ne (ne_of q T (by intro z; cases z))]; exact q
          rcases hc with z | z
          · rw [z]; exact hb
          · exact ne_of z T (by intro z; cases z)
    have hcn : (upd H P (.tbl #[rawInt lpos.line, rawInt lpos.col, .ref c'])) c' = none := by rw [upd_ne hcP]; exact I.hok.fresh hge
    obtain ⟨q0, q1, q2, q3, q4, q5⟩ := I.fpOk (b := c') (H' := fun _ => none) hge rfl
    have I2 := I1.adopt (D := c') (o := codeφ c' (X.env.qual ++ "<lambda>")) hcn q1 q3 q4 q5 (objOk_code hrec)
    have I3 : Inv X pins σ _ { s with heap := h'.push (kla_obj "<lambda>" (X.env.qual ++ "<lambda>") params body scope cl ((X.mg "__name__").getD .none) c' ctv), toks := tk } := I2.kept (t' := tk) fun b o e => Heap.get?_push_of_some _ e
    have hfn : (upd (upd H P (.tbl #[rawInt lpos.line, rawInt lpos.col, .ref c'])) c' (codeφ c' (X.env.qual ++ "<lambda>"))) h'.objs.size = none := I2.hok.fresh (Nat.le_refl _)
    obtain ⟨r0, r1, r2, r3, r4, r5⟩ := I2.fpOk (b := h'.objs.size) (H' := fun _ => none) (Nat.le_refl _) rfl
    have I4 := I3.pins_of (pins' := (h'.objs.size, kla_obj "<lambda>" (X.env.qual ++ "<lambda>") params body scope cl ((X.mg "__name__").getD .none) c' ctv) :: pins) fun p hp => by
      rcases List.mem_cons.mp hp with rfl | hp
      · exact ⟨Heap.get?_push_size _ rfl, hfn, r1, r2, fun v z => by cases z⟩
      · exact I3.pin p (List.mem_append_right _ hp)
    refine h _ c' _ ctv _ _ I4 (.inr ⟨c', by rw [upd_ne (Ne.symm hcP), upd_same], upd_same⟩) (fun b o hb e => ?_) upd_same
    rw [upd_ne (fun z => by rw [z, I.hok.fresh hge] at e; cases e), upd_ne hb]; exact e
  · have hP : s.heap.get? P = some (tabObj #[rawInt lpos.line, rawInt lpos.col, .ref c']) := I.hok P _ T
    refine kla_makeFunctionHit (mg := X.mg) (cv := .ref c') hcl I.ok.glob hg hcode C hP (show TriplesOk [_, _, _] from trivial) (codeAmong_snoc [] trivial rfl) hbs fun ctv h' tk hk hsz => ?_
    have I1 : Inv X pins σ H { s with heap := h', toks := tk } := I.kept (t' := tk) hk
    have I3 : Inv X pins σ H { s with heap := h'.push (kla_obj "<lambda>" (X.env.qual ++ "<lambda>") params body scope cl ((X.mg "__name__").getD .none) c' ctv), toks := tk } := I1.kept (t' := tk) fun b o e => Heap.get?_push_of_some _ e
    obtain ⟨r0, r1, r2, r3, r4, r5⟩ := I1.fpOk (b := h'.objs.size) (H' := fun _ => none) (Nat.le_refl _) rfl
    have I4 := I3.pins_of (pins' := (h'.objs.size, kla_obj "<lambda>" (X.env.qual ++ "<lambda>") params body scope cl ((X.mg "__name__").getD .none) c' ctv) :: pins) fun p hp => by
      rcases List.mem_cons.mp hp with rfl | hp
      · exact ⟨Heap.get?_push_size _ rfl, I1.hok.fresh (Nat.le_refl _), r1, r2, fun v z => by cases z⟩
      · exact I3.pin p (List.mem_append_right _ hp)
    exact h _ c' _ ctv _ _ I4 (.inr ⟨c', T, Tc⟩) (SameX.refl _ _) Tc
noncomputable def KeyR (H : Hp) (ys : List V) (lt : Nat → Nat → Bool) : Prop :=
  (∃ ns : List Int, ys = ns.map V.int ∧ lt = fun i j => decide (ns.getD i 0 < ns.getD j 0)) ∨
  (∃ (rs : List Addr) (rss : List (List Int)), ys = rs.map V.ref ∧ rs.length = rss.length ∧ (∀ (i : Nat) a r, rs[i]? = some a → rss[i]? = some r → H a = some (.tup (r.map V.int))) ∧ ((∀ r ∈ rss, r = []) ∨ (∀ r ∈ rss, r ≠ [])) ∧ lt = fun i j => HT.lexLt (rss.getD i []) (rss.getD j []))
theorem KeyR.lt {H : Hp} {ys : List V} {lt : Nat → Nat → Bool} (k : KeyR H ys lt) : Lt lt := by
  rcases k with ⟨ns, _, rfl⟩ | ⟨rs, rss, _, _, _, _, rfl⟩
  · exact HT.lt_ints ns
  · exact HT.lt_lex rss
theorem KeyR.ask {ys : List V} {lt : Nat → Nat → Bool} {ks : List Value} (k : KeyR H ys lt) (I : Inv X pins σ H s) (hu : A.units < cLine) (rv : Vals ys ks) : ∃ κ : SortKind,
    (∀ (Q : SortKind → Shared → Prop), 2 ≤ ks.length → Q κ s → wpAny (model X.prog X.w) A (keyKind' ks.toArray) Q (fun _ _ => False) s) ∧
    (∀ i j (Q : Bool → Shared → Prop), i < ks.length → j < ks.length → Q (lt i j) s → wpAny (model X.prog X.w) A (keyLt' κ (ks.getD i Value.none) (ks.getD j Value.none)) Q (fun _ _ => False) s) := by
  rcases k with ⟨ns, rfl, rfl⟩ | ⟨rs, rss, rfl, hlen, ht, hw, rfl⟩
  · have hi := intsAre_of rv
    refine ⟨oneType', fun Q h2 hQ => ?_, fun i j Q hi1 hj1 hQ => ?_⟩
    · obtain ⟨v₁, v₂, rest, rfl⟩ : ∃ v₁ v₂ rest, ks = v₁ :: v₂ :: rest := by
        match ks, h2 with
        | v₁ :: v₂ :: rest, _ => exact ⟨v₁, v₂, rest, rfl⟩
      rw [keyKind_ints hi]
      exact wpAny_pure hQ
    · obtain ⟨t1, e1⟩ := HT.ints_at hi hi1
      obtain ⟨t2, e2⟩ := HT.ints_at hi hj1
      rw [e1, e2, keyLt'_oneType]
      exact oneLt_int hQ
  · obtain rfl := vals_refs rv
    have hl : (rs.map Value.ref).length = rs.length := List.length_map _
    have tup : ∀ (i : Nat) v r, (rs.map Value.ref)[i]? = some v → rss[i]? = some r → ∃ a its, v = .ref a ∧ IsTup s.heap a its ∧ IntsAre its.toList r := fun i v r e1 e2 => by
      rw [List.getElem?_map] at e1
      obtain ⟨a, ea, rfl⟩ := Option.map_eq_some_iff.mp e1
      obtain ⟨its, r1, hT, _⟩ := I.tuple (SqT.of (ht i a r ea e2))
      exact ⟨a, its.toArray, rfl, hT, intsAre_of r1⟩
    have get : ∀ i, i < (rs.map Value.ref).length → (rs.map Value.ref)[i]? = some ((rs.map Value.ref).getD i Value.none) ∧ rss[i]? = some (rss.getD i []) := fun i hi => by
      have h2 : i < rss.length := by omega
      constructor
      · rw [List.getD_eq_getElem?_getD, List.getElem?_eq_getElem hi]; rfl
      · rw [List.getD_eq_getElem?_getD, List.getElem?_eq_getElem h2]; rfl
    rcases hw with hw | hw
    · refine ⟨oneType', fun Q h2 hQ => HT.kind_nil h2 (fun v hv => ?_) hQ, fun i j Q hi hj hQ => ?_⟩
      · obtain ⟨i, hi, ei⟩ := List.getElem_of_mem hv
        obtain ⟨g1, g2⟩ := get i hi
        obtain ⟨a, its, rfl, t, ti⟩ := tup i v _ (by rw [List.getElem?_eq_getElem hi, ei]) g2
        rw [hw _ (List.mem_of_getElem? g2)] at ti
        obtain ⟨its'⟩ := its
        cases ti
        exact ⟨a, rfl, t⟩
      · obtain ⟨g1, g2⟩ := get i hi
        obtain ⟨k1, k2⟩ := get j hj
        obtain ⟨a, its, e, t, ti⟩ := tup i _ _ g1 g2
        obtain ⟨a', its', e', t', ti'⟩ := tup j _ _ k1 k2
        rw [e, e']
        exact HT.ask_one hu t t' ti ti' hQ
    · refine ⟨tuples' true, fun Q h2 hQ => HT.kind_tups h2 (by omega) tup hw hQ, fun i j Q hi hj hQ => ?_⟩
      obtain ⟨g1, g2⟩ := get i hi
      obtain ⟨k1, k2⟩ := get j hj
      obtain ⟨a, its, e, t, ti⟩ := tup i _ _ g1 g2
      obtain ⟨a', its', e', t', ti'⟩ := tup j _ _ k1 k2
      rw [e, e']
      exact HT.ask_tups t t' ti ti' hQ
noncomputable def keyed (te : TE) (ix : List Nat) (xs : List V) (σ : St) (H : Hp) (Q : VK) : Prop := xs.length < 64 ∧
  ∃ W : Nat → List V → Hp → Prop, W 0 [] H ∧ (∀ i ys H x, xs[i]? = some x → W i ys H → te (stLam ix σ x) H fun y H' => Same H H' ∧ W (i + 1) (ys ++ [y]) H') ∧
    ∀ ys H, ys.length = xs.length → W xs.length ys H → ∃ lt, KeyR H ys lt ∧ ∀ (d : Addr) (p : List Nat), H d = none → p.Perm (List.range xs.length) → p.Pairwise (Ah lt) → Q (.ref d) (upd H d (.lst (p.map fun i => xs.getD i .non)))
theorem vals_get : ∀ {xs : List V} {us : List Value}, Vals xs us → ∀ {i : Nat} {u : Value}, us[i]? = some u → ∃ y, xs[i]? = some y ∧ RelV y u
  | _, _, .nil, _, _, h => by simp at h
  | _, _, .cons r t, 0, u, h => by cases h; exact ⟨_, rfl, r⟩
  | _, _, .cons r t, i + 1, u, h => by
    obtain ⟨y, e, q⟩ := vals_get t (i := i) (by simpa using h)
    exact ⟨y, by simpa using e, q⟩
theorem vals_perm {xs : List V} {us : List Value} (r : Vals xs us) {p : List Nat} (h : ∀ i ∈ p, i < us.length) : Vals (p.map fun i => xs.getD i .non) (p.map fun i => us.getD i Value.none) := by
  refine vals_map fun i hi => ?_
  have h1 := h i hi
  obtain ⟨y, e, q⟩ := vals_get r (List.getElem?_eq_getElem h1)
  rw [List.getD_eq_getElem?_getD, List.getD_eq_getElem?_getD, e, List.getElem?_eq_getElem h1]
  exact q
theorem sort_core {qual name : Str} {pm ctv : Value} {te : TE} {Q : VK} {l f c' : Addr} {xs : List V} (c : LamOk X N x frs ix scope cl) (hc : X.calm = true) (hroom : X.A.in1.in1.depth < recursionLimit) (hu : X.A.in1.in1.units < cLine)
    (I : Inv X ((f, kla_obj name qual params body scope cl pm c' ctv) :: pins) σ H s) (hH : H c' = some (codeφ c' qual)) (hbind : ∀ u, bindArgs (kla_fn name qual params body scope cl pm (.ref c') ctv) ⟨[u], []⟩ = pure [(x, u)])
    (he : ∀ C s H, PE (cxLam X N qual scope f c' cl X.A.in1.in1 C s H) body te)
    (hcol : ∀ (Q : List Value → Shared → Prop), (∀ vs h1 tk, Vals xs vs → (∀ b o, s.heap.get? b = some o → h1.get? b = some o) → Q vs { s with heap := h1, toks := tk }) → wpAny (model X.prog X.w) X.A.in1 (collect (.ref l)) Q (fun _ _ => False) s)
    (h : keyed te ix xs σ H Q) : wpAny (model X.prog X.w) X.A (call (.builtin "sorted") [.ref l] [(Str.ofString "key", .ref f)]) (EP X pins σ Q) X.xe s := by
  obtain ⟨h64, W, w0, wst, wfin⟩ := h
  refine HT.key_sorted (G := Vals xs) (fun vs g => by rw [← g.length]; exact h64) hcol fun vs h1 h' tk a kS e1 g k1 k2 ha hak hkS hoA => ?_
  have hvl : vs.length = xs.length := g.length.symm
  generalize hfo : kla_obj name qual params body scope cl pm c' ctv = fo at I
  have I1 : Inv X ((f, fo) :: pins) σ H { s with heap := h1, toks := tk } := I.kept (t' := tk) k1
  have I2 : Inv X ((f, fo) :: pins) σ H { s with heap := h', toks := tk } := I1.kept (t' := tk) k2
  obtain ⟨_, a1, a2, a3, a4, a5⟩ := I1.fpOk (b := a) (H' := fun _ => none) ha rfl
  have hak' : @LT.lt Nat _ a kS := hak
  have hk : h1.objs.size ≤ kS := Nat.le_of_lt (Nat.lt_of_le_of_lt ha hak')
  obtain ⟨_, b1, b2, b3, b4, b5⟩ := I1.fpOk (b := kS) (H' := fun _ => none) hk rfl
  have hka : kS ≠ a := Nat.ne_of_gt hak'
  have I3 : Inv X ((a, seqObj "list" #[] e1) :: (kS, seqObj "list" ([] : List Value).toArray 0) :: (f, fo) :: pins) σ H { s with heap := h', toks := tk } := I2.pins_of fun p hp => by
    rcases List.mem_cons.mp hp with rfl | hp
    · exact ⟨hoA, I1.hok.fresh ha, a1, a2, fun v z => by cases z⟩
    · rcases List.mem_cons.mp hp with rfl | hp
      · exact ⟨hkS, I1.hok.fresh hk, b1, b2, fun v z => by cases z⟩
      · exact I2.pin p (List.mem_append_right _ hp)
  have old : ∀ {pn : List (Addr × Obj)} {H' : Hp} {s' : Shared} {u : Obj} {it : Addr}, Inv X pn σ H' s' → H' it = none → it ≠ X.env.locals → (it ∈ X.ex ∨ X.s₀.heap.objs.size ≤ it) → (∀ x c, X.env.cells.lookup x = some c → c ≠ it) → (∀ p ∈ X.pn ++ pn, p.1 ≠ it) → ∀ g : Obj → Obj, Inv X pn σ H' { s' with heap := s'.heap.update it g } :=
    fun {pn H' s' u it} J n1 n2 n3 n4 n5 g => J.turned (t' := s'.toks) (it := it) (fun b o hb e => ((Heap.SameBut.update s'.heap it g).2 b hb).trans e) n1 n2 n3 n4 n5
  have pinF : ∀ p ∈ X.pn ++ ((f, fo) :: pins), p.1 ≠ a ∧ p.1 ≠ kS := fun p hp => ⟨a5 p hp, b5 p hp⟩
  refine HT.key_rest (fun i ks s' => ∃ ys H' e, Inv X ((a, seqObj "list" #[] e1) :: (kS, seqObj "list" ks.toArray e) :: (f, fo) :: pins) σ H' s' ∧ Vals ys ks ∧ W i ys H' ∧ H' c' = some (codeφ c' qual) ∧ ks.length = i) ⟨[], H, 0, I3, .nil, w0, hH, rfl⟩ (by omega) ?_ ?_
  · rintro i u ks s' hu' ⟨ys, H', e, J, rv, hw, hHc, hkl⟩
    refine ⟨hkl, ?_⟩
    obtain ⟨xv, ex, rx⟩ := vals_get g hu'
    have q := wst i ys H' xv ex hw
    have hfp := (J.pin (f, fo) (List.mem_append_right _ (.tail _ (.tail _ (.head _))))).1
    rw [← hfo] at hfp
    have hrec : s'.heap.CodeRec (.ref c') qual := (J.hok c' _ hHc).1
    refine wpAny_mono (lam_call c J (show X.A.in1.in1.frames = some X.stack from J.ok.frames) (J.ok.hd hc) hroom hfp hrec (hbind u) rx he q) (fun k s2 hk2 => ?_) fun _ _ z => z
    obtain ⟨y, H2, J2, ry, sm, hw2⟩ := hk2
    obtain ⟨p1, p2, p3, p4, p5⟩ := J2.pin (kS, seqObj "list" ks.toArray e) (List.mem_append_right _ (.tail _ (.head _)))
    refine ⟨e, p1, ys ++ [y], H2, ?_⟩
    have J3 : Inv X ((a, seqObj "list" #[] e1) :: (f, fo) :: pins) σ H2 s2 := J2.pins_of fun p hp => by
      rcases List.mem_cons.mp hp with rfl | hp
      · exact J2.pin _ (List.mem_append_right _ (.head _))
      · exact J2.pin p (List.mem_append_right _ (.tail _ (.tail _ hp)))
    have J4 := old (u := fo) J3 p2 b1 b3 b4 (fun p hp => by
      rcases List.mem_append.mp hp with hp | hp
      · exact (pinF p (List.mem_append_left _ hp)).2
      · rcases List.mem_cons.mp hp with rfl | hp
        · exact Ne.symm hka
        · exact (pinF p (List.mem_append_right _ hp)).2) (Obj.mapSeq (·.push k))
    obtain ⟨c2, hc2⟩ : ∃ c2, (s2.heap.update kS (Obj.mapSeq (·.push k))).get? kS = some (seqObj "list" (ks.toArray.push k) c2) := ⟨_, get?_update_seq p1 (·.push k)⟩
    have eu : ks.toArray.push k = (ks ++ [k]).toArray := by simp
    rw [eu] at hc2
    refine ⟨c2, J4.pins_of fun p hp => ?_, rv.append (.cons ry .nil), hw2, sm _ _ hHc, by simp [hkl]⟩
    rcases List.mem_cons.mp hp with rfl | hp
    · exact J4.pin _ (List.mem_append_right _ (.head _))
    · rcases List.mem_cons.mp hp with rfl | hp
      · exact ⟨hc2, p2, p3, p4, fun v z => by cases z⟩
      · exact J4.pin p (List.mem_append_right _ (.tail _ hp))
  · rintro ks s' ⟨ys, H', e, J, rv, hw, hHc, hkl⟩
    have hyl : ys.length = xs.length := by rw [rv.length, hkl, hvl]
    rw [hvl] at hw
    obtain ⟨lt, hK, fin⟩ := wfin ys H' hyl hw
    obtain ⟨κ, ask1, ask2⟩ := hK.ask (A := X.A.in1.in1) J hu rv
    obtain ⟨p1, p2, p3, p4, p5⟩ := J.pin (kS, seqObj "list" ks.toArray e) (List.mem_append_right _ (.tail _ (.head _)))
    obtain ⟨r1, r2, r3, r4, r5⟩ := J.pin (a, seqObj "list" #[] e1) (List.mem_append_right _ (.head _))
    refine ⟨e, p1, HT.key_end hka r1 p1 hkl (by omega) hK.lt (fun Q' h2 hQ => ask1 Q' (by omega) hQ) (fun i j Q' hi hj hQ => ask2 i j Q' (by omega) (by omega) hQ) fun p hp hs => ⟨rfl, ?_⟩⟩
    rw [hvl] at hp
    have J0 : Inv X pins σ H' s' := J.pins_of fun p hp => J.pin p (List.mem_append_right _ (.tail _ (.tail _ (.tail _ hp))))
    have hpins : ∀ it, (∀ p ∈ X.pn ++ ((f, fo) :: pins), p.1 ≠ it) → ∀ p ∈ X.pn ++ pins, p.1 ≠ it := fun it hh p hp => hh p (by
      rcases List.mem_append.mp hp with hp | hp
      · exact List.mem_append_left _ hp
      · exact List.mem_append_right _ (.tail _ hp))
    have J1 := old (u := fo) J0 p2 b1 b3 b4 (hpins kS b5) (Obj.mapSeq fun _ => (#[] : Array Value))
    have J2 := old (u := fo) J1 r2 a1 a3 a4 (hpins a a5) (Obj.mapSeq fun _ => List.toArray (p.map fun i => vs.getD i Value.none))
    have oa : (s'.heap.update kS (Obj.mapSeq fun _ => (#[] : Array Value))).get? a = some (seqObj "list" #[] e1) := ((Heap.SameBut.update s'.heap kS _).2 a (Ne.symm hka)).trans r1
    obtain ⟨c2, hc2⟩ : ∃ c2, ((s'.heap.update kS (Obj.mapSeq fun _ => (#[] : Array Value))).update a (Obj.mapSeq fun _ => List.toArray (p.map fun i => vs.getD i Value.none))).get? a = some (seqObj "list" (List.toArray (p.map fun i => vs.getD i Value.none)) c2) := ⟨_, get?_update_seq oa _⟩
    have hpl := hp.length_eq
    rw [List.length_range] at hpl
    have J3 := J2.adopt (D := a) (o := .lst (p.map fun i => xs.getD i .non)) r2 a1 a3 a4 (hpins a a5) ⟨by rw [List.length_map, hpl, sizeLine_eq]; omega, _, c2, vals_perm g fun i hi => by rw [hvl]; exact List.mem_range.mp (hp.mem_iff.mp hi), hc2⟩
    exact ⟨.ref a, _, J3, rfl, fin a p r2 hp hs⟩
noncomputable def tSortKR (P : Addr) (lpos : Pos) (qual : Str) (ix : List Nat) (te : TE) (t : TA) : TE := fun σ H Q => t σ H fun vs H1 => ∃ n : Nat, vs = [.int n] ∧ n < 64 ∧ TabOk P lpos qual H1 ∧ ∀ H2, SameX P H1 H2 → TabOk P lpos qual H2 → keyed te ix (natsV 0 n) σ H2 Q
section
variable {te : TE} {t : TA} {p p2 pos pos2 kpos : Pos} {e a : Expr} {k : Nat} {qual : Str}
theorem kw_lam {E : Value → Shared → Prop} {Q : List Value → Shared → Prop} {lam : Expr} (h : wpAny (model X.prog X.w) X.A (eval lam X.env) (fun v s' => Q [v] s') E s) :
    wpAny (model X.prog X.w) X.A (evalAll ((backToKw pos (keywordEach [⟨some "key", lam, kpos⟩] X.env)).map (·.2))) Q E s := by
  show wpAny _ _ (evalAll ((do let v ← eval lam X.env; standAt pos; pure v) :: [])) _ _ s
  exact wpAny_evalAll_cons (wpAny_bind (wpAny_mono h (fun v s' hq => wpAny_bind (wpAny_standAt (wpAny_pure (wpAny_evalAll_nil hq)))) fun _ _ z => z))
theorem room_sort (hr : Room k X.A) : X.A.in1.in1.depth < recursionLimit ∧ X.A.in1.in1.units < cLine := ⟨hr.depth, by have := hr.units; show X.A.units + 1 + 1 < _; omega⟩
theorem qe_sortKR (c : LamOk X N x frs ix scope cl) (hc : X.calm = true) (hr : Room k X.A) (hg : Gl X "sorted") (hm : X.mg "sorted" = none) (hgr : Gl X "range") (hmr : X.mg "range" = none) (hcode : X.env.code = .ref cc) (hcd : codeHdIn X.K cc P = true) (hb : X.base.BuiltinsAt X.mg P) (ha : QA X [a] t)
    (he : ∀ A f c' C s H, QE (cxLam X N (X.env.qual ++ "<lambda>") scope f c' cl A C s H) body te) (hbind : ∀ u pm c' ctv, bindArgs (kla_fn "<lambda>" (X.env.qual ++ "<lambda>") params body scope cl pm (.ref c') ctv) ⟨[u], []⟩ = pure [(x, u)])
    (hdef : defaultsOf params X.env = ([], []) := by rfl) (hn : nstar a = true := by rfl) : QE X (.Call (.Name "sorted" p) [.Call (.Name "range" p2) [a] [] pos2] [⟨some "key", .Lambda params body scope lpos, kpos⟩] pos) (tSortKR P lpos (X.env.qual ++ "<lambda>") ix te t) := by
  refine ⟨fun pins s σ H Q I h => ?_⟩
  refine wpAny_Call_Name_kw (ld_blt I hg hm (by decide +kernel : bootBuiltins "sorted" = some (.builtin "sorted")) ?_)
  refine callWith_kw ?_ (by rfl) (by rfl)
  refine Calls.spliced_cons (Call_ (ld_blt I hgr hmr boot_range (PyProof.Rows.callWith_type1 (thn (ha.out pos2 pins s σ H _ I h) fun us s1 hu => ?_) (star_cons hn) rfl)))
  obtain ⟨vs, H1, I1, r1, n, rfl, hn64, T1, q⟩ := hu
  obtain ⟨u, rfl, ru⟩ := vals1 r1
  obtain ⟨tt, rfl⟩ := ru
  refine call_range_1 (Calls.spliced_nil ?_)
  obtain ⟨w0, w1, w2, w3, w4, w5⟩ := I1.fpOk (b := s1.heap.objs.size) (H' := fun _ => none) (Nat.le_refl _) rfl
  have I1' : Inv X ((s1.heap.objs.size, { cls := .type "range", data := .fields #[.int 0 s1.toks, .int n tt, .int 1 (s1.toks + 1)] }) :: pins) σ H1 { s1 with heap := s1.heap.push { cls := .type "range", data := .fields #[.int 0 s1.toks, .int n tt, .int 1 (s1.toks + 1)] }, toks := s1.toks + 1 + 1 } := by
    have K := I1.kept (h' := s1.heap.push { cls := .type "range", data := .fields #[.int 0 s1.toks, .int n tt, .int 1 (s1.toks + 1)] }) (t' := s1.toks + 1 + 1) fun b o e => Heap.get?_push_of_some _ e
    refine K.pins_of fun p hp => ?_
    rcases List.mem_cons.mp hp with rfl | hp
    · exact ⟨Heap.get?_push_size _ rfl, I1.hok.fresh (Nat.le_refl _), w1, w2, fun v z => by cases z⟩
    · exact K.pin p (List.mem_append_right _ hp)
  refine kw_lam (lam_make c.clos I1' hcode hcd hb hdef T1 fun f c' pm ctv H2 s2 I2 T2 sx hc2 => ?_)
  obtain ⟨g1, g2⟩ := room_sort hr
  refine thn (sort_core (l := s1.heap.objs.size) (xs := natsV 0 n) c hc g1 g2 I2 hc2 (fun u => hbind u pm c' ctv) (fun C s H => (he _ _ _ C s H).out) (fun Q' hQ => ?_) (q H2 sx T2)) fun v s3 hv => ?_
  · have hrg := (I2.pin (s1.heap.objs.size, { cls := .type "range", data := .fields #[.int 0 s1.toks, .int n tt, .int 1 (s1.toks + 1)] }) (List.mem_append_right _ (.tail _ (.head _)))).1
    refine HT.collect_range (n := n) (I2.ok.hd hc) hrg (small_one (by omega) (by omega) (by omega) (by omega)) (by rw [rangeSize_one]; split <;> omega) (by omega) fun h' tk acc k hit => hQ _ h' tk ?_ k
    obtain ⟨hz, hit⟩ := hit
    refine vals_of (by simp [natsV, hz]) fun k x w a b => ?_
    have hk' : k < n := by have := (List.getElem?_eq_some_iff.mp a).1; simpa [natsV] using this
    unfold natsV at a
    rw [List.getElem?_map, List.getElem?_range hk'] at a
    obtain rfl := Option.some.inj a
    obtain ⟨t2, rfl⟩ := hit k w (by simpa using b)
    refine ⟨t2, ?_⟩
    rw [Int.mul_one, Int.natCast_add]; rfl
  · obtain ⟨y, H', J, ry, hq⟩ := hv
    exact ⟨y, H', J.pins_of fun p hp => J.pin p (List.mem_append_right _ (.tail _ hp)), ry, hq⟩
end
end
end L2

namespace L2
open PySem PySem.Spec PyProof.Rows PySem.W
theorem law_callT {P : Program} {w : World} {K : PySem.W.Frag} {mg mb : Str → Option Value} {CX : CXT} {k : Nat} {fa a c Pt : Addr} {fd : FuncData} {x : Str} {sp : Sp} {s₁ : Shared} {vs : List Value} {ns : List Int}
    (KX : K.In s₁.heap) (hns : s₁.heap.Ns mainGlobals mg) (hb : s₁.heap.Ns builtinsNs mb) (hbb : ∀ x : Str, x ≠ "__name__" → mb x = bootBuiltins x) (hlim : s₁.heap.NoLimit) (hg : s₁.gens = #[])
    (hbm : ∃ bm ob, mg "__builtins__" = some (.ref bm) ∧ bm ≠ builtinsNs ∧ s₁.heap.get? bm = some ob ∧ ob.cls = .type "module" ∧ ob.dict = some builtinsNs ∧ ob.data = .plain)
    (hcd : CodeHd s₁.heap c Pt) (hT : s₁.heap.get? Pt = some (tabObj #[])) (hKP : K.lookup Pt = none)
    (ha : s₁.heap.get? a = some { cls := .type "list", data := .seq vs.toArray }) (hi : IntsAre vs ns) (hl : ns.length ≤ sizeLine) (hr : Room k callerA)
    (F : ∀ base : Heap, K.In base → base.Ns mainGlobals mg → base.BuiltinsAt mg Pt → FnOk P w K mg base CX k fa fd [x] sp) (hbind : ∀ (s : Shared) (u : Value), BindsTo s fd ⟨[u], []⟩ [(x, u)])
    (hsp : ∀ H : Hp, H Pt = some (.tbl #[]) → SqL K H a (ns.map V.int) → sp [.ref a] H (fun v _ => v = .bl true) fun _ _ _ => False)
    (hCX : ∀ H e s', CX [] H s₁ (fun _ _ _ => False) e s' → False) :
    codeAny (model P w) callerA (.call (.ref fa) ⟨[.ref a], []⟩) (fun r s' => r = .ok (.ret (.bool true)) ∧ OldK s₁.heap s'.heap ∧ s'.os = s₁.os ∧ AllBare s'.gens) s₁ := by
  have rv := vals_ints hi
  have lenV := hi.length
  have haP : a ≠ Pt := fun z => by rw [z, hT] at ha; cases ha
  have core : ∀ H : Hp, H Pt = some (.tbl #[]) → (∀ b, H b = none ∨ b = Pt ∨ ∃ o xs, H b = some (.frz o (.lst xs))) → SqL K H a (ns.map V.int) → HOk P w H s₁.heap → (∀ b, H b ≠ none → b = a ∨ b = Pt) → (H a ≠ none → K.lookup a = none) →
      codeAny (model P w) callerA (.call (.ref fa) ⟨[.ref a], []⟩) (fun r s' => r = .ok (.ret (.bool true)) ∧ OldK s₁.heap s'.heap ∧ s'.os = s₁.os ∧ AllBare s'.gens) s₁ := by
    intro H hP hO hS hok hA hK
    have base_of : ∀ {b : Addr} {o : Obj}, s₁.heap.get? b = some o → H b = none → (hidT s₁.heap H).get? b = some o := fun e n => hidT_get e n
    have noA : ∀ {b : Addr} {o : Obj}, s₁.heap.get? b = some o → (∀ its n, o.data ≠ .seq its n) → (∀ fs, o.data ≠ .fields fs) → H b = none := fun {b o} e d1 d2 => by
      cases q : H b with
      | none => rfl
      | some u =>
        rcases hA b (by rw [q]; simp) with e' | e'
        · subst e'
          rw [ha] at e; cases e
          exact absurd rfl (d1 _ _)
        · subst e'
          rw [hT] at e; cases e
          exact absurd rfl (d2 _)
    have nsK : ∀ {b : Addr} {m : Str → Option Value}, s₁.heap.Ns b m → (hidT s₁.heap H).Ns b m := fun {b m} ⟨o, es, ep, e, d, r⟩ => ⟨o, es, ep, base_of e (noA e (fun _ _ z => by rw [d] at z; cases z) (fun _ z => by rw [d] at z; cases z)), d, r⟩
    have hKb : K.In (hidT s₁.heap H) := fun b o e => base_of (KX b o e) (by
      cases q : H b with
      | none => rfl
      | some u =>
        rcases hA b (by rw [q]; simp) with e' | e'
        · subst e'
          rw [hK (by rw [q]; simp)] at e; cases e
        · subst e'
          rw [hKP] at e; cases e)
    have hM : Mod K mg (hidT s₁.heap H) := ⟨hKb, nsK hns, ⟨mb, nsK hb, hbb⟩, let ⟨mc, h1, h2⟩ := hlim; ⟨mc, nsK h1, h2⟩⟩
    have hBA : (hidT s₁.heap H).BuiltinsAt mg Pt := by
      obtain ⟨bm, ob, b1, b2, b3, b4, b5, b6⟩ := hbm
      refine ⟨bm, ob, b1, b2, fun z => ?_, fun z => ?_, base_of b3 (noA b3 (fun _ _ z => by rw [b6] at z; cases z) (fun _ z => by rw [b6] at z; cases z)), b4, b5, b6⟩
      · obtain ⟨o, es, ep, e, d, _⟩ := hns
        rw [z, e] at b3; cases b3; rw [d] at b6; cases b6
      · rw [z, hT] at b3; cases b3; cases b6
    have e0 : Env0 P w K mg (hidT s₁.heap H) callerA [] s₁ H := ⟨rfl, hM, fun b o e => of_hidT e, Nat.le_of_eq (hidT_size _ _), trivial, fun b hb => absurd (show b ∈ ([] : List Addr) from hb) (by simp), hok, .of_eq hg⟩
    refine codeAny_mono ((F _ hKb (nsK hns) hBA).run callerA [] s₁ H ⟨[.ref a], []⟩ [.ref a] [.ref a] _ _ hr e0 (hbind s₁ (.ref a)) (.cons rfl .nil) (hsp H hP hS)) fun r s' h => ?_
    cases r with
    | error e => exact (hCX H e s' h).elim
    | ok fl =>
      cases fl with
      | next => exact False.elim h
      | brk => exact False.elim h
      | cont => exact False.elim h
      | ret u =>
        obtain ⟨v, H', os, bare, un, hok', r', q⟩ := h
        have q' : v = .bl true := q
        subst q'
        obtain rfl : u = Value.bool true := r'
        refine ⟨rfl, ⟨fun b o e => ?_, fun b o e => un.there b o e (by simp)⟩, os, bare⟩
        cases q : H b with
        | none => exact .inl (un.keep b o e q (by intro z; exact absurd (show b ∈ ([] : List Addr) from z) (by simp)) (by simp))
        | some u =>
          rcases hO b with z | z | ⟨ob, xs, z⟩
          · rw [q] at z; cases z
          · subst z
            rw [hT] at e
            cases e
            obtain ⟨more, em⟩ := un.tbls b #[] hP
            exact .inr (.inl ⟨(hcd.tab hT).isCodeTable, rfl, #[], more, rfl, hok' b _ em⟩)
          · have z2 := un.frzs b ob _ z
            obtain ⟨e1, _⟩ := hok b _ z
            obtain ⟨e2, _⟩ := hok' b _ z2
            rw [e] at e1; cases e1
            exact .inl e2
  cases hk : K.lookup a with
  | some o =>
    have e := KX a o hk
    rw [ha] at e
    cases e
    refine core (fun b => if b = Pt then some (.tbl #[]) else none) (if_pos rfl) (fun b => ?_) (.inr ⟨_, vs.toArray, _, hk, rfl, rfl, rfl, by rw [List.size_toArray, lenV]; exact hl, by simpa using rv⟩) (fun b u z => ?_) (fun b z => ?_) (fun z => absurd (if_neg haP) z)
    · by_cases hb : b = Pt
      · exact .inr (.inl hb)
      · exact .inl (if_neg hb)
    · by_cases hb : b = Pt
      · have z' := (if_pos hb).symm.trans z
        cases z'
        subst hb
        exact hT
      · have z' := (if_neg hb).symm.trans z
        cases z'
    · by_cases hb : b = Pt
      · exact .inr hb
      · exact absurd (if_neg hb) z
  | none =>
    have e1 : ∀ b, (if b = Pt then some (.tbl #[]) else if b = a then some (.frz { cls := .type "list", data := .seq vs.toArray } (.lst (ns.map V.int))) else none : Option HO) = if b = Pt then some (.tbl #[]) else if b = a then some (.frz { cls := .type "list", data := .seq vs.toArray } (.lst (ns.map V.int))) else none := fun b => rfl
    have ea : (if a = Pt then some (.tbl #[]) else if a = a then some (.frz { cls := .type "list", data := .seq vs.toArray } (.lst (ns.map V.int))) else none : Option HO) = some (.frz { cls := .type "list", data := .seq vs.toArray } (.lst (ns.map V.int))) := by rw [if_neg haP, if_pos rfl]
    refine core (fun b => if b = Pt then some (.tbl #[]) else if b = a then some (.frz { cls := .type "list", data := .seq vs.toArray } (.lst (ns.map V.int))) else none) (if_pos rfl) (fun b => ?_) (.inl (.inr ⟨{ cls := .type "list", data := .seq vs.toArray }, ea⟩)) (fun b u z => ?_) (fun b z => ?_) (fun _ => hk)
    · by_cases hb : b = Pt
      · exact .inr (.inl hb)
      · by_cases hb2 : b = a
        · exact .inr (.inr ⟨_, _, by rw [hb2]; exact ea⟩)
        · exact .inl (by show (if b = Pt then _ else _) = _; rw [if_neg hb, if_neg hb2])
    · by_cases hb : b = Pt
      · have z' := (if_pos hb).symm.trans z
        cases z'
        subst hb
        exact hT
      · by_cases hb2 : b = a
        · subst hb2
          have z' := ea.symm.trans z
          cases z'
          exact ⟨ha, by rw [List.length_map]; exact hl, vs, _, rv, ha⟩
        · have z' : (if b = Pt then some (.tbl #[]) else if b = a then some (.frz { cls := .type "list", data := .seq vs.toArray } (.lst (ns.map V.int))) else none : Option HO) = some u := z
          rw [if_neg hb, if_neg hb2] at z'
          cases z'
    · by_cases hb : b = Pt
      · exact .inr hb
      · by_cases hb2 : b = a
        · exact .inl hb2
        · exact absurd (show (if b = Pt then some (.tbl #[]) else if b = a then some (.frz { cls := .type "list", data := .seq vs.toArray } (.lst (ns.map V.int))) else none : Option HO) = none by rw [if_neg hb, if_neg hb2]) z
theorem look_tab {K : PySem.W.Frag} {h : Heap} {Pt : Addr} (X : K.In h) (hT : h.get? Pt = some (tabObj #[])) (hK : noTabs K = true) : K.lookup Pt = none := by
  cases e : K.lookup Pt with
  | none => rfl
  | some o =>
    have e2 := X _ _ e
    rw [hT] at e2
    cases e2
    exact absurd (List.all_eq_true.mp hK _ (mem_of_lookupK e)) Bool.false_ne_true
theorem walk_ofT {l : PySem.W.OpenLaw} {n k : Nat} {q : Program} {loose : List Str} {XP : (Str → Option Value) → Heap → Prop} {YP : World → Heap → Prop} {d : DefRec} {K : Params → PySem.W.Frag} {CX : World → CXT} {sp : World → Addr → Sp} {x : Str} {Pt : Addr}
    (hn : l.most = some n) (hn2 : n ≤ sizeLine) (hdf : d.params.defaults = []) (hr : Room k callerA)
    (hY : ∀ (w : World) (h : Heap), YP w h → (K w.params).In h)
    (hYT : ∀ (w : World) (h : Heap), YP w h → h.get? Pt = some (tabObj #[])) (hnt : ∀ w : World, noTabs (K w.params) = true)
    (F : ∀ (w : World) (mg : Str → Option Value) (fa : Addr) (h : Heap), (K w.params).In h → h.Ns mainGlobals mg → mg d.name = some (.ref fa) →
      ∃ fd : FuncData, (∃ c, codeHdIn (K w.params) c Pt = true) ∧ (∀ (s : Shared) (u : Value), BindsTo s fd ⟨[u], []⟩ [(x, u)]) ∧
        ∀ base : Heap, (K w.params).In base → base.Ns mainGlobals mg → base.BuiltinsAt mg Pt → FnOk l.prog w (K w.params) mg base (CX w) k fa fd [x] (sp w Pt))
    (hsp : ∀ (w : World) (H : Hp) (a : Addr) (ns : List Int), ns.length ≤ n → H Pt = some (.tbl #[]) → SqL (K w.params) H a (ns.map V.int) → sp w Pt [.ref a] H (fun v _ => v = .bl true) fun _ _ _ => False)
    (hCX : ∀ (w : World) (H : Hp) (s : Shared) (e : Value) (s' : Shared), CX w [] H s (fun _ _ _ => False) e s' → False) :
    PySem.W.WalkO q loose XP YP l.row.toRowW d [] (fun f vs => PySem.call f vs) := by
  refine Att.attach_call hn hdf fun w s₀ s₁ mg mb fa o pm cd doc a vs ns G Y ho hd hcd hmg hobj hints hlen hg => ?_
  have KX := hY w _ Y
  obtain ⟨fd, ⟨c, hchd⟩, hb, hF⟩ := F w mg fa _ KX G.T.g hmg
  have hT := hYT w _ Y
  have hC := codeHd_of_K KX hchd
  exact law_callT KX G.T.g G.T.b G.T.builtins G.T.nolimit hg G.T.bmain hC hT (look_tab KX hT (hnt w)) hobj hints (Nat.le_trans hlen hn2) hr hF hb (fun H hP hS => hsp w H a ns hlen hP hS) fun H e s' => hCX w H s₁ e s'
section
variable {P : Program} {w : World} {K : PySem.W.Frag} {mg : Str → Option Value} {base : Heap}
theorem Fun.okC {x qual : Str} {st : Stmt} {f cc : Addr} {fd : FuncData} {N ps : List Str} {k : Nat} {sp : Sp} (F : Fun K x qual st f fd) (hcc : fd.code = .ref cc) (S : FnScope N ps (defScope st)) (len : ∀ vs H Q E, sp vs H Q E → vs.length = ps.length)
    (hbody : ∀ (A : Around) (outer : List Env) (s : Shared) (H : Hp) (vs : List V) (Q : VK) (E : XK), Room k (A.deeper (envOfC qual (defScope st) s.heap.objs.size f (.ref cc))) → sp vs H Q E →
      ∃ t, QB (cxOf CX0 P w K mg base N qual (defScope st) f (.ref cc) A outer s H E).nox (defBody st) t ∧ t { nx := fun _ H' => Q .non H', rt := Q } (start N vs) H) : FnOk P w K mg base CX0 (k + 1) f fd ps sp := by
  obtain ⟨oc, od, kV, doc, pm, an, cdv, ct, osl, rfl, lk, hcd⟩ := F.ex
  have e : cdv = .ref cc := hcc
  subst e
  refine fn_of lk hcd S len fun A outer s H vs Q E hr hsp => ?_
  obtain ⟨t, h, q⟩ := hbody A outer s H vs Q E hr hsp
  exact ⟨t, h.out.nox, q⟩
end
end L2

namespace L2
open PySem PySem.Spec PyProof.Rows PySem.W
section
variable {X : Cx} {o : Expr} {to : TE} {pos apos cpos : Pos}
end
end L2

namespace L2
open PySem PySem.Spec PyProof.Rows
end L2

namespace L2
open PySem PySem.Spec PyProof.Rows
section
variable {X : Cx}
end
inductive Kd (H : Hp) : V → Prop where
  | non : Kd H .non
  | bl (b : Bool) : Kd H (.bl b)
  | int (i : Int) : Kd H (.int i)
  | str (y : Str) : Kd H (.str y)
  | lst {a : Addr} {xs : List V} (e : H a = some (.lst xs)) : Kd H (.ref a)
  | tup {a : Addr} {xs : List V} (e : H a = some (.tup xs)) : Kd H (.ref a)
section
variable {K : PySem.W.Frag} {H : Hp} {Q : VK}
theorem in_isiNB (h : Q (.bl false) H) : rIsi K [.non, .ty "bool"] H Q := ⟨_, _, _, _, rfl, .non, rfl, h⟩
theorem in_isiLB {a : Addr} {xs : List V} (e : H a = some (.lst xs)) (h : Q (.bl false) H) : rIsi K [.ref a, .ty "bool"] H Q := ⟨_, _, _, _, rfl, .lst e, rfl, h⟩
theorem in_isiTB {a : Addr} {xs : List V} (e : H a = some (.tup xs)) (h : Q (.bl false) H) : rIsi K [.ref a, .ty "bool"] H Q := ⟨_, _, _, _, rfl, .tup e, rfl, h⟩
theorem in_isiXB {x : V} (k : Kd H x) (hx : ∀ b, x ≠ .bl b) (h : Q (.bl false) H) : rIsi K [x, .ty "bool"] H Q := by
  cases k with
  | non => exact in_isiNB h
  | bl b => exact absurd rfl (hx b)
  | int i => exact in_isiIB h
  | str y => exact in_isiSB h
  | lst e => exact in_isiLB e h
  | tup e => exact in_isiTB e h
end
end L2

namespace L2
open PySem PySem.Spec PyProof.Rows
section
variable {H : Hp} {n w : Nat}
end
end L2

namespace L2
open PySem PySem.Spec PyProof.Rows
section
variable {H H1 H2 : Hp}
end
section
variable {H H1 : Hp} {p a : Addr} {o : HO}
end
section
variable {H H1 : Hp} {x : V} {os : List Nat} {a : Addr} {xs : List V}
theorem NV_inj {is js : List Nat} (h : NV is = NV js) : is = js := by
  have := congrArg (List.map fun v => match v with | V.int i => i.toNat | _ => 0) h
  simpa [NV, List.map_map, Function.comp_def] using this
end
end L2

namespace L2
open PySem PySem.Spec PyProof.Rows
section
variable {rss : List (List Nat)} {f m l : Nat} {x y : List Nat}
end
section
variable {rss : List (List Nat)}
end
noncomputable def pick (xs ys : List Nat) (w : Nat × Nat) : Nat := if w.1 = 0 then xs.getD w.2 0 else ys.getD w.2 0
end L2

namespace L2
open PySem PySem.Spec PyProof.Rows
section
variable {X : Cx} {pos : Pos}
noncomputable def tPar3 (i j k : Nat) (ta : TA) : TS := fun D σ H => ta σ H fun vs H1 => ∃ u v w, vs = [u, v, w] ∧ D.nx (((σ.set k (some w)).set j (some v)).set i (some u)) H1
end
theorem in_par3 {D : Ends} {σ : St} {H : Hp} {i j k : Nat} {ta : TA} (h : ta σ H fun vs H1 => ∃ u v w, vs = [u, v, w] ∧ D.nx (((σ.set k (some w)).set j (some v)).set i (some u)) H1) : tPar3 i j k ta D σ H := h
noncomputable def It2o (n : Nat) : It := ⟨fun i _ => i < n / 2, fun i H x H' => H' = H ∧ x = .int ((2 * i + 1 : Nat) : Int), fun i _ => n / 2 ≤ i⟩
section
variable {X : Cx} {tg a b c : Expr} {t : TA} {p pos : Pos}
noncomputable def iRngO (t : TA) : TI := fun σ H R => t σ H fun vs H1 => ∃ n : Nat, vs = [.int 1, .int (n : Nat), .int 2] ∧ n ≤ 1000 ∧ R (It2o n) H1
end
theorem in_rngO {σ : St} {H : Hp} {t : TA} {R : It → Hp → Prop} (h : t σ H fun vs H1 => ∃ n : Nat, vs = [.int 1, .int (n : Nat), .int 2] ∧ n ≤ 1000 ∧ R (It2o n) H1) : iRngO t σ H R := h
noncomputable def cs : Nat → List Nat → List Nat
  | f, [] => [f]
  | f, a :: r => f :: cs (f + a) r
end L2

namespace L2
open PySem PySem.Spec PyProof.Rows
noncomputable def Fl (e C : Addr) (H : Hp) (h0 h : Heap) : Prop :=
  ∃ oe vs T oT ts a0, h.get? e = some oe ∧ oe.cls = .ref C ∧ oe.data = .fields vs ∧ vs[0]? = some a0 ∧ vs[1]? = some (.ref T) ∧ T ≠ e ∧ h.get? T = some oT ∧ oT.data = .fields ts ∧ ts[3]? = some .none ∧
    H e = none ∧ H T = none ∧ h0.get? e = none ∧ h0.get? T = none
noncomputable def ExcO (e C : Addr) : HO := .ext fun h => ∃ o vs, h.get? e = some o ∧ o.cls = .ref C ∧ o.data = .fields vs
section
variable {X : Cx} {pins : List (Addr × Obj)} {σ : St} {H : Hp} {s : Shared} {h' : Heap}
end
noncomputable abbrev XW := Addr → St → Hp → Prop
noncomputable abbrev TX := Ends → XW → St → Hp → Prop
noncomputable def XP (X : Cx) (pins : List (Addr × Obj)) (Ex : XW) (ev : Value) (s' : Shared) : Prop :=
  ∃ e C σ' H', ev = .ref e ∧ Ex C σ' H' ∧
    ((∃ s0 vs, Inv X pins σ' H' s0 ∧ Heap.MadeExcOf s0.heap s'.heap e (.ref C) vs ∧ s' = { s0 with heap := s'.heap }) ∨
     (Inv X pins σ' H' s' ∧ ∃ hb : Heap, Fl e C H' hb s'.heap ∧ (∀ b o, X.s₀.heap.get? b = some o → ∃ o', hb.get? b = some o') ∧ ∀ p ∈ X.pn ++ pins, ∃ o', hb.get? p.1 = some o'))
noncomputable abbrev TEX := St → Hp → VK → (Addr → Hp → Prop) → Prop
section
variable {X : Cx} {st : Stmt} {sts s1 s2 : List Stmt} {T1 T2 : TX} {c e : Expr} {es : List Expr} {tA : TT} {te : TE} {t : TA} {pos p : Pos} {x : Str} {i : Nat}
noncomputable def xOf (t : TS) : TX := fun D _ σ H => t D σ H
noncomputable def xSeq (t u : TX) : TX := fun D Ex σ H => t { D with nx := u D Ex } Ex σ H
noncomputable def xIf (c : TT) (t u : TX) : TX := fun D Ex σ H => c σ H fun b H1 => if b = true then t D Ex σ H1 else u D Ex σ H1
noncomputable def xDrop (te : TEX) : TX := fun D Ex σ H => te σ H (fun _ H1 => D.nx σ H1) fun C H1 => Ex C σ H1
noncomputable def xRet (te : TEX) : TX := fun D Ex σ H => te σ H D.rt fun C H1 => Ex C σ H1
noncomputable def xSet (i : Nat) (te : TEX) : TX := fun D Ex σ H => te σ H (fun v H1 => D.nx (σ.set i (some v)) H1) fun C H1 => Ex C σ H1
variable {tx : TEX}
noncomputable def xCall (sp : Sp) (t : TA) : TEX := fun σ H Q Ex => t σ H fun vs H1 => sp vs H1 Q fun c _ H2 => ∃ C, c = .ref C ∧ Ex C H2
end
end L2

namespace L2
open PySem PySem.Spec PyProof.Rows
section
variable {X : Cx} {pins : List (Addr × Obj)} {σ : St} {H : Hp} {s : Shared} {h' : Heap}
end
section
variable {P : Program} {w : World} {K : PySem.W.Frag} {mg : Str → Option Value} {base : Heap}
end
end L2

namespace L2
open PySem PySem.Spec PyProof.Rows PySem.W
section
variable {prog : Program} {w : World} {A : Around} {E : Value → Shared → Prop} {h : Heap} {g : Array GenState} {d : Drawn} {t : Nat} {os : OsState} {K : Frag} {a C : Addr} {o : Obj} {vs : Array Value}
end
section
variable {X : Cx}
end
end L2

namespace L2
open PySem PySem.Spec PyProof.Rows PySem.W
noncomputable def xRaise (C : Addr) (t : TA) : TX := fun _ Ex σ H => t σ H fun vs H1 => vs.length ≤ sizeLine ∧ Ex C σ H1
section
variable {X : Cx} {e : Expr} {es : List Expr} {t : TA} {np cpos pos p : Pos} {x : Str} {C : Addr}
end
section
variable {X : Cx} {pins : List (Addr × Obj)} {σ : St} {H : Hp} {s : Shared}
end
noncomputable def tTry (K : Frag) (C : Addr) (i : Nat) (tb : TX) (ts : TS) : TS := fun D σ H => tb D (fun C' σ1 H1 => exmOne K (.ref C') (.ref C) = some true ∧ ∀ e, H1 e = none →
  ts { nx := fun σ2 H2 => D.nx (σ2.set i none) H2, rt := D.rt, bk := fun σ2 H2 => D.bk (σ2.set i none) H2, ct := fun σ2 H2 => D.ct (σ2.set i none) H2 } (σ1.set i (some (.ref e))) (upd H1 e (ExcO e C'))) σ H
section
variable {X : Cx} {body suite : List Stmt} {b0 : Stmt} {tb : TX} {ts : TS} {n x : Str} {i : Nat} {C : Addr} {np hpos pos : Pos}
end
end L2

namespace L2
open PySem PySem.Spec PyProof.Rows
noncomputable def tFs (te : TE) : TE := fun σ H Q => te σ H fun x H1 => ∃ i : Int, x = .int i ∧ i.natAbs.log2 < 1920 ∧ ∀ y, Q (.str y) H1
section
variable {X : Cx} {v : Expr} {te : TE} {a b : Str} {p1 p2 p3 pos : Pos} {j1 j3 : Nat}
end
section
variable {D : Ends} {Ex : XW} {σ : St} {H : Hp} {Q : VK} {K : PySem.W.Frag} {i : Nat} {C : Addr}
theorem in_fstr {te : TE} (h : te σ H fun x H1 => ∃ i : Int, x = .int i ∧ i.natAbs.log2 < 1920 ∧ ∀ y, Q (.str y) H1) : tFs te σ H Q := h
theorem in_xof {t : TS} (h : t D σ H) : xOf t D Ex σ H := h
theorem in_xseq {t u : TX} (h : t { D with nx := u D Ex } Ex σ H) : xSeq t u D Ex σ H := h
theorem in_xif {c : TT} {t u : TX} (h : c σ H fun b H1 => if b = true then t D Ex σ H1 else u D Ex σ H1) : xIf c t u D Ex σ H := h
theorem in_xdrop {te : TEX} (h : te σ H (fun _ H1 => D.nx σ H1) fun C H1 => Ex C σ H1) : xDrop te D Ex σ H := h
theorem in_xret {te : TEX} (h : te σ H D.rt fun C H1 => Ex C σ H1) : xRet te D Ex σ H := h
theorem in_xset {te : TEX} (h : te σ H (fun v H1 => D.nx (σ.set i (some v)) H1) fun C H1 => Ex C σ H1) : xSet i te D Ex σ H := h
theorem in_xcall {sp : Sp} {t : TA} {Ex : Addr → Hp → Prop} (h : t σ H fun vs H1 => sp vs H1 Q fun c _ H2 => ∃ C, c = .ref C ∧ Ex C H2) : xCall sp t σ H Q Ex := h
theorem in_xraise {t : TA} (h : t σ H fun vs H1 => vs.length ≤ sizeLine ∧ Ex C σ H1) : xRaise C t D Ex σ H := h
theorem in_try {tb : TX} {ts : TS} (h : tb D (fun C' σ1 H1 => PySem.W.exmOne K (.ref C') (.ref C) = some true ∧ ∀ e, H1 e = none →
  ts { nx := fun σ2 H2 => D.nx (σ2.set i none) H2, rt := D.rt, bk := fun σ2 H2 => D.bk (σ2.set i none) H2, ct := fun σ2 H2 => D.ct (σ2.set i none) H2 } (σ1.set i (some (.ref e))) (upd H1 e (ExcO e C'))) σ H) : tTry K C i tb ts D σ H := h
end
end L2

namespace L2
open PySem PySem.Spec PyProof.Rows
section
variable {X : Cx}
end
section
variable {H H1 : Hp} {x : V} {n : Nat}
end
end L2
namespace L2
open PySem PySem.Spec PyProof.Rows
end L2

namespace HT
open PySem PyProof.Rows PySem.W L2
noncomputable def lt2 (k m : List Int × List Int) : Bool := if k.1 = m.1 then lexLt k.2 m.2 else lexLt k.1 m.1
theorem lexLt_tri : ∀ (a b : List Int), lexLt a b = false → lexLt b a = false → a = b
  | [], [], _, _ => rfl
  | [], y :: b, h, _ => by cases h
  | x :: a, [], _, h => by cases h
  | x :: a, y :: b, h1, h2 => by
    rw [lexLt_cons] at h1 h2
    by_cases g : x = y
    · subst g
      rw [if_pos rfl] at h1 h2
      rw [lexLt_tri a b h1 h2]
    · rw [if_neg g] at h1
      rw [if_neg (Ne.symm g)] at h2
      have := of_decide_eq_false h1
      have := of_decide_eq_false h2
      omega
theorem lt2_asym (a b : List Int × List Int) (h : lt2 a b = true) : lt2 b a = false := by
  unfold lt2 at *
  by_cases g : a.1 = b.1
  · rw [if_pos g] at h
    rw [if_pos g.symm]
    exact lexLt_asym _ _ h
  · rw [if_neg g] at h
    rw [if_neg (Ne.symm g)]
    exact lexLt_asym _ _ h
theorem lt2_ntr (a b c : List Int × List Int) (h1 : lt2 a b = false) (h2 : lt2 b c = false) : lt2 a c = false := by
  obtain ⟨a1, a2⟩ := a
  obtain ⟨b1, b2⟩ := b
  obtain ⟨c1, c2⟩ := c
  unfold lt2 at *
  dsimp only at *
  by_cases g : a1 = b1
  · subst g
    rw [if_pos rfl] at h1
    by_cases g' : a1 = c1
    · rw [if_pos g'] at h2 ⊢
      exact lexLt_ntr _ _ _ h1 h2
    · rw [if_neg g'] at h2 ⊢
      exact h2
  · rw [if_neg g] at h1
    by_cases g' : b1 = c1
    · subst g'
      rw [if_neg g]
      exact h1
    · rw [if_neg g'] at h2
      have h3 := lexLt_ntr _ _ _ h1 h2
      by_cases g2 : a1 = c1
      · subst g2
        exact absurd (lexLt_tri _ _ h1 h2) g
      · rw [if_neg g2]; exact h3
theorem lt_two (ks : List (List Int × List Int)) : Lt (fun i j => lt2 (ks.getD i ([], [])) (ks.getD j ([], []))) := ⟨fun i j h => lt2_asym _ _ h, fun i j k h1 h2 => lt2_ntr _ _ _ h1 h2⟩
theorem items_of (prog : Program) (w : World) : ∀ {xs : List Value} {ns : List Int}, IntsAre xs ns → ItemsAre (intKind prog w) ns xs
  | _, _, .nil => .nil
  | _, _, .cons n t r => .cons (by simp [intKind, Value.isInt]) (items_of prog w r)
section
variable {prog : Program} {w : World} {A : Around} {E : Value → Shared → Prop} {s : Shared}
theorem ask_two {x y q q' : Addr} {its its2 jts jts2 : Array Value} {us us2 : List Value} {k m : List Int × List Int} {Q : Bool → Shared → Prop} (hu : A.units < cLine) (hx : IsTup s.heap x its) (hy : IsTup s.heap y its2) (ex : its.toList = .ref q :: us) (ey : its2.toList = .ref q' :: us2) (hi : IntsAre us k.2) (hj : IntsAre us2 m.2)
    (hq : IsTup s.heap q jts) (hq' : IsTup s.heap q' jts2) (iq : IntsAre jts.toList k.1) (iq' : IntsAre jts2.toList m.1) (h : Q (lt2 k m) s) :
    wpAny (model prog w) A (keyLt' (tuples' false) (.ref x) (.ref y)) Q E s := by
  obtain ⟨o, ho, hc, n, hd⟩ := id hx
  obtain ⟨o2, ho2, hc2, n2, hd2⟩ := id hy
  refine kat_lt ho hd ho2 hd2 ?_
  rw [ex, ey, List.zip_cons_cons]
  obtain ⟨ov, hov, hcv, nv, hdv⟩ := id hq
  obtain ⟨ov2, hov2, hcv2, nv2, hdv2⟩ := id hq'
  refine kat_cons (wpAny_eqBool_tuple (knd := intKind prog w) hu ⟨ov, jts, nv, hov, hcv, hdv, items_of prog w iq⟩ ⟨ov2, jts2, nv2, hov2, hcv2, hdv2, items_of prog w iq'⟩ ?_)
  unfold lt2 at h
  by_cases g : k.1 = m.1
  · rw [if_pos g] at h
    rw [decide_eq_true g]
    refine kat_yes (lex_ints hi hj 1 false ?_ h)
    have e1 : its.size = its.toList.length := rfl
    have e2 : its2.size = its2.toList.length := rfl
    rw [e1, e2, ex, ey, List.length_cons, List.length_cons, ← hi.length, ← hj.length]
    simp
  · rw [if_neg g] at h
    rw [decide_eq_false g]
    refine kat_no ?_
    exact kat_one _ _ (lt_tupInts hq hq' iq iq' hu h)
theorem kind_two {vs fs : List Value} {Q : SortKind → Shared → Prop} (h2 : 2 ≤ vs.length) (hl : vs.length = fs.length) (t : KatTups s.heap vs fs) (hf : ∀ f ∈ fs, ∃ q its, f = .ref q ∧ IsTup s.heap q its)
    (h : Q (tuples' false) s) : wpAny (model prog w) A (keyKind' vs.toArray) Q E s := by
  refine kat_kind (T := Value.type "tuple") t (by omega) (fun v hv => ?_) rfl h
  obtain ⟨q, its, rfl, o, ho, hc, _⟩ := hf v hv
  rw [← hc]
  exact (Looks.ld ho).andThen .now
theorem tups_two : ∀ {vs : List Value} {fs : List Value}, vs.length = fs.length → (∀ (i : Nat) v f, vs[i]? = some v → fs[i]? = some f → ∃ a its us, v = .ref a ∧ IsTup s.heap a its ∧ its.toList = f :: us) → KatTups s.heap vs fs
  | [], [], _, _ => .nil
  | v :: vs, f :: fs, hl, h => by
    have k1 := tups_two (vs := vs) (fs := fs) (by simpa using hl) (fun i v r e1 e2 => h (i + 1) v r (by simpa using e1) (by simpa using e2))
    obtain ⟨a, its, us, rfl, ⟨o, ho, hc, n, hd⟩, hi⟩ := h 0 v f rfl rfl
    obtain ⟨its'⟩ := its
    simp only at hi
    subst hi
    exact KatTups.cons (f := f) ho hc hd (by simp) k1
end
end HT
namespace L2
open PySem PySem.Spec PyProof.Rows
section
variable {X : Cx}
noncomputable def rSortP (K : PySem.W.Frag) : List V → Hp → VK → Prop := fun xs H Q => ∃ (l : Addr) (rs qs : List Addr) (ks : List (List Int × List Int)), xs = [.ref l] ∧ SqL K H l (rs.map V.ref) ∧ rs.length = ks.length ∧ qs.length = ks.length ∧ rs.length < 64 ∧
  (∀ (i : Nat) a q k, rs[i]? = some a → qs[i]? = some q → ks[i]? = some k → SqT K H a (V.ref q :: k.2.map V.int) ∧ SqT K H q (k.1.map V.int)) ∧
  ∀ (d : Addr) (p : List Nat), H d = none → p.Perm (List.range rs.length) → p.Pairwise (Ah fun i j => HT.lt2 (ks.getD i ([], [])) (ks.getD j ([], []))) → Q (.ref d) (upd H d (.lst (p.map fun i => .ref (rs.getD i 0))))
theorem call_sortP (hu : X.A.in1.in1.units < cLine) : CallR X (.builtin "sorted") (rSortP X.K) := by
  intro pins s σ H xs us Q I r h
  obtain ⟨l, rs, qs, ks, rfl, hq, hlen, hlq, h64, ht, q⟩ := h
  obtain ⟨u, rfl, rx⟩ := vals1 r
  cases rx
  obtain ⟨its, r', pl, hz⟩ := I.list hq
  obtain rfl := vals_refs r'
  have hl : (rs.map Value.ref).length = rs.length := List.length_map _
  have tup : ∀ (h' : Heap), (∀ b o, s.heap.get? b = some o → h'.get? b = some o) → ∀ (i : Nat) a q k, rs[i]? = some a → qs[i]? = some q → ks[i]? = some k → ∃ its us jts, IsTup h' a its ∧ its.toList = .ref q :: us ∧ IntsAre us k.2 ∧ IsTup h' q jts ∧ IntsAre jts.toList k.1 := fun h' hk i a q k e1 e2 e3 => by
    obtain ⟨t1, t2⟩ := ht i a q k e1 e2 e3
    obtain ⟨its, r1, ⟨o, ho, hc⟩, _⟩ := I.tuple t1
    obtain ⟨jts, r2, ⟨o2, ho2, hc2⟩, _⟩ := I.tuple t2
    cases r1 with
    | cons rv r1 =>
      cases rv
      exact ⟨_, _, jts.toArray, ⟨o, hk _ _ ho, hc⟩, rfl, intsAre_of r1, ⟨o2, hk _ _ ho2, hc2⟩, intsAre_of r2⟩
  have get : ∀ i, i < (rs.map Value.ref).length → rs[i]? = some (rs.getD i 0) ∧ qs[i]? = some (qs.getD i 0) ∧ ks[i]? = some (ks.getD i ([], [])) ∧ (rs.map Value.ref).getD i Value.none = .ref (rs.getD i 0) := fun i hi => by
    rw [hl] at hi
    have h2 : i < qs.length := by omega
    have h3 : i < ks.length := by omega
    refine ⟨?_, ?_, ?_, ?_⟩
    · rw [List.getD_eq_getElem?_getD, List.getElem?_eq_getElem hi]; rfl
    · rw [List.getD_eq_getElem?_getD, List.getElem?_eq_getElem h2]; rfl
    · rw [List.getD_eq_getElem?_getD, List.getElem?_eq_getElem h3]; rfl
    · rw [List.getD_eq_getElem?_getD, List.getD_eq_getElem?_getD, List.getElem?_map, List.getElem?_eq_getElem hi]; rfl
  have fin : ∀ p : List Nat, p.Perm (List.range (rs.map Value.ref).length) → p.Pairwise (Ah fun i j => HT.lt2 (ks.getD i ([], [])) (ks.getD j ([], []))) →
      EP X pins σ Q (.ref (s.heap.objs.size + 1)) { s with heap := sortedAll s.heap (rs.map Value.ref) (List.toArray (p.map fun i => (rs.map Value.ref).getD i Value.none)) } := fun p hp hs => by
    obtain ⟨c, hc⟩ := sortedAll_at s.heap (rs.map Value.ref) (List.toArray (p.map fun i => (rs.map Value.ref).getD i Value.none))
    have hpl := hp.length_eq
    rw [List.length_range, hl] at hpl
    rw [hl] at hp
    refine ⟨.ref (s.heap.objs.size + 1), _, I.laid (t' := s.toks) (fun b o e => sortedAll_old e) (Nat.le_succ _) (show ObjOk X.prog X.w _ _ _ (.lst (p.map fun i => .ref (rs.getD i 0))) from ⟨?_, _, c, vals_map fun i hi => ?_, hc⟩), rfl, q _ p (I.hok.fresh (Nat.le_succ _)) hp hs⟩
    · rw [List.length_map, hpl, sizeLine_eq]; omega
    · rw [(get i (by rw [hl]; exact List.mem_range.mp (hp.mem_iff.mp hi))).2.2.2]
      rfl
  refine HT.sorted_own (κ := tuples' false) pl.isList (by omega) (HT.lt_two ks) (fun h' Q' h2 k hQ => HT.kind_two (fs := qs.map Value.ref) h2 (by rw [hl, List.length_map]; omega) (HT.tups_two (by rw [hl, List.length_map]; omega) (fun i v f e1 e2 => ?_)) (fun f hf => ?_) hQ) (fun h' i j Q' hi hj k hQ => ?_) fin
  · rw [List.getElem?_map] at e1 e2
    obtain ⟨a, ea, rfl⟩ := Option.map_eq_some_iff.mp e1
    obtain ⟨q, eq, rfl⟩ := Option.map_eq_some_iff.mp e2
    obtain ⟨_, _, g3, _⟩ := get i (by rw [hl]; exact get_lt ea)
    obtain ⟨its, us, jts, t1, e, _⟩ := tup h' k i a q _ ea eq g3
    exact ⟨a, its, us, rfl, t1, e⟩
  · obtain ⟨q, hqm, rfl⟩ := List.mem_map.mp hf
    obtain ⟨i, hi, rfl⟩ := List.getElem_of_mem hqm
    obtain ⟨g1, g2, g3, _⟩ := get i (by rw [hl]; omega)
    obtain ⟨its, us, jts, t1, e, _, t2, _⟩ := tup h' k i _ _ _ g1 (List.getElem?_eq_getElem hi) g3
    exact ⟨_, jts, rfl, t2⟩
  · obtain ⟨g1, g2, g3, g4⟩ := get i hi
    obtain ⟨k1, k2, k3, k4⟩ := get j hj
    obtain ⟨its, us, jts, t1, e, i1, t2, i2⟩ := tup h' k i _ _ _ g1 g2 g3
    obtain ⟨its', us', jts', t1', e', i1', t2', i2'⟩ := tup h' k j _ _ _ k1 k2 k3
    rw [g4, k4]
    exact HT.ask_two hu t1 t1' e e' i1 i1' t2 t2' i2 i2' hQ
theorem qc_sortP {K : PySem.W.Frag} (hu : X.A.units + 64 < cLine) (hK : X.K = K := by rfl) : QC X (.builtin "sorted") (rSortP K) := by subst hK; exact ⟨call_sortP (show X.A.units + 1 + 1 < cLine by omega)⟩
end
end L2

namespace L2
open PySem PySem.Spec PyProof.Rows
section
variable {X : Cx} {o e value : Expr} {es : List Expr} {f m x : Str} {pos pos' tpos apos p : Pos} {ta tv : TE} {t : TA} {C g : Addr} {CX : CXT} {k : Nat} {fd : FuncData} {ps : List Str} {sp : Sp} {E : XK}
theorem qe_fld {K : PySem.W.Frag} (he : QE X e ta) (hb : attributeBase e f X.env (eval e X.env) = eval e X.env := by rfl) (hK : X.K = K := by rfl) : QE X (.Attribute e f pos) (tFld K ta f) := by
  subst hK; exact ⟨pe_fld he.out hb⟩
theorem qs_fld {K : PySem.W.Frag} (ha : QE X o ta) (hv : QE X value tv) (hs : swapsWith value (some (.Attribute o f pos')) pos.line X.env = pure false := by rfl) (hK : X.K = K := by rfl) : QS X (.Assign [.Attribute o f pos'] value pos) (sFld K ta tv f) := by
  subst hK; exact ⟨ps_fld ha.out hv.out hs⟩
theorem qs_fldaug {K : PySem.W.Frag} {op : Operator} {rd : R2} (ha : QE X o ta) (hv : QE X value tv) (ho : QOp X (inplaceOp op) rd) (hK : X.K = K := by rfl) : QS X (.AugAssign (.Attribute o f tpos) op value pos) (sFldAug K ta tv rd f) := by
  subst hK; exact ⟨ps_fldaug ha.out hv.out ho.out⟩
theorem qe_meth0 {pl : Sem Bool} (he : QE X o ta) (c : Cls X.K C) (hm : Meth X.K C m g) (F : FnOk X.prog X.w X.K X.mg X.base CX k g fd ps sp) (hr : Room k X.A) (hb : Binds X.K fd ps []) (hx : Passes CX X E)
    (ht : eval (.Call (.Attribute o m apos) [] [] pos) X.env = (do
      let ov ← eval o X.env
      standAt apos.atName
      let (q, first) ← holding [ov] (getMethod ov m pl)
      callWith pos q first (backTo pos (starEach [] X.env)) (backToKw pos (keywordEach [] X.env))) := by rfl) :
    QE X (.Call (.Attribute o m apos) [] [] pos) (tMeth C m sp [] E ta tNil) := ⟨pe_meth0 (pl := pl) he.out c hm F hr hb .nil hx ht⟩
theorem qe_make (M : Mk X.K C g) (F : FnOk X.prog X.w X.K X.mg X.base CX k g fd ps sp) (hr : Room (k + 1) X.A) (hg : Gl X x) (hm : X.mg x = some (.ref C)) (hb : Binds X.K fd ps []) (hx : Passes CX X E)
    (ha : QA X (e :: es) t) (hdb : (x == ("__debug__" : Str)) = false := by decide) (he : starEach (e :: es) X.env = (false, eval e X.env) :: starEach es X.env := by rfl) (hpl : (backTo pos (starEach es X.env)).any (·.1) = false := by rfl) :
    QE X (.Call (.Name x p) (e :: es) [] pos) (tMake C sp [] E t) := ⟨pe_make M F hr hg hm hb .nil hx ha.out hdb he hpl⟩
end
section
variable {K : PySem.W.Frag} {σ : St} {H : Hp} {Q : VK} {D : Ends} {ta tv : TE} {t : TA} {f m : Str} {C : Addr} {sp : Sp} {E : XK} {a dx : Addr} {fs : List (Str × V)} {v : V}
theorem in_fld (h : ta σ H fun x H1 => ∃ a C dx fs v, x = .ref a ∧ H1 a = some (.ins C dx fs) ∧ Cls K C ∧ NoAttr K C f ∧ fs.lookup f = some v ∧ Q v H1) : tFld K ta f σ H Q := h
theorem in_sfld (h : tv σ H fun y H1 => ta σ H1 fun x H2 => ∃ a C dx fs, x = .ref a ∧ H2 a = some (.ins C dx fs) ∧ Cls K C ∧ NoAttr K C f ∧ fs.length < 1000 ∧ D.nx σ (upd H2 a (.ins C dx (putF f y fs)))) : sFld K ta tv f D σ H := h
theorem in_sfldaug {rd : R2} (h : ta σ H fun x H1 => ∃ a C dx fs v, x = .ref a ∧ H1 a = some (.ins C dx fs) ∧ Cls K C ∧ NoAttr K C f ∧ fs.lookup f = some v ∧
  tv σ H1 fun y H2 => rd v y H2 fun z H3 => ∃ dx' fs', H3 a = some (.ins C dx' fs') ∧ fs'.length < 1000 ∧ D.nx σ (upd H3 a (.ins C dx' (putF f z fs')))) : sFldAug K ta tv rd f D σ H := h
theorem in_meth (h : ta σ H fun x H1 => ∃ a dx fs, x = .ref a ∧ H1 a = some (.ins C dx fs) ∧ fs.lookup m = none ∧ t σ H1 fun vs H2 => sp (x :: (vs ++ [])) H2 Q E) : tMeth C m sp [] E ta t σ H Q := h
theorem in_make (h : t σ H fun vs H1 => ∀ x dx, H1 x = none → H1 dx = none → dx ≠ x → sp (.ref x :: (vs ++ [])) (upd (upd H1 dx (.own x)) x (.ins C dx [])) (fun v H2 => v = .non ∧ Q (.ref x) H2) E) : tMake C sp [] E t σ H Q := h
end
end L2

namespace L2
open PySem PySem.Spec PyProof.Rows
noncomputable def LeafE (x : V) (d : PyData) : Prop := (x = .non ∧ d = .none) ∨ (∃ b, x = .bl b ∧ d = .bool b) ∨ (∃ i : Int, x = .int i ∧ d = .int i) ∨ (∃ y, x = .str y ∧ d = .str y ∧ PyData.strOk y = true)
noncomputable def DatE : Nat → Hp → V → PyData → Prop
  | 0, _, x, d => LeafE x d
  | n + 1, H, x, d => LeafE x d ∨ (∃ a xs ds, x = .ref a ∧ d = .list ds ∧ H a = some (.lst xs) ∧ xs.length = ds.length ∧ ∀ (i : Nat) u e, xs[i]? = some u → ds[i]? = some e → DatE n H u e) ∨
    (∃ a xs ds, x = .ref a ∧ d = .tuple ds ∧ H a = some (.tup xs) ∧ xs.length = ds.length ∧ ∀ (i : Nat) u e, xs[i]? = some u → ds[i]? = some e → DatE n H u e)
theorem DatE.leaf {H : Hp} {x : V} {d : PyData} (h : LeafE x d) : ∀ {n : Nat}, DatE n H x d
  | 0 => h
  | n + 1 => .inl h
theorem DatE.int {H : Hp} {n : Nat} (i : Int) : DatE n H (.int i) (.int i) := DatE.leaf (.inr (.inr (.inl ⟨i, rfl, rfl⟩)))
theorem DatE.lst {H : Hp} {n : Nat} {a : Addr} {xs : List V} {ds : List PyData} (e : H a = some (.lst xs)) (hl : xs.length = ds.length) (h : ∀ (i : Nat) u e, xs[i]? = some u → ds[i]? = some e → DatE n H u e) : DatE (n + 1) H (.ref a) (.list ds) :=
  .inr (.inl ⟨a, xs, ds, rfl, rfl, e, hl, h⟩)
theorem DatE.tup {H : Hp} {n : Nat} {a : Addr} {xs : List V} {ds : List PyData} (e : H a = some (.tup xs)) (hl : xs.length = ds.length) (h : ∀ (i : Nat) u e, xs[i]? = some u → ds[i]? = some e → DatE n H u e) : DatE (n + 1) H (.ref a) (.tuple ds) :=
  .inr (.inr ⟨a, xs, ds, rfl, rfl, e, hl, h⟩)
theorem DatE.facts {H : Hp} : ∀ {n : Nat} {x : V} {d : PyData}, DatE n H x d → d.canLay0 = true ∧ d.depth ≤ n
  | n, x, d, h => by
    have hint : LeafE x d → d.canLay0 = true ∧ d.depth ≤ n := by
      rintro (⟨rfl, rfl⟩ | ⟨b, rfl, rfl⟩ | ⟨i, rfl, rfl⟩ | ⟨y, rfl, rfl, hy⟩)
      · exact ⟨rfl, Nat.zero_le _⟩
      · exact ⟨rfl, Nat.zero_le _⟩
      · exact ⟨rfl, Nat.zero_le _⟩
      · exact ⟨hy, Nat.zero_le _⟩
    match n, h with
    | 0, h => exact hint h
    | n + 1, h =>
      rcases h with h | ⟨a, xs, ds, rfl, rfl, ha, hl, hi⟩ | ⟨a, xs, ds, rfl, rfl, ha, hl, hi⟩
      · exact hint h
      · have hd : ∀ d ∈ ds, d.canLay0 = true ∧ d.depth ≤ n := fun d hd => by
          obtain ⟨i, e⟩ := List.getElem?_of_mem hd
          have hlt := get_lt e
          exact DatE.facts (hi i (xs[i]'(by omega)) d (List.getElem?_eq_getElem _) e)
        exact ⟨all_of (P := PyData.canLay0) (PA := PyData.canLayAll0) rfl (fun _ _ => rfl) fun d h => (hd d h).1, Nat.succ_le_succ (depthAll_le fun d h => (hd d h).2)⟩
      · have hd : ∀ d ∈ ds, d.canLay0 = true ∧ d.depth ≤ n := fun d hd => by
          obtain ⟨i, e⟩ := List.getElem?_of_mem hd
          have hlt := get_lt e
          exact DatE.facts (hi i (xs[i]'(by omega)) d (List.getElem?_eq_getElem _) e)
        exact ⟨all_of (P := PyData.canLay0) (PA := PyData.canLayAll0) rfl (fun _ _ => rfl) fun d h => (hd d h).1, Nat.succ_le_succ (depthAll_le fun d h => (hd d h).2)⟩
section
variable {X : Cx} {pins : List (Addr × Obj)} {σ : St} {H : Hp} {s : Shared}
theorem DatE.reads (I : Inv X pins σ H s) : ∀ {n : Nat} {x : V} {d : PyData} {v : Value}, DatE n H x d → RelV x v → ∃ as, Reads s.heap v d as
  | n, x, d, v, h, r => by
    have hint : LeafE x d → ∃ as, Reads s.heap v d as := by
      rintro (⟨rfl, rfl⟩ | ⟨b, rfl, rfl⟩ | ⟨i, rfl, rfl⟩ | ⟨y, rfl, rfl, _⟩)
      · cases r; exact ⟨_, .none⟩
      · cases r; exact ⟨_, .bool b⟩
      · obtain ⟨t, rfl⟩ := r; exact ⟨_, .int i t⟩
      · obtain ⟨t, rfl⟩ := r; exact ⟨_, .str y t⟩
    match n, h with
    | 0, h => exact hint h
    | n + 1, h =>
      rcases h with h | ⟨a, xs, ds, rfl, rfl, ha, hl, hi⟩ | ⟨a, xs, ds, rfl, rfl, ha, hl, hi⟩
      · exact hint h
      · cases r
        obtain ⟨its, m, rv, ho, hz⟩ := I.lst ha
        obtain ⟨as, h1⟩ := readsAll_of (R := DatE n H) (fun x v d h r => DatE.reads I h r) rv hl hi
        exact ⟨_, .list ho rfl rfl (by simpa using h1)⟩
      · cases r
        obtain ⟨its, rv, ⟨ob, ho, hc, m, hd⟩, hz⟩ := I.tuple (SqT.of ha)
        obtain ⟨as, h1⟩ := readsAll_of (R := DatE n H) (fun x v d h r => DatE.reads I h r) rv hl hi
        exact ⟨_, .tuple ho hc hd (by simpa using h1)⟩
noncomputable def rNeD : R2 := fun x y H Q => ∃ (n : Nat) (d e : PyData), DatE n H x d ∧ DatE n H y e ∧ n ≤ 32 ∧ Q (.bl (!PyData.eqv d e)) H
theorem q_neD (hu : X.A.units + 64 < cLine) : QOp X (compareOp .NotEq) rNeD := by
  refine ⟨fun pins s σ H x y v u Q I rx ry h => ?_⟩
  obtain ⟨n, d, e, hd, he, hn, q⟩ := h
  obtain ⟨as, r1⟩ := hd.reads I rx
  obtain ⟨bs, r2⟩ := he.reads I ry
  have f1 := hd.facts
  have f2 := he.facts
  exact PySem.SeqAt.rcNeAt_reads r1 r2 f1.1 f2.1 (by have := Nat.min_le_left d.depth e.depth; have := f1.2; omega) X.prog X.w X.xe _ ⟨.bl _, H, I, rfl, q⟩
end
section
variable {H : Hp} {Q : VK} {x y : V} {n : Nat} {d e : PyData}
theorem in_neSame (h1 : DatE n H x d) (h2 : DatE n H y d) (hn : n ≤ 32) (h : Q (.bl false) H) : rNeD x y H Q := ⟨n, d, d, h1, h2, hn, by rw [PySem.SeqAt.eqv_refl d h1.facts.1]; exact h⟩
end
end L2
namespace HT
open PySem PyProof.Rows PySem.W L2
section
variable {prog : Program} {w : World} {A : Around} {E : Value → Shared → Prop} {s : Shared}
end
end HT
namespace L2
open PySem PySem.Spec PyProof.Rows PySem.W
section
variable {X : Cx} {e : Expr} {t : TA} {p pos kpos cp : Pos} {k : Nat} {j : Nat}
noncomputable def tSortDn (K : PySem.W.Frag) (t : TA) : TE := fun σ H Q => t σ H fun vs H1 => ∃ (l : Addr) (ns : List Int), vs = [.ref l] ∧ (SqL K H1 l (ns.map V.int) ∨ SqT K H1 l (ns.map V.int)) ∧ ns.length < 64 ∧
  ∀ (d : Addr) (ms : List Int), H1 d = none → ms.Perm ns → ms.Pairwise (· ≥ ·) → Q (.ref d) (upd H1 d (.lst (ms.map V.int)))
theorem in_sortDn {K : PySem.W.Frag} {σ : St} {H : Hp} {Q : VK} (h : t σ H fun vs H1 => ∃ (l : Addr) (ns : List Int), vs = [.ref l] ∧ (SqL K H1 l (ns.map V.int) ∨ SqT K H1 l (ns.map V.int)) ∧ ns.length < 64 ∧
  ∀ (d : Addr) (ms : List Int), H1 d = none → ms.Perm ns → ms.Pairwise (· ≥ ·) → Q (.ref d) (upd H1 d (.lst (ms.map V.int)))) : tSortDn K t σ H Q := h
end
end L2

namespace L2
open PySem PySem.Spec PyProof.Rows
noncomputable abbrev PR := Option (Nat × Nat)
structure HW where
  ps : List PR
  hd : PR
  mks : List Nat
  en : List Nat
  pt : Nat
theorem getD_set_same {α : Type} {xs : List α} {i : Nat} {x d : α} (h : i < xs.length) : (xs.set i x).getD i d = x := by
  rw [List.getD_eq_getElem?_getD, List.getElem?_set_self h]; rfl
theorem getD_set_ne {α : Type} {xs : List α} {i j : Nat} {x d : α} (h : i ≠ j) : (xs.set i x).getD j d = xs.getD j d := by
  rw [List.getD_eq_getElem?_getD, List.getElem?_set_ne h, List.getD_eq_getElem?_getD]
section
variable {qs : List (Nat × Nat)} {b : Nat} {st : HW}
end
section
variable {qs : List (Nat × Nat)} {b : Nat} {st : HW}
end
end L2
namespace L2
open PySem PySem.Spec PyProof.Rows
noncomputable def rNotN : R2 := fun x y H Q => y = .non ∧ Q (.bl (!decide (x = .non))) H
theorem q_notN {X : Cx} : QOp X (compareOp .IsNot) rNotN := ⟨op_notN⟩
theorem in_notNo {H : Hp} {Q : VK} {x : V} (h : Q (.bl (!decide (x = .non))) H) : rNotN x .non H Q := ⟨rfl, h⟩
theorem putF_hit (f : Str) (v x : V) (r : List (Str × V)) : putF f v ((f, x) :: r) = (f, v) :: r := by rw [putF, if_pos rfl]
theorem putF_skip {f g : Str} (v x : V) (r : List (Str × V)) (h : ¬ g = f) : putF f v ((g, x) :: r) = (g, x) :: putF f v r := by rw [putF, if_neg h]
theorem fld_hit {f : Str} {v : V} {r : List (Str × V)} : List.lookup f ((f, v) :: r) = some v := by simp [List.lookup]
theorem fld_skip {f g : Str} {v : V} {r : List (Str × V)} (h : ¬ f = g) : List.lookup f ((g, v) :: r) = List.lookup f r := by
  have : (f == g) = false := by simpa using h
  simp [List.lookup, this]
section
variable (pa : Addr) (hv v : V) (ma ea : Addr) (n m : Int)
end
section
variable {C : Addr} {H H1 : Hp} {w pa ma ea : Addr} {vs : List V} {hv : V} {st : HW}
end
noncomputable def hw0 (qs : List (Nat × Nat)) (b : Nat) : HW := ⟨qs.map some, none, (List.range b).map fun f => lessN (qs.map Prod.fst) f, (List.range b).map fun f => lessN (qs.map Prod.fst) (f + 1), 0⟩
theorem getD_at {ns : List Nat} {f : Nat} (h : f < ns.length) : ns[f]? = some (ns.getD f 0) := by
  rw [List.getD_eq_getElem?_getD, List.getElem?_eq_getElem h]; rfl
end L2

namespace L2
open PySem PySem.Spec PyProof.Rows
end L2
namespace L2
open PySem PySem.Spec PyProof.Rows
end L2

namespace HT
open PySem PyProof.Rows PySem.W L2
section
open PySem.SeqAt
open PySem.AutoSeq1 (wpAny_loadPart')
open PySem.MeetsSeq PySem.MeetsSeq2 PySem.MeetsSeq3
end
section
variable {prog : Program} {w : World} {A : Around} {E : Value → Shared → Prop} {s : Shared}
end
end HT
namespace L2
open PySem PySem.Spec PyProof.Rows
section
variable {X : Cx}
end
end L2

namespace L2
open PySem PySem.Spec PyProof.Rows
noncomputable abbrev HP := List Nat × Nat
noncomputable def hlt (x y : HP) : Bool := HT.lt2 (castL x.1, [(x.2 : Int)]) (castL y.1, [(y.2 : Int)])
noncomputable def hd (L : List (List (List Nat))) (ms : List Nat) (i : Nat) : Option HP := ((L.getD i [])[ms.getD i 0]?).map fun r => (r, i)
end L2

namespace L2
open PySem PySem.Spec PyProof.Rows
section
variable {prog : Program} {w : World} {A : Around} {R : Result → Shared → Prop} {s : Shared} {scope : Scope}
theorem compTurn_two0 (elt target iter target2 iter2 : Expr) (scope : Scope) (pos : Pos) (it acc : Value) (env : Env) :
    compTurn (.ListComp elt [⟨target, iter, [], 0⟩, ⟨target2, iter2, [], 0⟩] scope pos) 0 it acc env = (standAt iter.pos >>= fun _ => pyNext it >>= fun r => match r with
      | none => pure (.done .next)
      | some v => letOwnedTupleGo target it v >>= fun _ => assign target env v >>= fun _ =>
        eval iter2 env >>= fun x => standAt iter2.pos >>= fun _ => foldedSetIterable iter2 env x >>= fun x => holding [x] (pyIter x) >>= fun i2 => runOwn (.compStart (.ListComp elt [⟨target, iter, [], 0⟩, ⟨target2, iter2, [], 0⟩] scope pos) 1 i2 acc env) env >>= fun _ =>
          again (.compLoop (.ListComp elt [⟨target, iter, [], 0⟩, ⟨target2, iter2, [], 0⟩] scope pos) 0 it acc env)) := by rfl
theorem compTurn_two1 (elt target iter target2 iter2 : Expr) (scope : Scope) (pos : Pos) (it acc : Value) (env : Env) :
    compTurn (.ListComp elt [⟨target, iter, [], 0⟩, ⟨target2, iter2, [], 0⟩] scope pos) 1 it acc env = (standAt iter2.pos >>= fun _ => pyNext it >>= fun r => match r with
      | none => pure (.done .next)
      | some v => letOwnedTupleGo target2 it v >>= fun _ => assign target2 env v >>= fun _ =>
        (eval elt env >>= fun x => call (.builtin "list.append") [acc, x] >>= fun _ => pure ()) >>= fun _ =>
          again (.compLoop (.ListComp elt [⟨target, iter, [], 0⟩, ⟨target2, iter2, [], 0⟩] scope pos) 1 it acc env)) := by rfl
theorem compStart_two1 {elt target iter target2 iter2 pos it acc env}
    (h0 : codeAny (model prog w) A (.compLoop (.ListComp elt [⟨target, iter, [], 0⟩, ⟨target2, iter2, [], 0⟩] scope pos) 1 it acc env) R s)
    (h : wpAny (model prog w) A (pyIter it) (fun it' s' => codeAny (model prog w) A (.compLoop (.ListComp elt [⟨target, iter, [], 0⟩, ⟨target2, iter2, [], 0⟩] scope pos) 1 it' acc env) R s')
      (notedBy (model prog w) A env fun x s' => R (.error x) s') s) :
    codeAny (model prog w) A (.compStart (.ListComp elt [⟨target, iter, [], 0⟩, ⟨target2, iter2, [], 0⟩] scope pos) 1 it acc env) R s := by
  refine codeAny_of_tree ?_
  show wpAny _ _ ((compStart (.ListComp elt [⟨target, iter, [], 0⟩, ⟨target2, iter2, [], 0⟩] scope pos) 1 it acc env).onRaise (fun x => do noteFrame x env; standAt theWindowsPlace)) _ _ s
  refine wpAny_notedAt ?_
  unfold compStart
  show wpAny _ _ (ask >>= _) _ _ s
  refine wpAny_bind (wpAny_askSetting (wpAny_ite ?_))
  split
  · first
      | exact wpAny_bind (wpAny_pure (wpAny_pure (And.intro rfl h0)))
      | exact wpAny_pure (And.intro rfl h0)
  · first
      | exact wpAny_bind (wpAny_rule (wpAny_bind (wpAny_standAt (wpAny_bind (wpAny_mono h (fun it' s' h' => wpAny_pure (And.intro rfl h')) fun _ _ x => x)))))
      | (refine wpAny_bind (wpAny_rule ?_); show wpAny _ _ (standAt iter2.pos >>= _) _ _ s; exact wpAny_bind (wpAny_standAt (wpAny_bind (wpAny_mono h (fun it' s' h' => wpAny_pure (And.intro rfl h')) fun _ _ x => x))))
theorem compLoop_in {elt target iter target2 iter2 : Expr} {pos : Pos} {it acc : Value} {env : Env} (I : Nat → Shared → Prop)
    (turn : ∀ n s, I n s → wpAny (model prog w) A (pyNext it) (fun r s1 => match r with
      | none => R (.ok .next) s1
      | some v => wpAny (model prog w) A (letOwnedTupleGo target2 it v) (fun _ s1' => wpAny (model prog w) A (assign target2 env v) (fun _ s2 => wpAny (model prog w) A (eval elt env) (fun x s3 =>
          wpAny (model prog w) A (call (.builtin "list.append") [acc, x]) (fun _ s4 => ∃ m, m < n ∧ I m s4) (fun _ _ => False) s3)
          (fun _ _ => False) s2) (fun _ _ => False) s1') (fun _ _ => False) s1) (fun _ _ => False) s)
    (n : Nat) (h : I n s) :
    codeAny (model prog w) A (.compLoop (.ListComp elt [⟨target, iter, [], 0⟩, ⟨target2, iter2, [], 0⟩] scope pos) 1 it acc env) R s := by
  have up : ∀ {α : Type} {t : Sem α} {Q Q' : α → Shared → Prop} {E : Value → Shared → Prop} {s : Shared}, wpAny (model prog w) A t Q (fun _ _ => False) s → (∀ a s, Q a s → Q' a s) → wpAny (model prog w) A t Q' E s := fun h hq => wpAny_mono h hq fun _ _ f => f.elim
  refine codeAny_loop rfl I (fun n s hI => ?_) n h
  show wpAny _ _ ((compTurn (.ListComp elt [⟨target, iter, [], 0⟩, ⟨target2, iter2, [], 0⟩] scope pos) 1 it acc env).onRaise (fun x => do noteFrame x env; theTreesLotGoes x)) _ _ s
  refine wpAny_noted ?_
  rw [compTurn_two1]
  refine wpAny_bind (wpAny_standAt (wpAny_bind (up (turn n s hI) (fun r s1 h1 => ?_))))
  cases r with
  | none => exact wpAny_pure h1
  | some v =>
    refine wpAny_bind (up h1 fun _ s1' h1' => ?_)
    exact wpAny_bind (up h1' (fun _ s2 h2 => wpAny_bind (wpAny_bind (up h2 (fun x s3 h3 => wpAny_bind (up h3
      (fun _ s4 h4 => wpAny_pure (wpAny_pure ⟨rfl, h4⟩))))))))
theorem compLoop_out {elt target iter target2 iter2 : Expr} {pos : Pos} {it acc : Value} {env : Env} (hs : ∀ x, foldedSetIterable iter2 env x = pure x) (I : Nat → Shared → Prop)
    (turn : ∀ n s, I n s → wpAny (model prog w) A (pyNext it) (fun r s1 => match r with
      | none => R (.ok .next) s1
      | some v => wpAny (model prog w) A (letOwnedTupleGo target it v) (fun _ s1' => wpAny (model prog w) A (assign target env v) (fun _ s2 => wpAny (model prog w) A (eval iter2 env) (fun x s3 =>
          wpAny (model prog w) A (pyIter x) (fun i2 s4 => codeAny (model prog w) A (.compStart (.ListComp elt [⟨target, iter, [], 0⟩, ⟨target2, iter2, [], 0⟩] scope pos) 1 i2 acc env) (fun r s' => match r with | .ok _ => ∃ m, m < n ∧ I m s' | .error _ => False) s4) (fun _ _ => False) s3)
          (fun _ _ => False) s2) (fun _ _ => False) s1') (fun _ _ => False) s1) (fun _ _ => False) s)
    (n : Nat) (h : I n s) :
    codeAny (model prog w) A (.compLoop (.ListComp elt [⟨target, iter, [], 0⟩, ⟨target2, iter2, [], 0⟩] scope pos) 0 it acc env) R s := by
  have up : ∀ {α : Type} {t : Sem α} {Q Q' : α → Shared → Prop} {E : Value → Shared → Prop} {s : Shared}, wpAny (model prog w) A t Q (fun _ _ => False) s → (∀ a s, Q a s → Q' a s) → wpAny (model prog w) A t Q' E s := fun h hq => wpAny_mono h hq fun _ _ f => f.elim
  refine codeAny_loop rfl I (fun n s hI => ?_) n h
  show wpAny _ _ ((compTurn (.ListComp elt [⟨target, iter, [], 0⟩, ⟨target2, iter2, [], 0⟩] scope pos) 0 it acc env).onRaise (fun x => do noteFrame x env; theTreesLotGoes x)) _ _ s
  refine wpAny_noted ?_
  rw [compTurn_two0]
  refine wpAny_bind (wpAny_standAt (wpAny_bind (up (turn n s hI) (fun r s1 h1 => ?_))))
  cases r with
  | none => exact wpAny_pure h1
  | some v =>
    refine wpAny_bind (up h1 fun _ s1' h1' => ?_)
    refine wpAny_bind (up h1' fun _ s2 h2 => wpAny_bind (up h2 fun x s3 h3 => wpAny_bind (wpAny_standAt ?_)))
    rw [hs]
    refine wpAny_bind (wpAny_pure (wpAny_bind (wpAny_holding (up h3 fun i2 s4 h4 => wpAny_bind (wpAny_runOwn ?_)))))
    refine codeAny_mono h4 fun r s5 h5 => ?_
    cases r with
    | ok f => exact wpAny_pure ⟨rfl, h5⟩
    | error e => exact h5.elim
end
noncomputable def tComp2 (wi : TI) (g : TG) (wi2 : TI) (g2 : TG) (te : TE) (tgs : List Str) (ix : List Nat) : TE := fun σ H Q => wi σ H fun J H1 =>
  ∃ W : Nat → Nat → List V → St → Hp → Prop, (∃ m, W 0 m [] (stComp tgs ix σ) H1) ∧ ∀ i m xs σc H, W i m xs σc H → xs.length < sizeLine ∧
    ((J.stop i H ∧ ∀ p, H p = none → Q (.ref p) (upd H p (.lst xs))) ∨ (J.go i H ∧ ∀ x H', J.yld i H x H' → g x σc H' fun σ2 H2 => wi2 σ2 H2 fun J2 H3 =>
      ∃ U : Nat → Nat → List V → St → Hp → Prop, (∃ n, U 0 n xs σ2 H3) ∧ ∀ j n ys σd H, U j n ys σd H → ys.length < sizeLine ∧
        ((J2.stop j H ∧ ∃ m', m' < m ∧ W (i + 1) m' ys σd H) ∨ (J2.go j H ∧ ∀ x H', J2.yld j H x H' → g2 x σd H' fun σ4 H4 => te σ4 H4 fun y H5 => ∃ n', n' < n ∧ U (j + 1) n' (ys ++ [y]) σ4 H5))))
section
variable {X : Cx} {N tgs frs : List Str} {ix : List Nat} {scope : Scope} {cl : List (Str × Addr)}
theorem pe_comp2 {elt iter tg iter2 tg2 : Expr} {pos : Pos} {wi wi2 : TI} {g g2 : TG} {te : TE} (c : CompOk X N tgs frs ix scope cl) (hc : X.calm = true) (hi : PI X tg iter wi)
    (hg : ∀ fp C s H, PG (cxComp X N scope cl fp C s H) tg g) (hi2 : ∀ fp C s H, PI (cxComp X N scope cl fp C s H) tg2 iter2 wi2) (hg2 : ∀ fp C s H, PG (cxComp X N scope cl fp C s H) tg2 g2) (he : ∀ fp C s H, PE (cxComp X N scope cl fp C s H) elt te)
    (hs : ∀ x, foldedSetIterable iter X.env x = pure x := by intro _; rfl) (hs2 : ∀ env x, foldedSetIterable iter2 env x = pure x := by intro _ _; rfl) :
    PE X (.ListComp elt [⟨tg, iter, [], 0⟩, ⟨tg2, iter2, [], 0⟩] scope pos) (tComp2 wi g wi2 g2 te tgs ix) := by
  intro pins s σ H Q I h
  rw [eval_ListComp]
  refine wpAny_comprehension_free (use := none) rfl hs c.clos c.kind c.names (thn (hi pins s σ H _ I h) fun xv s1 h1 => thn h1 fun itv s2 h2 => ?_)
  obtain ⟨it, fp, tn, J, H2, rfl, I2, T, st2, f2, W, ⟨m0, w0⟩, turn⟩ := h2
  have hfl : ∀ b ∈ fp, b < s2.heap.objs.size := fun b hb => by
    obtain ⟨o, e, _⟩ := T.obj _ _ st2 b hb
    exact Heap.lt_size e
  have hcn : ∀ x a, cl.lookup x = some a → X.env.cells.lookup x = some a := c.cls.get
  refine wpAny_newObj_type (wpAny_newFunctionEnv c.cell (by intro y hy; simp at hy) (fun h1 hns1 hsb1 => ?_) c.kind)
  dsimp only at hns1 hsb1 ⊢
  generalize hH2 : s2.heap.push { cls := .type "list", dict := none, data := .seq ([] : List Value).toArray } = G2 at hns1 hsb1 ⊢
  have hC : G2.objs.size = s2.heap.objs.size + 1 := by rw [← hH2, Heap.size_push]
  generalize hCC : G2.objs.size = C at *
  generalize hDD : s2.heap.objs.size = D at *
  have hDC : D ≠ C := by omega
  have hCle : D ≤ C := by omega
  have old : ∀ b o, s2.heap.get? b = some o → h1.get? b = some o := fun b o e => by
    have lt : b < s2.heap.objs.size := Heap.lt_size e
    exact hsb1.extBut b o (Nat.ne_of_lt (Nat.lt_of_lt_of_le (hDD ▸ lt) hCle)) (Heap.get?_push_of_some _ (hH2 ▸ Heap.get?_push_of_some _ e))
  have hacc : h1.get? D = some (lstObj [] 0) := hsb1.extBut _ _ hDC (Heap.get?_push_of_some _ (hH2 ▸ (hDD ▸ Heap.get?_push_size _ rfl)))
  have cellD : ∀ x a, X.env.cells.lookup x = some a → a < D := fun x a e => by
    obtain ⟨v, q⟩ := I2.cell x a e
    exact hDD ▸ q.lt
  have fpc : ∀ {H' : Hp} {us : List Value} {k : Nat}, (∀ b ∈ fp, H' b = none) → ∀ b ∈ fp, FpOk (cxComp X N scope cl fp C s2 H2) [(D, lstObj us k)] H' b := fun {H' us k} hn b hb => by
    have lb := hfl b hb
    refine ⟨hn b hb, ?_, fun z => ?_, .inl hb, fun x a e z => ?_, fun p hp => ?_⟩
    · exact Nat.ne_of_lt (Nat.lt_of_lt_of_le lb hCle)
    · rcases List.mem_cons.mp (I2.stkSub b z) with e | e
      · exact (f2 b hb).2.1 e
      · exact (f2 b hb).2.2.1 e
    · exact (f2 b hb).2.2.2.2.1 x a (hcn x a e) z
    · have : p = (D, lstObj us k) := by simpa [cxComp] using hp
      rw [this]; exact Nat.ne_of_gt lb
  have D_fs : D ∉ (cxComp X N scope cl fp C s2 H2).fs := fun z => by
    rcases List.mem_cons.mp (I2.stkSub D z) with e | e
    · exact absurd I2.lt (by rw [← e, hDD]; exact Nat.lt_irrefl _)
    · exact I2.nofs (Nat.le_of_eq hDD) e
  have I3 := inv_comp (tk := s2.toks + ([] : List (Str × Value)).length) (pins' := [(D, lstObj [] 0)]) c I2 f2 (fun b hb => hDD ▸ hfl b hb) (hDD ▸ hCle : s2.heap.objs.size ≤ C) hns1 old (fun p hp => by
    have e : p = (D, lstObj [] 0) := by simpa using hp
    subst e
    exact ⟨hacc, Nat.le_of_eq hDD, hDC, fun v z => by cases z⟩)
  have tn3 : tn 0 h1 := T.keep _ _ _ st2 fun b _ o e => old b o e
  have loop : codeAny (model X.prog X.w) X.A (.compLoop (.ListComp elt [⟨tg, iter, [], 0⟩, ⟨tg2, iter2, [], 0⟩] scope pos) 0 (.ref it) (.ref D) (compEnvC scope cl C X.env))
      (compPost (model X.prog X.w) X.A X.xe none (EP X pins σ Q) (.ref D) C) { s2 with heap := h1, toks := s2.toks + ([] : List (Str × Value)).length } := by
    refine compLoop_out (hs2 _) (fun n s' => ∃ i xs us k σc H', Inv (cxComp X N scope cl fp C s2 H2) [(D, lstObj us k)] σc H' s' ∧ tn i s'.heap ∧ (∀ b ∈ fp, H' b = none) ∧ Vals xs us ∧ W i n xs σc H') ?_ m0
      ⟨0, [], [], 0, _, H2, I3, tn3, fun b hb => (f2 b hb).1, .nil, w0⟩
    rintro n s4 ⟨i, xs, us, k, σ4, H4, I4, tn4, fr4, rv, w4⟩
    obtain ⟨hsz, tt⟩ := turn i n xs σ4 H4 w4
    rcases tt with ⟨stop, fin⟩ | ⟨go, step⟩
    · refine thn (T.done (cxComp X N scope cl fp C s2 H2) rfl rfl rfl hc i _ s4 σ4 H4 _ I4 (fpc fr4) tn4 stop) fun r s5 ⟨hr, I5⟩ => ?_
      subst hr
      obtain ⟨m, ns, _⟩ := I5.loc
      refine ⟨m, ns, fun h' sb => ?_⟩
      have J1 : Inv X pins σ H4 s5 := I2.call' I5.os I5.base I5.hok I5.bare fun b hb => ⟨(f2 b hb).2.2.2.1, (f2 b hb).2.1, (f2 b hb).2.2.2.2.1, (f2 b hb).2.2.2.2.2⟩
      have big : ∀ a, D ≤ a → a ≠ X.env.locals ∧ (a ∈ X.ex ∨ X.s₀.heap.objs.size ≤ a) ∧ (∀ x y, X.env.cells.lookup x = some y → y ≠ a) ∧ ∀ p ∈ X.pn ++ pins, p.1 ≠ a := fun a ha => by
        obtain ⟨q0, q1, q2, q3, q4, q5⟩ := I2.fpOk (b := a) (H' := fun _ => none) (hDD ▸ ha) rfl
        exact ⟨q1, q3, q4, q5⟩
      obtain ⟨b1, b2, b3, b4⟩ := big C hCle
      have J2 : Inv X pins σ H4 { s5 with heap := h' } := J1.turned (t' := s5.toks) (fun b o hb e => sb.extBut b o hb e) I5.free b1 b2 b3 b4
      obtain ⟨p1, p2, p3, p4, p5⟩ := I5.pin (D, lstObj us k) (by simp)
      obtain ⟨d1, d2, d3, d4⟩ := big D (Nat.le_refl _)
      have J3 : Inv X pins σ (upd H4 D (.lst xs)) { s5 with heap := h' } := J2.adopt p2 d1 d2 d3 d4 ⟨Nat.le_of_lt hsz, us, k, rv, sb.extBut _ _ hDC p1⟩
      exact ⟨.ref D, _, J3, rfl, fin D p2⟩
    · refine thn (T.item (cxComp X N scope cl fp C s2 H2) rfl rfl rfl hc i _ s4 σ4 H4 _ I4 (fpc fr4) tn4 go) fun r s5 ⟨u, hr, h5⟩ => ?_
      subst hr
      refine thn h5 fun _ s6 ⟨x, H6, I6, r6, y6, tn6, fr6⟩ => ?_
      have I6' := I6.pinned (fpc fr6) (T.obj _ _ tn6)
      refine thn (hg fp C s2 H2 _ s6 σ4 H6 x u _ I6' r6 (step x H6 y6)) fun _ s7 ⟨σ7, H7, I7, q7⟩ => ?_
      refine thn (hi2 fp C s2 H2 _ s7 σ7 H7 _ I7 q7) fun xv2 s8 h8 => thn h8 fun itv2 s9 h9 => ?_
      obtain ⟨it2, fp2, tn2, K2, H9, rfl, I9, T2, st9, f9, U, ⟨k0, u0⟩, turn2⟩ := h9
      have hfl2 : ∀ b ∈ fp2, b ≠ D := fun b hb => Ne.symm ((f9 b hb).2.2.2.2.2 (D, lstObj us k) (by simp [cxComp]))
      generalize hP : pinsAt fp s6.heap = P at I6' I7 I9 f9
      have fpc2 : ∀ {H' : Hp} {us' : List Value} {k' : Nat}, (∀ b ∈ fp2, H' b = none) → ∀ b ∈ fp2, FpOk (cxComp X N scope cl fp C s2 H2) ((D, lstObj us' k') :: P) H' b := fun {H' us' k'} hn b hb => by
        obtain ⟨_, z1, z2, z3, z4, z5⟩ := f9 b hb
        refine ⟨hn b hb, z1, z2, z3, z4, fun p hp => ?_⟩
        rcases List.mem_cons.mp (show p ∈ (D, lstObj us' k') :: P from hp) with e | e
        · rw [e]; exact Ne.symm (hfl2 b hb)
        · exact z5 p (by simp [cxComp, e])
      have I9' : Inv (cxComp X N scope cl fp C s2 H2) ((D, lstObj us k) :: P) σ7 H9 s9 := I9.pins_of fun p hp => by
        refine I9.pin p ?_
        rcases List.mem_cons.mp (show p ∈ (D, lstObj us k) :: P from hp) with e | e <;> simp [cxComp, e]
      have hP6 : ∀ b ∈ fp, ∀ o, s6.heap.get? b = some o → (b, o) ∈ P := fun b hb o e => by rw [← hP]; exact mem_pinsAt hb e
      have loop2 : codeAny (model X.prog X.w) X.A (.compLoop (.ListComp elt [⟨tg, iter, [], 0⟩, ⟨tg2, iter2, [], 0⟩] scope pos) 1 (.ref it2) (.ref D) (compEnvC scope cl C X.env))
          (fun r s' => match r with | .ok _ => ∃ m, m < n ∧ ∃ i xs us k σc H', Inv (cxComp X N scope cl fp C s2 H2) [(D, lstObj us k)] σc H' s' ∧ tn i s'.heap ∧ (∀ b ∈ fp, H' b = none) ∧ Vals xs us ∧ W i m xs σc H' | .error _ => False) s9 := by
        refine compLoop_in (fun n' s' => ∃ j ys us' k' σd H', Inv (cxComp X N scope cl fp C s2 H2) ((D, lstObj us' k') :: P) σd H' s' ∧ tn2 j s'.heap ∧ (∀ b ∈ fp2, H' b = none) ∧ Vals ys us' ∧ U j n' ys σd H') ?_ k0
          ⟨0, xs, us, k, _, H9, I9', st9, fun b hb => (f9 b hb).1, rv, u0⟩
        rintro n' s10 ⟨j, ys, us', k', σd, H10, I10, tn10, fr10, rv10, w10⟩
        obtain ⟨hsz2, tt2⟩ := turn2 j n' ys σd H10 w10
        rcases tt2 with ⟨stop2, m', hm', fin2⟩ | ⟨go2, step2⟩
        · refine thn (T2.done (cxComp X N scope cl fp C s2 H2) rfl rfl rfl hc j _ s10 σd H10 _ I10 (fpc2 fr10) tn10 stop2) fun r s11 ⟨hr, I11⟩ => ?_
          subst hr
          refine ⟨m', hm', i + 1, ys, us', k', σd, H10, I11.pins_of fun p hp => ?_, ?_, ?_, rv10, fin2⟩
          · exact I11.pin p (by simp [cxComp] at hp ⊢; exact .inl hp)
          · exact T.keep _ _ _ tn6 fun b hb o e => (I11.pin (b, o) (by have := hP6 b hb o e; simp [cxComp, this])).1
          · intro b hb
            obtain ⟨o, e, d⟩ := T.obj _ _ tn6 b hb
            exact (I11.pin (b, o) (by have := hP6 b hb o e; simp [cxComp, this])).2.1
        · refine thn (T2.item (cxComp X N scope cl fp C s2 H2) rfl rfl rfl hc j _ s10 σd H10 _ I10 (fpc2 fr10) tn10 go2) fun r s11 ⟨u2, hr, h11⟩ => ?_
          subst hr
          refine thn h11 fun _ s12 ⟨x2, H12, I12, r12, y12, tn12, fr12⟩ => ?_
          have I12' := I12.pinned (fpc2 fr12) (T2.obj _ _ tn12)
          refine thn (hg2 fp C s2 H2 _ s12 σd H12 x2 u2 _ I12' r12 (step2 x2 H12 y12)) fun _ s13 ⟨σ13, H13, I13, q13⟩ => ?_
          refine thn (he fp C s2 H2 _ s13 σ13 H13 _ I13 q13) fun yv s14 ⟨y, H14, I14, r14, n'', hn'', w14⟩ => ?_
          obtain ⟨p1, p2, p3, p4, p5⟩ := I14.pin (D, lstObj us' k') (by simp [cxComp])
          have hsz' : us'.toArray.size ≤ sizeLine := by simp; rw [← rv10.length]; exact Nat.le_of_lt hsz2
          refine wpAny_list_append_plain (hsz := hsz') ⟨k', p1⟩ fun h' pl sb => ?_
          have tn14 : tn2 (j + 1) s14.heap := T2.keep _ _ _ tn12 fun b hb o e => (I14.pin (b, o) (List.mem_append_right _ (List.mem_append_right _ (mem_pinsAt hb e)))).1
          have fr14 : ∀ b ∈ fp2, H14 b = none := fun b hb => by
            obtain ⟨o, e, d⟩ := T2.obj _ _ tn12 b hb
            exact (I14.pin (b, o) (List.mem_append_right _ (List.mem_append_right _ (mem_pinsAt hb e)))).2.1
          have PneD : ∀ p ∈ P, p.1 ≠ D := fun p hp e => by
            obtain ⟨b, hb, e2⟩ : ∃ b ∈ fp, p.1 = b := ⟨p.1, by rw [← hP] at hp; exact (of_pinsAt hp).1, rfl⟩
            exact absurd (hfl b hb) (by rw [← e2, e]; exact Nat.lt_irrefl _)
          have J9 : Inv (cxComp X N scope cl fp C s2 H2) P σ13 H14 s14 := I14.pins_of fun p hp => I14.pin p (by simp [cxComp] at hp ⊢; simp [hp])
          have J10 : Inv (cxComp X N scope cl fp C s2 H2) P σ13 H14 { s14 with heap := h' } := J9.turned (t' := s14.toks) (it := D) (fun b o hb e => sb.extBut b o hb e) p2 p3 (.inr (Nat.le_of_eq hDD))
            (fun x a e => Nat.ne_of_lt (cellD x a (hcn x a e))) (fun p hp => PneD p (by simpa [cxComp] using hp))
          obtain ⟨k3, pl⟩ := pl
          have eu : us'.toArray.push yv = (us' ++ [yv]).toArray := by simp
          rw [eu] at pl
          have J11 : Inv (cxComp X N scope cl fp C s2 H2) ((D, lstObj (us' ++ [yv]) k3) :: P) σ13 H14 { s14 with heap := h' } := J10.pins_of fun p hp => by
            rcases List.mem_cons.mp (show p ∈ (D, lstObj (us' ++ [yv]) k3) :: P by simpa [cxComp] using hp) with e | e
            · subst e
              exact ⟨pl, p2, p3, p4, fun v z => by cases z⟩
            · exact J10.pin p (by simp [cxComp, e])
          exact ⟨n'', hn'', j + 1, ys ++ [y], us' ++ [yv], k3, σ13, H14, J11, T2.keep _ _ _ tn14 fun b hb o e => sb.extBut b o (hfl2 b hb) e, fr14, rv10.append (.cons r14 .nil), w14⟩
      exact compStart_two1 loop2 (T2.self _ 0 _ _ _ st9 loop2)
  exact codeAny_compStart_list loop (T.self _ 0 _ _ _ tn3 loop)
theorem qe_comp2 {elt iter tg iter2 tg2 : Expr} {pos : Pos} {wi wi2 : TI} {g g2 : TG} {te : TE} (c : CompOk X N tgs frs ix scope cl) (hc : X.calm = true) (hi : QI X tg iter wi)
    (hg : ∀ fp C s H, QG (cxComp X N scope cl fp C s H) tg g) (hi2 : ∀ fp C s H, QI (cxComp X N scope cl fp C s H) tg2 iter2 wi2) (hg2 : ∀ fp C s H, QG (cxComp X N scope cl fp C s H) tg2 g2) (he : ∀ fp C s H, QE (cxComp X N scope cl fp C s H) elt te)
    (hs : ∀ x, foldedSetIterable iter X.env x = pure x := by intro _; rfl) (hs2 : ∀ env x, foldedSetIterable iter2 env x = pure x := by intro _ _; rfl) :
    QE X (.ListComp elt [⟨tg, iter, [], 0⟩, ⟨tg2, iter2, [], 0⟩] scope pos) (tComp2 wi g wi2 g2 te tgs ix) := ⟨pe_comp2 c hc hi.out (fun fp C s H => (hg fp C s H).out) (fun fp C s H => (hi2 fp C s H).out) (fun fp C s H => (hg2 fp C s H).out) (fun fp C s H => (he fp C s H).out) hs hs2⟩
end
section
variable {K : PySem.W.Frag} {g g2 : TG} {wi2 : TI} {te : TE} {σ0 : St} {H : Hp} {R : List V → Hp → Prop}
noncomputable def In2 (J2 : It) (g2 : TG) (te : TE) (xs : List V) (σ2 : St) (H3 : Hp) (F : List V → St → Hp → Prop) : Prop :=
  ∃ U : Nat → Nat → List V → St → Hp → Prop, (∃ n, U 0 n xs σ2 H3) ∧ ∀ j n ys σd H, U j n ys σd H → ys.length < sizeLine ∧
    ((J2.stop j H ∧ F ys σd H) ∨ (J2.go j H ∧ ∀ x H', J2.yld j H x H' → g2 x σd H' fun σ4 H4 => te σ4 H4 fun y H5 => ∃ n', n' < n ∧ U (j + 1) n' (ys ++ [y]) σ4 H5))
theorem in2_lst {b : Addr} {ws xs : List V} {F : List V → St → Hp → Prop} (Pu : Nat → List V → St → Hp → Prop) (hz : ∀ j ys σ H, Pu j ys σ H → ys.length < sizeLine) (ht : ∀ j ys σ H, Pu j ys σ H → SqL K H b ws) (h0 : Pu 0 xs σ0 H)
    (hs : ∀ j ys σ H x, ws[j]? = some x → Pu j ys σ H → g2 x σ H fun σ4 H4 => te σ4 H4 fun y H5 => Nx ws.length j (Pu (j + 1) (ys ++ [y]) σ4 H5)) (hd : ∀ ys σ H, Pu ws.length ys σ H → F ys σ H) : In2 (Itl K b) g2 te xs σ0 H F := by
  refine ⟨fun i m xs σ H => m = ws.length - i ∧ i ≤ ws.length ∧ Pu i xs σ H, ⟨ws.length, by simp, Nat.zero_le _, h0⟩, ?_⟩
  rintro i m xs σ H ⟨rfl, hi, p⟩
  have q := ht i xs σ H p
  refine ⟨hz i xs σ H p, ?_⟩
  by_cases hlt : i < ws.length
  · refine .inr ⟨⟨ws, ws[i], q, by simp [hlt]⟩, fun x H' y => ?_⟩
    obtain ⟨e, y⟩ := y
    subst e
    exact hs i xs σ _ x (y ws q) p
  · have e : i = ws.length := by omega
    subst e
    exact .inl ⟨⟨ws, q, Nat.le_refl _⟩, hd xs σ H p⟩
theorem comp2_lst {a : Addr} {vs : List V} (Pv : Nat → List V → St → Hp → Prop) (hz : ∀ i ys σ H, Pv i ys σ H → ys.length < sizeLine) (ht : ∀ i ys σ H, Pv i ys σ H → SqL K H a vs) (h0 : Pv 0 [] σ0 H)
    (hs : ∀ i ys σ H x, vs[i]? = some x → Pv i ys σ H → g x σ H fun σ2 H2 => wi2 σ2 H2 fun J2 H3 => In2 J2 g2 te ys σ2 H3 fun zs σd Hd => Nx vs.length i (Pv (i + 1) zs σd Hd)) (hd : ∀ ys σ H, Pv vs.length ys σ H → R ys H) :
    ∃ W : Nat → Nat → List V → St → Hp → Prop, (∃ m, W 0 m [] σ0 H) ∧ ∀ i m xs σc H, W i m xs σc H → xs.length < sizeLine ∧
    (((Itl K a).stop i H ∧ R xs H) ∨ ((Itl K a).go i H ∧ ∀ x H', (Itl K a).yld i H x H' → g x σc H' fun σ2 H2 => wi2 σ2 H2 fun J2 H3 =>
      ∃ U : Nat → Nat → List V → St → Hp → Prop, (∃ n, U 0 n xs σ2 H3) ∧ ∀ j n ys σd H, U j n ys σd H → ys.length < sizeLine ∧
        ((J2.stop j H ∧ ∃ m', m' < m ∧ W (i + 1) m' ys σd H) ∨ (J2.go j H ∧ ∀ x H', J2.yld j H x H' → g2 x σd H' fun σ4 H4 => te σ4 H4 fun y H5 => ∃ n', n' < n ∧ U (j + 1) n' (ys ++ [y]) σ4 H5)))) := by
  refine ⟨fun i m xs σ H => m = vs.length - i ∧ i ≤ vs.length ∧ Pv i xs σ H, ⟨vs.length, by simp, Nat.zero_le _, h0⟩, ?_⟩
  rintro i m xs σ H ⟨rfl, hi, p⟩
  have q := ht i xs σ H p
  refine ⟨hz i xs σ H p, ?_⟩
  by_cases hlt : i < vs.length
  · refine .inr ⟨⟨vs, vs[i], q, by simp [hlt]⟩, fun x H' y => ?_⟩
    obtain ⟨e, y⟩ := y
    subst e
    exact hs i xs σ _ x (y vs q) p
  · have e : i = vs.length := by omega
    subst e
    exact .inl ⟨⟨vs, q, Nat.le_refl _⟩, hd xs σ H p⟩
end
end L2

namespace L2
open PySem PySem.Spec PyProof.Rows
theorem seen_skip {os : List Nat} {n i : Nat} (hO : Ord os n) (hi : i < n) (ex : (∃ a, a < i ∧ Rb os a i) ∨ os.getD i 0 = i) (j : Nat) : seenP os (i + 1) j ↔ seenP os i j := by
  refine ⟨fun ⟨w, a, ha, ra⟩ => ⟨w, ?_⟩, fun ⟨w, a, ha, ra⟩ => ⟨w, a, by omega, ra⟩⟩
  rcases Nat.lt_or_ge a i with q | q
  · exact ⟨a, q, ra⟩
  · have : a = i := by omega
    subst this
    rcases ex with ⟨b, hb, rb⟩ | hf
    · exact ⟨b, hb, rb.trans ra⟩
    · have := wt_rb hO hi ra
      rw [w] at this
      unfold wt at this
      rw [if_pos hf] at this
      cases this
theorem seen_take {os : List Nat} {n i k : Nat} (hO : Ord os n) (hi : i < n) (h2 : os.getD i 0 ≠ i) (hk : itN os (k + 1) i = i) (j : Nat) (hj : j < n) : seenP os (i + 1) j ↔ seenP os i j ∨ j ∈ rgN os i (k + 1) := by
  have w1 : wt os i = 1 := by unfold wt; rw [if_neg h2]
  constructor
  · rintro ⟨w, a, ha, ra⟩
    rcases Nat.lt_or_ge a i with q | q
    · exact .inl ⟨w, a, q, ra⟩
    · have : a = i := by omega
      subst this
      exact .inr (rgN_all hk ra)
  · rintro (⟨w, a, ha, ra⟩ | h)
    · exact ⟨w, a, by omega, ra⟩
    · have r := rgN_rb h
      exact ⟨by rw [wt_rb hO hi r, w1], i, by omega, r⟩
theorem getD_bool {met : List Bool} {p : Nat} (h : p < met.length) : met.getD p true = met.getD p false := by
  rw [List.getD_eq_getElem?_getD, List.getD_eq_getElem?_getD, List.getElem?_eq_getElem h]; rfl
theorem walk_cyc {os : List Nat} {n i k : Nat} (hO : Ord os n) (hi : i < n) (hk : itN os (k + 1) i = i) (hn : (rgN os i (k + 1)).Nodup) : ∀ (d j : Nat) (met : List Bool) (f : Nat), j + d = k + 1 → met.length = n → (∀ m, j ≤ m → m < k + 1 → met.getD (itN os m i) false = false) → (j = 0 ∨ met.getD i false = true) → d < f →
    (walk os f met (itN os j i)).1 = (List.range' j d).map fun t => itN os t i := by
  have inj : ∀ a b, a < k + 1 → b < k + 1 → itN os a i = itN os b i → a = b := fun a b ha hb e => by
    have h := hn
    unfold rgN at h
    rw [List.nodup_iff_pairwise_ne, List.pairwise_map] at h
    rcases Nat.lt_trichotomy a b with q | q | q
    · have := List.pairwise_iff_getElem.mp h a b (by simpa using ha) (by simpa using hb) q
      simp only [List.getElem_range] at this
      exact absurd e this
    · exact q
    · have := List.pairwise_iff_getElem.mp h b a (by simpa using hb) (by simpa using ha) q
      simp only [List.getElem_range] at this
      exact absurd e.symm this
  intro d
  induction d with
  | zero =>
    intro j met f hj hl hm h0 hf
    obtain ⟨g, rfl⟩ : ∃ g, f = g + 1 := ⟨f - 1, by omega⟩
    have : j = k + 1 := by omega
    subst this
    rw [hk]
    unfold walk
    have : met.getD i true = true := by
      rw [getD_bool (by omega)]
      exact h0.elim (fun z => by omega) id
    rw [if_pos this]; rfl
  | succ d ih =>
    intro j met f hj hl hm h0 hf
    obtain ⟨g, rfl⟩ : ∃ g, f = g + 1 := ⟨f - 1, by omega⟩
    have hjn := itN_lt hO j hi
    have hmj := hm j (Nat.le_refl _) (by omega)
    unfold walk
    rw [if_neg (by rw [getD_bool (by omega), hmj]; simp)]
    show itN os j i :: (walk os g (met.set (itN os j i) true) (itN os (j + 1) i)).1 = _
    have k1 : ∀ m, j + 1 ≤ m → m < k + 1 → (met.set (itN os j i) true).getD (itN os m i) false = false := fun m h1 h2 => by
      rw [set_getD (by omega), if_neg (fun e => by have := inj _ _ h2 (by omega) e; omega)]
      exact hm m (by omega) h2
    have k2 : (met.set (itN os j i) true).getD i false = true := by
      rw [set_getD (by omega)]
      rcases h0 with rfl | h0
      · exact if_pos rfl
      · rw [h0]; split <;> rfl
    rw [ih (j + 1) (met.set (itN os j i) true) g (by omega) (by simpa using hl) k1 (.inr k2) (by omega), List.range'_succ]; rfl
theorem upTo_skip {os : List Nat} {n i : Nat} (hO : Ord os n) (hi : i < n) (ex : (∃ a, a < i ∧ Rb os a i) ∨ os.getD i 0 = i) : (upTo os (i + 1)).1 = (upTo os i).1 := by
  have hml : (upTo os i).2.length = n := by rw [upTo_len, hO.len]
  rw [upTo_succ]
  unfold goOn
  have hw : (walk os (os.length + 1) (upTo os i).2 i).1.length ≤ 1 := by
    unfold walk
    split
    · simp
    · rcases ex with h | h
      · rename_i g
        rw [getD_bool (by omega)] at g
        exact absurd (((upTo_facts hO i (by omega)).2.1 i hi).mpr h) g
      · simp only [List.length_cons]
        rw [h]
        obtain ⟨m, hm⟩ : ∃ m, os.length = m + 1 := ⟨n - 1, by rw [hO.len]; omega⟩
        rw [hm]
        unfold walk
        rw [if_pos (by rw [getD_bool (by simp; omega), set_getD (by omega), if_pos rfl])]
        simp
  dsimp only
  rw [if_neg (by omega)]
theorem upTo_take {os : List Nat} {n i k : Nat} (hO : Ord os n) (hi : i < n) (un : ∀ a, a < i → ¬ Rb os a i) (h2 : os.getD i 0 ≠ i) (hk : itN os (k + 1) i = i) (hn : (rgN os i (k + 1)).Nodup) : (upTo os (i + 1)).1 = (upTo os i).1 ++ [rgN os i (k + 1)] := by
  have hml : (upTo os i).2.length = n := by rw [upTo_len, hO.len]
  have hkn : k + 1 ≤ n := by have := nodup_le hn (rgN_lt hO hi _); rw [rgN_len] at this; exact this
  have hw := walk_cyc hO hi hk hn (k + 1) 0 (upTo os i).2 (os.length + 1) (by omega) hml (fun m _ _ => by
    cases e : (upTo os i).2.getD (itN os m i) false with
    | false => rfl
    | true =>
      obtain ⟨a, ha, ra⟩ := ((upTo_facts hO i (by omega)).2.1 _ (itN_lt hO m hi)).mp e
      exact absurd (ra.trans (Rb.symm hO hi ⟨m, rfl⟩)) (un a ha)) (.inl rfl) (by rw [hO.len]; omega)
  have hw2 : (walk os (os.length + 1) (upTo os i).2 i).1 = rgN os i (k + 1) := by
    rw [show (walk os (os.length + 1) (upTo os i).2 i).1 = _ from hw]
    unfold rgN
    rw [List.range_eq_range']
  have hk0 : k ≠ 0 := fun z => by subst z; exact h2 hk
  rw [upTo_succ]
  unfold goOn
  dsimp only
  rw [hw2, if_pos (by rw [rgN_len]; omega)]
inductive RMv where
  | take (p : Nat)
  | move (p q : Nat)
  | lay (p : Nat)
noncomputable def RMv.on (s : List V × V) : RMv → List V × V
  | .take p => (s.1.set p .non, s.1.getD p .non)
  | .move p q => ((s.1.set q (s.1.getD p .non)).set p .non, s.2)
  | .lay p => (s.1.set p s.2, .non)
noncomputable def RMv.lt (n : Nat) : RMv → Prop
  | .take p => p < n
  | .move p q => p < n ∧ q < n
  | .lay p => p < n
noncomputable def RMv.vs : RMv → List V
  | .take p => [.str "take", .int (p : Nat)]
  | .move p q => [.str "move", .int (p : Nat), .int (q : Nat)]
  | .lay p => [.str "lay", .int (p : Nat)]
noncomputable def mvI (r : List Nat) (m : Nat) : List RMv := (List.range m).map fun i => RMv.move (r.getD (i + 1) 0) (r.getD i 0)
noncomputable def mvR (r : List Nat) : List RMv := RMv.take (r.getD 0 0) :: (mvI r (r.length - 1) ++ [RMv.lay (r.getD (r.length - 1) 0)])
noncomputable def mvs (rgs : List (List Nat)) : List RMv := (rgs.map mvR).flatten
noncomputable def rmvs (os : List Nat) : List RMv := mvs (ringsF os)
noncomputable def mvT : Nat → List Nat → List RMv
  | a, [] => [.lay a]
  | a, b :: r => .move b a :: mvT b r
theorem mvI_succ (r : List Nat) (m : Nat) : mvI r (m + 1) = mvI r m ++ [RMv.move (r.getD (m + 1) 0) (r.getD m 0)] := by unfold mvI; rw [List.range_succ, List.map_append]; rfl
theorem mvT_eq : ∀ (rest : List Nat) (a : Nat), mvI (a :: rest) rest.length ++ [RMv.lay ((a :: rest).getD rest.length 0)] = mvT a rest
  | [], a => rfl
  | b :: r, a => by
    have h := mvT_eq r b
    rw [show mvT a (b :: r) = .move b a :: mvT b r from rfl, ← h]
    unfold mvI
    rw [List.length_cons, List.range_succ_eq_map, List.map_cons, List.map_map]
    rfl
theorem mvR_cons (a : Nat) (rest : List Nat) : mvR (a :: rest) = .take a :: mvT a rest := by
  unfold mvR
  rw [← mvT_eq]; rfl
theorem mvR_len {r : List Nat} (h : 0 < r.length) : (mvR r).length = r.length + 1 := by
  unfold mvR mvI
  simp; omega
noncomputable def Chn (os : List Nat) (r0 : Nat) : Nat → List Nat → Prop
  | a, [] => os.getD a 0 = r0
  | a, b :: r => os.getD a 0 = b ∧ Chn os r0 b r
theorem mvT_spec {os : List Nat} {us0 : List V} {n r0 : Nat} {h : V} (hh : h = us0.getD r0 .non) : ∀ (rest : List Nat) (a : Nat) (us : List V), us.length = n → (∀ x ∈ a :: rest, x < n) → (a :: rest).Nodup → Chn os r0 a rest → (∀ x ∈ rest, us.getD x .non = us0.getD x .non) →
    ∃ us', (mvT a rest).foldl RMv.on (us, h) = (us', .non) ∧ us'.length = n ∧ (∀ x ∈ a :: rest, us'.getD x .non = us0.getD (os.getD x 0) .non) ∧ ∀ x, x ∉ a :: rest → us'.getD x .non = us.getD x .non
  | [], a, us, hl, hb, hn, hc, hu => by
    have ha := hb a (List.mem_cons_self ..)
    refine ⟨us.set a h, rfl, by simpa using hl, fun x hx => ?_, fun x hx => ?_⟩
    · rw [List.mem_singleton.mp hx, getD_set_same (by omega), show os.getD a 0 = r0 from hc, hh]
    · rw [getD_set_ne (fun e => hx (by rw [e]; exact List.mem_cons_self ..))]
  | b :: r, a, us, hl, hb, hn, hc, hu => by
    obtain ⟨hc1, hc2⟩ := hc
    have ha := hb a (List.mem_cons_self ..)
    have hb' := hb b (List.mem_cons_of_mem _ (List.mem_cons_self ..))
    obtain ⟨hna, hn2⟩ := List.nodup_cons.mp hn
    obtain ⟨hnb, hn3⟩ := List.nodup_cons.mp hn2
    have hab : a ≠ b := fun e => hna (by rw [e]; exact List.mem_cons_self ..)
    have el : ((us.set a (us.getD b .non)).set b .non).length = n := by simpa using hl
    obtain ⟨us', e1, e2, e3, e4⟩ := mvT_spec hh r b ((us.set a (us.getD b .non)).set b .non) el (fun x hx => hb x (List.mem_cons_of_mem _ hx)) hn2 hc2 (fun x hx => by
      rw [getD_set_ne (fun e => hnb (by rw [e]; exact hx)), getD_set_ne (fun e => hna (by rw [e]; exact List.mem_cons_of_mem _ hx))]
      exact hu x (List.mem_cons_of_mem _ hx))
    refine ⟨us', e1, e2, fun x hx => ?_, fun x hx => ?_⟩
    · rcases List.mem_cons.mp hx with rfl | hx
      · rw [e4 x hna, getD_set_ne (Ne.symm hab), getD_set_same (by omega), hc1]
        exact hu b (List.mem_cons_self ..)
      · exact e3 x hx
    · have h1 : x ≠ a := fun e => hx (by rw [e]; exact List.mem_cons_self ..)
      have h2 : x ∉ b :: r := fun e => hx (List.mem_cons_of_mem _ e)
      have h3 : x ≠ b := fun e => h2 (by rw [e]; exact List.mem_cons_self ..)
      rw [e4 x h2, getD_set_ne (Ne.symm h3), getD_set_ne (Ne.symm h1)]
theorem rgN_shift (os : List Nat) (i k : Nat) : rgN os i (k + 1) = i :: rgN os (os.getD i 0) k := by
  unfold rgN
  rw [List.range_succ_eq_map, List.map_cons, List.map_map]
  refine congrArg (List.cons i) (List.map_congr_left fun t _ => ?_)
  show itN os (t + 1) i = itN os t (os.getD i 0)
  rw [Nat.add_comm, itN_add os 1 t i]; rfl
theorem chn_rg (os : List Nat) (r0 : Nat) : ∀ (k i : Nat), itN os (k + 1) i = r0 → Chn os r0 i (rgN os (os.getD i 0) k)
  | 0, i, h => h
  | k + 1, i, h => by
    rw [rgN_shift]
    refine ⟨rfl, chn_rg os r0 k _ ?_⟩
    rw [← h, Nat.add_comm (k + 1) 1, itN_add os 1 (k + 1) i]; rfl
theorem least_period {os : List Nat} {n i : Nat} (hO : Ord os n) (hi : i < n) : ∃ k, itN os (k + 1) i = i ∧ ∀ t, 0 < t → t < k + 1 → itN os t i ≠ i := by
  obtain ⟨m, h0, hm⟩ := itN_period hO hi
  induction m using Nat.strongRecOn with
  | ind m ih =>
    by_cases h : ∃ t, 0 < t ∧ t < m ∧ itN os t i = i
    · obtain ⟨t, h1, h2, h3⟩ := h
      exact ih t h2 h1 h3
    · refine ⟨m - 1, by rw [show m - 1 + 1 = m by omega]; exact hm, fun t h1 h2 e => h ⟨t, h1, by omega, e⟩⟩
theorem rmvs_upTo {os : List Nat} {n : Nat} (hO : Ord os n) {us0 : List V} (hl : us0.length = n) : ∀ i, i ≤ n → ∃ us, (mvs (upTo os i).1).foldl RMv.on (us0, .non) = (us, .non) ∧ us.length = n ∧ ∀ j, j < n → (seenP os i j → us.getD j .non = us0.getD (os.getD j 0) .non) ∧ (¬ seenP os i j → us.getD j .non = us0.getD j .non)
  | 0, _ => ⟨us0, rfl, hl, fun j _ => ⟨fun z => by obtain ⟨_, a, ha, _⟩ := z; omega, fun _ => rfl⟩⟩
  | i + 1, hi => by
    obtain ⟨us, e1, e2, e3⟩ := rmvs_upTo hO hl i (by omega)
    by_cases ex : (∃ a, a < i ∧ Rb os a i) ∨ os.getD i 0 = i
    · rw [upTo_skip hO (by omega) ex]
      exact ⟨us, e1, e2, fun j hj => ⟨fun z => (e3 j hj).1 ((seen_skip hO (by omega) ex j).mp z), fun z => (e3 j hj).2 fun y => z ((seen_skip hO (by omega) ex j).mpr y)⟩⟩
    · have un : ∀ a, a < i → ¬ Rb os a i := fun a ha ra => ex (.inl ⟨a, ha, ra⟩)
      have h2 : os.getD i 0 ≠ i := fun z => ex (.inr z)
      obtain ⟨k, hk, hleast⟩ := least_period hO (show i < n by omega)
      have hn := rgN_nodup hO (show i < n by omega) (k + 1) hleast
      have hlt := rgN_lt hO (show i < n by omega) (k + 1)
      have dis : ∀ j, j ∈ rgN os i (k + 1) → ¬ seenP os i j := fun j hj ⟨_, a, ha, ra⟩ => un a ha (ra.trans ((rgN_rb hj).symm hO (by omega)))
      rw [upTo_take hO (by omega) un h2 hk hn]
      have es : ∀ j, j < n → (seenP os (i + 1) j ↔ seenP os i j ∨ j ∈ rgN os i (k + 1)) := seen_take hO (by omega) h2 hk
      rw [rgN_shift] at hn hlt dis es ⊢
      have hui : us.getD i .non = us0.getD i .non := (e3 i (by omega)).2 (dis i (List.mem_cons_self ..))
      obtain ⟨us', f1, f2, f3, f4⟩ := mvT_spec (os := os) (us0 := us0) (n := n) (r0 := i) (h := us.getD i .non) hui (rgN os (os.getD i 0) k) i (us.set i .non) (by simpa using e2) hlt hn (chn_rg os i k i hk) (fun x hx => by
        obtain ⟨hni, _⟩ := List.nodup_cons.mp hn
        rw [getD_set_ne (fun e => hni (by subst e; exact hx))]
        exact (e3 x (hlt x (List.mem_cons_of_mem _ hx))).2 (dis x (List.mem_cons_of_mem _ hx)))
      refine ⟨us', ?_, f2, fun j hj => ⟨fun z => ?_, fun z => ?_⟩⟩
      · unfold mvs at e1 ⊢
        rw [List.map_append, List.flatten_append, List.foldl_append, e1]
        show ((mvR (i :: rgN os (os.getD i 0) k)) ++ []).foldl RMv.on (us, .non) = _
        rw [List.append_nil, mvR_cons]
        exact f1
      · by_cases q : j ∈ i :: rgN os (os.getD i 0) k
        · exact f3 j q
        · rw [f4 j q, getD_set_ne (fun e => q (by rw [e]; exact List.mem_cons_self ..))]
          exact (e3 j hj).1 (((es j hj).mp z).elim id fun y => absurd y q)
      · have q : j ∉ i :: rgN os (os.getD i 0) k := fun y => z ((es j hj).mpr (.inr y))
        rw [f4 j q, getD_set_ne (fun e => q (by rw [e]; exact List.mem_cons_self ..))]
        exact (e3 j hj).2 fun y => z ((es j hj).mpr (.inl y))
theorem rmvs_spec {os : List Nat} {n : Nat} (hO : Ord os n) {us0 : List V} (hl : us0.length = n) : (rmvs os).foldl RMv.on (us0, .non) = (os.map fun p => us0.getD p .non, .non) := by
  obtain ⟨us, e1, e2, e3⟩ := rmvs_upTo hO hl n (Nat.le_refl _)
  unfold rmvs ringsF
  rw [hO.len, e1]
  refine congrArg (fun z => (z, V.non)) (List.ext_getElem? fun j => ?_)
  by_cases hj : j < n
  · obtain ⟨h1, h2⟩ := hO.nx hj
    rw [List.getElem?_map, h1]
    have hu : us[j]? = some (us.getD j .non) := by
      rw [List.getD_eq_getElem?_getD, List.getElem?_eq_getElem (by omega)]; rfl
    rw [hu]
    show _ = some (us0.getD (os.getD j 0) .non)
    by_cases q : seenP os n j
    · rw [(e3 j hj).1 q]
    · rw [(e3 j hj).2 q]
      have : os.getD j 0 = j := by
        by_cases z : os.getD j 0 = j
        · exact z
        · exact absurd ⟨by unfold wt; rw [if_neg z], j, hj, 0, rfl⟩ q
      rw [this]
  · rw [List.getElem?_eq_none (by omega), List.getElem?_eq_none (by rw [List.length_map, hO.len]; omega)]
theorem RMv.on_len (s : List V × V) (m : RMv) : (RMv.on s m).1.length = s.1.length := by cases m <;> simp [RMv.on]
theorem walk_lt {os : List Nat} {n : Nat} (h : ∀ o ∈ os, o < n) (h0 : 0 < n) : ∀ (f : Nat) (met : List Bool) (pl : Nat), pl < n → ∀ x ∈ (walk os f met pl).1, x < n
  | 0, _, _, _, x, hx => by simp [walk] at hx
  | f + 1, met, pl, hp, x, hx => by
    unfold walk at hx
    split at hx
    · cases hx
    · rcases List.mem_cons.mp hx with e | hx
      · rw [e]; exact hp
      · refine walk_lt h h0 f _ _ ?_ x hx
        rw [List.getD_eq_getElem?_getD]
        cases e : os[pl]? with
        | none => exact h0
        | some o => exact h o (List.mem_of_getElem? e)
theorem upTo_lt {os : List Nat} {n : Nat} (hO : Ord os n) : ∀ i, i ≤ n → ∀ r ∈ (upTo os i).1, 1 < r.length ∧ ∀ x ∈ r, x < n
  | 0, _, r, hr => by cases hr
  | i + 1, hi, r, hr => by
    rw [upTo_succ] at hr
    unfold goOn at hr
    dsimp only at hr
    split at hr
    · rename_i g
      rcases List.mem_append.mp hr with q | q
      · exact upTo_lt hO i (by omega) r q
      · rw [List.mem_singleton.mp q]
        exact ⟨g, walk_lt hO.lt (by omega) _ _ _ (by omega)⟩
    · exact upTo_lt hO i (by omega) r hr
theorem rings_lt {os : List Nat} {n : Nat} (hO : Ord os n) : ∀ r ∈ ringsF os, 1 < r.length ∧ ∀ x ∈ r, x < n := by
  unfold ringsF; rw [hO.len]; exact upTo_lt hO n (Nat.le_refl _)
theorem getD_lt {r : List Nat} {n i : Nat} (h : ∀ x ∈ r, x < n) (hi : i < r.length) : r.getD i 0 < n := by
  rw [List.getD_eq_getElem?_getD, List.getElem?_eq_getElem hi]
  exact h _ (List.getElem_mem hi)
theorem mvR_lt {r : List Nat} {n : Nat} (h1 : 1 < r.length) (h : ∀ x ∈ r, x < n) : ∀ m ∈ mvR r, m.lt n := by
  intro m hm
  unfold mvR mvI at hm
  rcases List.mem_cons.mp hm with rfl | hm
  · exact getD_lt h (by omega)
  · rcases List.mem_append.mp hm with hm | hm
    · obtain ⟨i, hi, rfl⟩ := List.mem_map.mp hm
      have := List.mem_range.mp hi
      exact ⟨getD_lt h (by omega), getD_lt h (by omega)⟩
    · rw [List.mem_singleton.mp hm]
      exact getD_lt h (by omega)
theorem rmvs_lt {os : List Nat} {n : Nat} (hO : Ord os n) : ∀ m ∈ rmvs os, m.lt n := by
  intro m hm
  unfold rmvs mvs at hm
  obtain ⟨l, hl, hm⟩ := List.mem_flatten.mp hm
  obtain ⟨r, hr, rfl⟩ := List.mem_map.mp hl
  obtain ⟨a, b⟩ := rings_lt hO r hr
  exact mvR_lt a b m hm
theorem mvs_len {rgs : List (List Nat)} (h : ∀ r ∈ rgs, 1 < r.length) : (mvs rgs).length = (rgs.map fun r => r.length + 1).sum := by
  unfold mvs
  rw [List.length_flatten, List.map_map]
  refine congrArg List.sum (List.map_congr_left fun r hr => ?_)
  exact mvR_len (by have := h r hr; omega)
theorem sm_le {f : Nat → Nat} (h : ∀ j, f j ≤ 1) : ∀ n, sm f n ≤ n
  | 0 => Nat.le_refl _
  | n + 1 => by
    show sm f n + f n ≤ _
    have := sm_le h n; have := h n; omega
theorem rmvs_len {os : List Nat} {n : Nat} (hO : Ord os n) : (rmvs os).length = ((ringsF os).map fun r => r.length + 1).sum ∧ (rmvs os).length ≤ 2 * n := by
  have e : (rmvs os).length = ((ringsF os).map fun r => r.length + 1).sum := mvs_len fun r hr => (rings_lt hO r hr).1
  refine ⟨e, ?_⟩
  rw [e, rings_sum hO]
  have h1 := sm_le (f := wt os) (fun j => by rcases wt_two os j with w | w <;> omega) n
  have h2 := sm_le (f := ld os) (fun j => by unfold ld; split <;> omega) n
  omega
end L2

namespace L2
open PySem PySem.Spec PyProof.Rows
noncomputable def TupK (H H' : Hp) : Prop := ∀ b xs, H b = some (.tup xs) → H' b = some (.tup xs)
theorem TupK.refl (H : Hp) : TupK H H := fun _ _ e => e
theorem TupK.trans {H H1 H2 : Hp} (a : TupK H H1) (b : TupK H1 H2) : TupK H H2 := fun c xs e => b c xs (a c xs e)
theorem TupK.of {H H1 : Hp} (s : Same H H1) : TupK H H1 := fun b xs e => s _ _ e
theorem TupK.st2 {H H1 : Hp} {p : Addr} (t : Tp2 H p) (s : St2 p H H1) : TupK H H1 := fun b xs e => by
  obtain ⟨a1, a2, h9, _⟩ := t
  exact s.keep _ _ e (ne_of e h9 (by intro c; cases c))
theorem TupK.upd {H : Hp} {a : Addr} {o o' : HO} (e : H a = some o') (h : ∀ xs, o' ≠ .tup xs) : TupK H (upd H a o) := fun b xs hb => by
  have : b ≠ a := fun z => by rw [z, e] at hb; exact h xs (Option.some.inj hb)
  rw [upd_ne this]; exact hb
section
variable {H H1 : Hp} {v y : V} {d : PyData}
variable {vs us rs : List V} {ds : List PyData}
end
theorem ne_rth : ¬ (("things" : Str) = "held") := by decide +kernel
theorem ne_rtp : ¬ (("things" : Str) = "plan") := by decide +kernel
theorem ne_rtd : ¬ (("things" : Str) = "done") := by decide +kernel
theorem ne_rhp : ¬ (("held" : Str) = "plan") := by decide +kernel
theorem ne_rhd : ¬ (("held" : Str) = "done") := by decide +kernel
theorem ne_rpd : ¬ (("plan" : Str) = "done") := by decide +kernel
noncomputable def rwF (ta : Addr) (hv : V) (pa : Addr) (n : Int) : List (Str × V) := [("things", V.ref ta), ("held", hv), ("plan", V.ref pa), ("done", V.int n)]
section
variable (ta : Addr) (hv v : V) (pa : Addr) (n m : Int)
theorem rwF_held : putF "held" v (rwF ta hv pa n) = rwF ta v pa n := by unfold rwF; rw [putF_skip _ _ _ ne_rth, putF_hit]
theorem rwF_done : putF "done" (.int m) (rwF ta hv pa n) = rwF ta hv pa m := by unfold rwF; rw [putF_skip _ _ _ ne_rtd, putF_skip _ _ _ ne_rhd, putF_skip _ _ _ ne_rpd, putF_hit]
theorem rwF_1 : putF "held" hv (putF "things" (.ref ta) []) = ([("things", V.ref ta), ("held", hv)] : List (Str × V)) := by
  show putF "held" hv [("things", V.ref ta)] = _
  rw [putF_skip _ _ _ ne_rth]; rfl
theorem rwF_2 : putF "plan" (.ref pa) [("things", V.ref ta), ("held", hv)] = ([("things", V.ref ta), ("held", hv), ("plan", V.ref pa)] : List (Str × V)) := by
  rw [putF_skip _ _ _ ne_rtp, putF_skip _ _ _ ne_rhp]; rfl
theorem rwF_3 : putF "done" (.int n) [("things", V.ref ta), ("held", hv), ("plan", V.ref pa)] = rwF ta hv pa n := by
  rw [putF_skip _ _ _ ne_rtd, putF_skip _ _ _ ne_rhd, putF_skip _ _ _ ne_rpd]; rfl
theorem rwF_at_things : (rwF ta hv pa n).lookup ("things" : Str) = some (.ref ta) := fld_hit
theorem rwF_at_held : (rwF ta hv pa n).lookup ("held" : Str) = some hv := by unfold rwF; rw [fld_skip (Ne.symm ne_rth), fld_hit]
theorem rwF_at_plan : (rwF ta hv pa n).lookup ("plan" : Str) = some (.ref pa) := by unfold rwF; rw [fld_skip (Ne.symm ne_rtp), fld_skip (Ne.symm ne_rhp), fld_hit]
theorem rwF_at_done : (rwF ta hv pa n).lookup ("done" : Str) = some (.int n) := by unfold rwF; rw [fld_skip (Ne.symm ne_rtd), fld_skip (Ne.symm ne_rhd), fld_skip (Ne.symm ne_rpd), fld_hit]
theorem rwF_no {f : Str} (h1 : ¬ f = "things") (h2 : ¬ f = "held") (h3 : ¬ f = "plan") (h4 : ¬ f = "done") : (rwF ta hv pa n).lookup f = none := by
  unfold rwF
  rw [fld_skip h1, fld_skip h2, fld_skip h3, fld_skip h4]; rfl
end
noncomputable def MvsAt (H : Hp) (ps : List Addr) (ms : List RMv) : Prop := ps.length = ms.length ∧ ∀ (i : Nat) p m, ps[i]? = some p → ms[i]? = some m → H p = some (.tup m.vs)
noncomputable def KpR (w ta : Addr) (H H' : Hp) : Prop := ∀ b o, H b = some o → b ≠ w → b ≠ ta → H' b = some o
theorem KpR.trans {w ta : Addr} {H H1 H2 : Hp} (a : KpR w ta H H1) (b : KpR w ta H1 H2) : KpR w ta H H2 := fun c o e x y => b c o (a c o e x y) x y
section
variable {C : Addr} {H H1 : Hp} {w ta pa : Addr} {ps : List Addr} {us : List V} {hv : V} {ms : List RMv} {d : Nat}
theorem MvsAt.tk (h : MvsAt H ps ms) (k : TupK H H1) : MvsAt H1 ps ms := ⟨h.1, fun i p m a b => k _ _ (h.2 i p m a b)⟩
theorem MvsAt.nil : MvsAt H [] [] := ⟨rfl, fun i p m a => by simp at a⟩
theorem MvsAt.snoc {p : Addr} {m : RMv} (h : MvsAt H ps ms) (e : H p = some (.tup m.vs)) : MvsAt H (ps ++ [p]) (ms ++ [m]) := by
  refine ⟨by simp [h.1], fun i q x a b => ?_⟩
  rcases snoc_get a with ⟨l, a⟩ | ⟨l, a⟩
  · rcases snoc_get b with ⟨_, b⟩ | ⟨l', b⟩
    · exact h.2 i q x a b
    · have := h.1; omega
  · rcases snoc_get b with ⟨l', b⟩ | ⟨_, b⟩
    · have := h.1; omega
    · rw [a, b]; exact e
theorem KpR.upT {o : HO} : KpR w ta H (upd H ta o) := fun b u e _ n => by rw [upd_ne n]; exact e
theorem KpR.upW {o : HO} : KpR w ta H (upd H w o) := fun b u e n _ => by rw [upd_ne n]; exact e
end
end L2

namespace L2
open PySem PySem.Spec PyProof.Rows
section
variable {X : Cx} {e : Expr} {es : List Expr} {t : TA} {pos p : Pos} {x : Str} {C f : Addr}
end
end L2

namespace HT
open PySem PySem.Spec PyProof.Rows PySem.W L2
section
variable {prog : Program} {w : World} {A : Around} {E : Value → Shared → Prop} {s : Shared}
end
end HT
namespace L2
open PySem PySem.Spec PyProof.Rows
section
variable {X : Cx}
end
noncomputable def stand (s : List V × V) : List V := (s.1 ++ [s.2]).filter (fun v => decide (v ≠ V.non))
end L2

namespace L2
open PySem PySem.Spec PyProof.Rows
noncomputable def turn (r : List Nat) : List Nat := r.take 1 ++ (r.drop 1).reverse
theorem Back.itN_sub {os bs : List Nat} {n i k : Nat} (h : Ord os n) (b : Back os bs n) (hi : i < n) (hk : itN os (k + 1) i = i) : ∀ m, m ≤ k + 1 → itN bs m i = itN os (k + 1 - m) i
  | 0, _ => hk.symm
  | m + 1, hm => by
    show bs.getD (itN bs m i) 0 = _
    rw [Back.itN_sub h b hi hk m (by omega), show k + 1 - m = (k - m) + 1 by omega, show k + 1 - (m + 1) = k - m by omega]
    exact b.nx h (itN_lt h _ hi)
theorem rgN_get {os : List Nat} {i k t : Nat} (h : t < k) : (rgN os i k)[t]? = some (itN os t i) := by
  unfold rgN
  rw [List.getElem?_map, List.getElem?_range h]; rfl
theorem turn_rgN {os bs : List Nat} {n i k : Nat} (h : Ord os n) (b : Back os bs n) (hi : i < n) (hk : itN os (k + 1) i = i) : rgN bs i (k + 1) = turn (rgN os i (k + 1)) := by
  have hl : (turn (rgN os i (k + 1))).length = k + 1 := by
    unfold turn
    rw [List.length_append, List.length_take, List.length_reverse, List.length_drop, rgN_len]; omega
  refine List.ext_getElem? fun t => ?_
  by_cases ht : t < k + 1
  · rw [rgN_get ht, b.itN_sub h hi hk t (by omega)]
    unfold turn
    rcases Nat.eq_zero_or_pos t with rfl | t0
    · rw [List.getElem?_append_left (by rw [List.length_take, rgN_len]; omega), List.getElem?_take_of_lt (by omega), rgN_get (by omega), Nat.sub_zero, hk]
      rfl
    · rw [List.getElem?_append_right (by rw [List.length_take, rgN_len]; omega), List.length_take, rgN_len, show min 1 (k + 1) = 1 by omega, List.getElem?_reverse (by rw [List.length_drop, rgN_len]; omega), List.length_drop, rgN_len, List.getElem?_drop, show 1 + (k + 1 - 1 - 1 - (t - 1)) = k + 1 - t by omega, rgN_get (by omega)]
  · rw [List.getElem?_eq_none (by rw [rgN_len]; omega), List.getElem?_eq_none (by omega)]
theorem turn_perm (r : List Nat) : (turn r).Perm r := by
  unfold turn
  refine ((List.Perm.refl _).append (List.reverse_perm _)).trans ?_
  rw [List.take_append_drop]
theorem Back.fix {os bs : List Nat} {n i : Nat} (h : Ord os n) (b : Back os bs n) (hi : i < n) (e : os.getD i 0 = i) : bs.getD i 0 = i := by
  have := b.nx h hi
  rw [e] at this; exact this
theorem Back.back {os bs : List Nat} {n : Nat} (h : Ord os n) (b : Back os bs n) : Back bs os n := by
  refine ⟨h.len, fun i r e => ?_⟩
  have hb := b.ord h
  have hi : i < n := by have := get_lt e; rw [b.len] at this; exact this
  obtain ⟨j, hj, a⟩ := h.sur i hi
  have e2 := b.at_ j i a
  rw [e] at e2
  cases e2
  exact a
theorem upTo_back {os bs : List Nat} {n : Nat} (h : Ord os n) (b : Back os bs n) : ∀ i, i ≤ n → (upTo bs i).1 = (upTo os i).1.map turn
  | 0, _ => rfl
  | i + 1, hi => by
    have ih := upTo_back h b i (by omega)
    have hb := b.ord h
    have hin : i < n := by omega
    by_cases ex : (∃ a, a < i ∧ Rb os a i) ∨ os.getD i 0 = i
    · have ex2 : (∃ a, a < i ∧ Rb bs a i) ∨ bs.getD i 0 = i := by
        rcases ex with ⟨a, ha, r⟩ | e
        · exact .inl ⟨a, ha, (b.rb h (by omega) r).symm hb hin⟩
        · exact .inr (b.fix h hin e)
      rw [upTo_skip h hin ex, upTo_skip hb hin ex2, ih]
    · have un : ∀ a, a < i → ¬ Rb os a i := fun a ha ra => ex (.inl ⟨a, ha, ra⟩)
      have h2 : os.getD i 0 ≠ i := fun z => ex (.inr z)
      obtain ⟨k, hk, hleast⟩ := least_period h hin
      have hn := rgN_nodup h hin (k + 1) hleast
      have un' : ∀ a, a < i → ¬ Rb bs a i := fun a ha ra => un a ha (((b.back h).rb hb (by omega) ra).symm h hin)
      have h2' : bs.getD i 0 ≠ i := fun z => h2 ((b.back h).fix hb hin z)
      have hk' : itN bs (k + 1) i = i := by rw [b.itN_sub h hin hk (k + 1) (by omega), Nat.sub_self]; rfl
      have hn' : (rgN bs i (k + 1)).Nodup := by rw [turn_rgN h b hin hk]; exact (turn_perm _).nodup_iff.mpr hn
      rw [upTo_take h hin un h2 hk hn, upTo_take hb hin un' h2' hk' hn', ih, List.map_append, turn_rgN h b hin hk]
      rfl
theorem rings_turn {os bs : List Nat} {n : Nat} (h : Ord os n) (b : Back os bs n) : ringsF bs = (ringsF os).map turn := by
  unfold ringsF
  rw [b.len, h.len]
  exact upTo_back h b n (Nat.le_refl _)
noncomputable def Pr (H : Hp) (v : V) : Option (List Nat × Nat) → Prop
  | none => v = .non
  | some x => ∃ t r, v = .ref t ∧ H t = some (.tup [.ref r, .int ((x.2 : Nat) : Int)]) ∧ H r = some (.tup (NV x.1)) ∧ x.1.length ≤ 3
noncomputable def PrE (H : Hp) (v u : V) : Prop := ∃ d, Pr H v d ∧ Pr H u d
section
variable {H H1 : Hp} {v y z : V} {d e : Option (List Nat × Nat)}
theorem Pr.tk (h : Pr H v d) (k : TupK H H1) : Pr H1 v d := by
  cases d with
  | none => exact h
  | some x => obtain ⟨t, r, a, b, c, g⟩ := h; exact ⟨t, r, a, k _ _ b, k _ _ c, g⟩
theorem Pr.uniq (h : Pr H v d) (g : Pr H v e) : d = e := by
  cases d with
  | none =>
    cases e with
    | none => rfl
    | some x => obtain ⟨t, r, a, _⟩ := g; rw [show v = .non from h] at a; cases a
  | some x =>
    obtain ⟨t, r, a, b, c, _⟩ := h
    cases e with
    | none => rw [show v = .non from g] at a; cases a
    | some x' =>
      obtain ⟨t', r', a', b', c', _⟩ := g
      rw [a] at a'; cases a'
      rw [b] at b'
      obtain ⟨xf, xp⟩ := x
      obtain ⟨yf, yp⟩ := x'
      have e1 := HO.tup.inj (Option.some.inj b')
      simp only [List.cons.injEq, V.ref.injEq, V.int.injEq, and_true] at e1
      obtain ⟨e2, e3⟩ := e1
      subst e2
      rw [c] at c'
      have e4 := NV_inj (HO.tup.inj (Option.some.inj c'))
      have e5 : xp = yp := Int.ofNat.inj e3
      show some (xf, xp) = some (yf, yp)
      rw [show xf = yf from e4, e5]
theorem Pr.nonX : ∃ d, Pr H .non d := ⟨none, rfl⟩
theorem Pr.copy (h : Pr H v d) (g : PrE H v y) : Pr H y d := by
  obtain ⟨x, a, b⟩ := g
  rw [h.uniq a]; exact b
theorem PrE.tk (h : PrE H v y) (k : TupK H H1) : PrE H1 v y := let ⟨d, a, b⟩ := h; ⟨d, a.tk k, b.tk k⟩
noncomputable def AlkP (H : Hp) (vs us : List V) : Prop := vs.length = us.length ∧ ∀ (i : Nat) v u, vs[i]? = some v → us[i]? = some u → PrE H v u
variable {vs us rs : List V}
theorem AlkP.tk (h : AlkP H vs us) (k : TupK H H1) : AlkP H1 vs us := ⟨h.1, fun i v u a b => (h.2 i v u a b).tk k⟩
theorem AlkP.snoc (h : AlkP H vs us) {u : V} (e : PrE H v u) : AlkP H (vs ++ [v]) (us ++ [u]) := by
  refine ⟨by simp [h.1], fun i w x a b => ?_⟩
  rcases snoc_get a with ⟨l, a⟩ | ⟨l, a⟩
  · rcases snoc_get b with ⟨_, b⟩ | ⟨l', b⟩
    · exact h.2 i w x a b
    · have := h.1; omega
  · rcases snoc_get b with ⟨l', b⟩ | ⟨_, b⟩
    · have := h.1; omega
    · rw [a, b]; exact e
noncomputable def PrX (H : Hp) (vs : List V) : Prop := ∀ v ∈ vs, ∃ d, Pr H v d
theorem PrX.tk (h : PrX H vs) (k : TupK H H1) : PrX H1 vs := fun v hv => let ⟨d, g⟩ := h v hv; ⟨d, g.tk k⟩
theorem PrX.getD (h : PrX H vs) (i : Nat) : ∃ d, Pr H (vs.getD i .non) d := by
  rw [List.getD_eq_getElem?_getD]
  cases e : vs[i]? with
  | none => exact Pr.nonX
  | some v => exact h v (List.mem_of_getElem? e)
theorem PrX.set (h : PrX H vs) (i : Nat) (hv : ∃ d, Pr H v d) : PrX H (vs.set i v) := fun w hw => by
  rcases List.mem_or_eq_of_mem_set hw with g | g
  · exact h w g
  · rw [g]; exact hv
end
structure RwP (C : Addr) (H : Hp) (w ta pa : Addr) (ps : List Addr) (us : List V) (hv : V) (ms : List RMv) (d : Nat) : Prop where
  ob : ∃ dx, H w = some (.ins C dx (rwF ta hv pa (d : Nat)))
  tt : H ta = some (.lst us)
  tp : H pa = some (.lst (ps.map V.ref))
  mv : MvsAt H ps ms
  n1 : ta ≠ pa
  th : PrX H us
  hh : ∃ d, Pr H hv d
section
variable {C : Addr} {H H1 : Hp} {w ta pa : Addr} {ps : List Addr} {us : List V} {hv : V} {ms : List RMv} {d : Nat}
theorem RwP.wt (h : RwP C H w ta pa ps us hv ms d) : w ≠ ta := by
  obtain ⟨dx, e⟩ := h.ob
  exact ne_of e h.tt (by intro z; cases z)
theorem RwP.wp (h : RwP C H w ta pa ps us hv ms d) : w ≠ pa := by
  obtain ⟨dx, e⟩ := h.ob
  exact ne_of e h.tp (by intro z; cases z)
theorem RwP.tkp (h : RwP C H w ta pa ps us hv ms d) (k : KpR w ta H H1) : TupK H H1 := fun b xs e => by
  obtain ⟨dx, e2⟩ := h.ob
  exact k _ _ e (ne_of e e2 (by intro z; cases z)) (ne_of e h.tt (by intro z; cases z))
theorem RwP.setT (h : RwP C H w ta pa ps us hv ms d) {vs : List V} (hv' : PrX H vs) : RwP C (upd H ta (.lst vs)) w ta pa ps vs hv ms d := by
  obtain ⟨dx, e⟩ := h.ob
  obtain ⟨x, g⟩ := h.hh
  have k : TupK H (upd H ta (.lst vs)) := TupK.upd h.tt (fun xs z => by cases z)
  exact ⟨⟨dx, by rw [upd_ne h.wt]; exact e⟩, upd_same, by rw [upd_ne (Ne.symm h.n1)]; exact h.tp, h.mv.tk k, h.n1, hv'.tk k, x, g.tk k⟩
theorem RwP.setW (h : RwP C H w ta pa ps us hv ms d) {dx : Addr} {v : V} {n : Nat} (hv' : ∃ x, Pr H v x) : RwP C (upd H w (.ins C dx (rwF ta v pa (n : Nat)))) w ta pa ps us v ms n := by
  obtain ⟨dx', e⟩ := h.ob
  obtain ⟨x, g⟩ := hv'
  have k : TupK H (upd H w (.ins C dx (rwF ta v pa (n : Nat)))) := TupK.upd e (fun xs z => by cases z)
  exact ⟨⟨dx, upd_same⟩, by rw [upd_ne (Ne.symm h.wt)]; exact h.tt, by rw [upd_ne (Ne.symm h.wp)]; exact h.tp, h.mv.tk k, h.n1, h.th.tk k, x, g.tk k⟩
end
noncomputable def PrAt (H : Hp) (vs : List V) (ds : List (List Nat × Nat)) : Prop := vs.length = ds.length ∧ ∀ (i : Nat) v d, vs[i]? = some v → ds[i]? = some d → Pr H v (some d)
section
variable {H H1 : Hp} {vs us : List V} {ds : List (List Nat × Nat)} {v : V} {d : List Nat × Nat}
theorem PrAt.tk (h : PrAt H vs ds) (k : TupK H H1) : PrAt H1 vs ds := ⟨h.1, fun i v d a b => (h.2 i v d a b).tk k⟩
theorem PrAt.nil : PrAt H [] [] := ⟨rfl, fun i v d a => by simp at a⟩
theorem PrAt.snoc (h : PrAt H vs ds) (hv : Pr H v (some d)) : PrAt H (vs ++ [v]) (ds ++ [d]) := by
  refine ⟨by simp [h.1], fun i w e a b => ?_⟩
  rcases snoc_get a with ⟨l, a⟩ | ⟨l, a⟩
  · rcases snoc_get b with ⟨_, b⟩ | ⟨l', b⟩
    · exact h.2 i w e a b
    · have := h.1; omega
  · rcases snoc_get b with ⟨l', b⟩ | ⟨_, b⟩
    · have := h.1; omega
    · rw [a, b]; exact hv
theorem PrAt.mem (h : PrAt H vs ds) : ∀ z ∈ vs, ∃ d, Pr H z (some d) := fun z hz => by
  obtain ⟨i, hi, rfl⟩ := List.getElem_of_mem hz
  have h2 : i < ds.length := by rw [← h.1]; exact hi
  exact ⟨_, h.2 i _ _ (List.getElem?_eq_getElem hi) (List.getElem?_eq_getElem h2)⟩
theorem PrAt.copy (h : PrAt H vs ds) (a : AlkP H vs us) : PrAt H us ds := by
  refine ⟨by rw [← a.1]; exact h.1, fun i u d e1 e2 => ?_⟩
  have hi : i < vs.length := by rw [a.1]; exact get_lt e1
  have e3 : vs[i]? = some vs[i] := List.getElem?_eq_getElem hi
  exact (h.2 i _ d e3 e2).copy (a.2 i _ u e3 e1)
theorem PrAt.at (h : PrAt H vs ds) {i : Nat} (hi : i < vs.length) : ∃ z, vs[i]? = some z ∧ Pr H z (some (ds.getD i ([], 0))) := by
  have h2 : i < ds.length := by rw [← h.1]; exact hi
  refine ⟨vs[i], List.getElem?_eq_getElem hi, ?_⟩
  rw [List.getD_eq_getElem?_getD, List.getElem?_eq_getElem h2]
  exact h.2 i _ _ (List.getElem?_eq_getElem hi) (List.getElem?_eq_getElem h2)
theorem PrAt.put (h : PrAt H vs ds) {os : List Nat} (hl : ∀ o ∈ os, o < vs.length) : PrAt H (os.map fun p => vs.getD p .non) (os.map fun o => ds.getD o ([], 0)) := by
  refine ⟨by simp, fun i v d a b => ?_⟩
  rw [List.getElem?_map] at a b
  cases e : os[i]? with
  | none => rw [e] at a; cases a
  | some o =>
    rw [e] at a b
    cases a; cases b
    obtain ⟨z, e1, e2⟩ := h.at (hl o (List.mem_of_getElem? e))
    show Pr H (vs.getD o .non) (some (ds.getD o ([], 0)))
    rw [show vs.getD o .non = z by rw [List.getD_eq_getElem?_getD, e1]; rfl]
    exact e2
theorem Pr.ne (h : Pr H v (some d)) : v ≠ .non := fun e => by
  obtain ⟨t, r, a, _⟩ := h
  rw [e] at a; cases a
end
end L2

namespace L2
open PySem PySem.Spec PyProof.Rows
noncomputable def tRev0 (K : PySem.W.Frag) (te : TE) : TE := fun σ H Q => te σ H fun x H1 => ∃ a xs, x = .ref a ∧ SqL K H1 a xs ∧ 0 < xs.length ∧ ∀ p, H1 p = none → Q (.ref p) (upd H1 p (.lst (xs.drop 1).reverse))
theorem rv0_range (n : Nat) : sliceRange (n : Int) 0 (-1) = ((List.range n).map (1 + ·)).reverse := by
  unfold sliceRange
  have h1 : ¬ ((-1 : Int) > 0) := by decide
  have e2 : ((List.range n).map (1 + ·)).reverse = (List.range n).map fun k => 1 + (n - 1 - k) := by
    rw [← List.map_reverse, ← PySem.W.krv_range, List.map_map]; rfl
  rw [e2]
  by_cases h : (n : Int) > 0
  · have e : ((n : Int) - 0 - -1 - 1) / (- -1) = (n : Int) := by
      rw [show (- -1 : Int) = 1 by decide, Int.ediv_one]
      omega
    simp only [h1, if_false, h, if_true, e, Int.toNat_natCast]
    apply List.map_congr_left
    intro k hk
    have := List.mem_range.mp hk
    omega
  · have : n = 0 := by omega
    subst this
    rfl
theorem pick_rev0 (items : Array Value) (h : 0 < items.size) : slicePick items none (some 0) (some (-1)) = (items.toList.drop 1).reverse.toArray := by
  have hb : sliceBounds none (some 0) (some (-1)) items.size = (((items.size - 1 : Nat) : Int), 0, -1) := by
    simp only [sliceBounds, Option.getD_some]
    refine Prod.ext ?_ (Prod.ext ?_ rfl)
    · show (if (-1 : Int) > 0 then (0 : Int) else (items.size : Int) - 1) = _
      rw [if_neg (by decide)]
      show (items.size : Int) - 1 = ((items.size - 1 : Nat) : Int)
      omega
    · show (if (-1 : Int) > 0 then max 0 (min (if (0 : Int) < 0 then 0 + (items.size : Int) else 0) (items.size : Int)) else max (-1) (min (if (0 : Int) < 0 then 0 + (items.size : Int) else 0) ((items.size : Int) - 1))) = 0
      rw [if_neg (by decide), if_neg (by decide)]
      omega
  unfold slicePick
  rw [hb]
  show ((sliceRange ((items.size - 1 : Nat) : Int) 0 (-1)).filterMap (items[·]?)).toArray = _
  rw [rv0_range, List.filterMap_reverse]
  have hp := pick_run items 1 (items.size - 1)
  rw [hp, List.take_of_length_le (by rw [List.length_drop, Array.length_toList]; omega)]
section
variable {X : Cx} {e : Expr} {te : TE} {pos p1 p2 p3 p4 p5 : Pos} {j j' : Nat}
theorem qe_rev0 {K : PySem.W.Frag} (he : QE X e te) (hK : X.K = K := by rfl) : QE X (.Subscript e (.Slice none (some (.Constant (.int 0) j' p4)) (some (.UnaryOp .USub (.Constant (.int 1) j p1) p2)) p3) pos) (tRev0 K te) := by
  subst hK
  refine ⟨fun pins s σ H Q I h => ?_⟩
  refine Subscript_ (thn (he.out pins s σ H _ I h) fun v s1 ⟨x, H1, I1, r1, q1⟩ => ?_)
  obtain ⟨a, xs, rfl, hx, h0, q⟩ := q1
  cases r1
  refine wpAny_Slice (evalPart_none_step (evalPart_some_step ?_))
  refine thn (pe_int (X := X) pins s1 σ H1 (fun x H' => x = .int 0 ∧ H' = H1) I1 ⟨rfl, rfl⟩) fun vk s2 ⟨y, H2, I2, r2, e2, e3⟩ => ?_
  subst e2 e3
  obtain ⟨t, rfl⟩ := r2
  refine evalPart_some_step ?_
  refine thn (pe_un (X := X) un_neg pe_int pins s2 σ H2 (fun x H' => x = .int (-1) ∧ H' = H2) I2 ⟨1, rfl, rfl, rfl⟩) fun vk s3 ⟨y, H3, I3, r3, e2, e3⟩ => ?_
  subst e2 e3
  obtain ⟨u, rfl⟩ := r3
  have I4 : Inv X pins σ H3 { s3 with heap := s3.heap.push { cls := .type "slice", data := .fields #[.none, .int 0 t, .int (-1) u] } } := I3.kept (t' := s3.toks) fun b ob q => Heap.get?_push_of_some _ q
  obtain ⟨its, r, ht, hz⟩ := I4.list hx
  have hlen := r.length
  show wpAny (model X.prog X.w) X.A (subscriptTail e (.Slice none (some (.Constant (.int 0) j' p4)) (some (.UnaryOp .USub (.Constant (.int 1) j p1) p2)) p3) (.ref a) (.ref s3.heap.objs.size)) (EP X pins σ Q) X.xe { s3 with heap := s3.heap.push { cls := .type "slice", data := .fields #[.none, .int 0 t, .int (-1) u] } }
  refine tail_any (ops := [.ref a, .ref s3.heap.objs.size]) ht.isList.typeIs slot_list_getitem.lookup ?_ (by with_unfolding_all rfl)
  refine wpAny_getItem_list_slice ht.isList (Heap.IsSliceOf.new ..) .none (.int 0 t) (.int (-1) u) (by decide) ?_ (by rw [List.size_toArray]; omega)
  rw [pick_rev0 _ (by rw [List.size_toArray]; omega)]
  refine ⟨.ref _, _, I4.laid (t' := s3.toks) (o := .lst (xs.drop 1).reverse) (fun b ob q => Heap.get?_push_of_some _ q) (Nat.le_refl _) ?_, rfl, q _ (I4.hok.fresh (Nat.le_refl _))⟩
  exact ⟨by rw [List.length_reverse, List.length_drop]; omega, (its.drop 1).reverse, 0, (r.drop 1).reverse, Heap.get?_push_size _ rfl⟩
end
theorem in_rev0 {K : PySem.W.Frag} {σ : St} {H : Hp} {Q : VK} {te : TE} (h : te σ H fun x H1 => ∃ a xs, x = .ref a ∧ SqL K H1 a xs ∧ 0 < xs.length ∧ ∀ p, H1 p = none → Q (.ref p) (upd H1 p (.lst (xs.drop 1).reverse))) : tRev0 K te σ H Q := h
end L2

set_option maxHeartbeats 0
namespace Fs
open PySem PySem.Spec PyProof.Rows L2
local macro_rules
  | `(tactic| walk_at "fs_rd") => do
    let q ← ("in_seq in_xseq in_xof in_xif in_xdrop in_xret in_xcall in_xraise in_try in_fstr in_asg in_gsub in_ret in_drop in_next in_if in_tif in_test in_B in_not in_or in_and in_andV in_orV in_notV in_C in_op in_un in_I0 in_pow18 in_pow6 in_pow15 in_pow53 in_abs in_intB in_min in_max in_isiII in_isiIB in_U in_eqI in_neI in_for in_rng1 in_ilist in_itup in_cb in_cons in_nil in_call in_lst in_tup in_bl in_itrue in_nt in_nf in_comp in_par2 in_rev in_compF in_bm0 in_augS in_rev2 in_rev0 in_isiIS in_isiBB in_isiSB in_isiSS in_eqB in_neB in_isNo in_notNo in_lrng2 in_lrng1 in_eqS in_tru in_chain in_sl in_part in_nopart in_enumL in_enumT in_sortDn in_fld in_sfld in_sfldaug in_meth in_make in_zip in_zipT in_rngD in_gslA in_rngS in_rngO in_par3 in_rng2 in_cont in_bm in_ifalse".splitOn " ").foldrM (fun n (a : Lean.TSyntax `tactic) => `(tactic| first | (with_reducible refine $(Lean.mkIdent (Lean.Name.mkSimple n)) ?_) | $a:tactic)) (← `(tactic| fail))
    `(tactic| (repeat (first | $q:tactic | (with_reducible refine in_xset ?_; dsimp only [List.set]) | (with_reducible refine in_gname ?_; dsimp only [List.set]) | ((with_reducible show tVar _ _ _ _); refine ⟨_, rfl, ?_⟩) | (with_reducible refine in_I ?c ?_; (case c => first | (show (0 : Int) < _; omega) | exact cdivL (by omega) (by omega) | exact cdiv (by omega) (by omega) | exact cdivP (by omega) (by omega) (by omega) | exact cmulL (by omega) (by omega) | exact cmulR (by omega) (by omega) | exact cpow (by decide) (by decide) (by decide))) | (with_reducible refine in_ix' (by first | assumption | exact upd_same) ?_; refine ⟨_, rfl, ?_⟩) | (with_reducible refine in_ixT' (by first | assumption | exact upd_same) ?_; refine ⟨_, rfl, ?_⟩) | (with_reducible refine in_set' (by first | assumption | exact upd_same) ?_; refine ⟨_, rfl, ?_⟩; dsimp only [Int.reduceToNat, List.set]) | (with_reducible refine in_pair ?_; dsimp only [List.set]) | ((with_reducible show tAug _ _ _ _ _ _); refine ⟨_, rfl, ?_⟩))))
def top (i : Nat) : Stmt := PySem.Challenge.pw_figuresort_k61_whole_there_and_back.main.body.getD i (.Pass ⟨0, 0, 0, 0⟩)
noncomputable abbrev s__wall : Stmt := top 0
noncomputable abbrev s_is_order : Stmt := top 5
noncomputable abbrev s_check_order : Stmt := top 6
noncomputable abbrev s_own_copy : Stmt := top 7
noncomputable abbrev s_put : Stmt := top 8
noncomputable abbrev s_back_of : Stmt := top 9
noncomputable abbrev s_after : Stmt := top 10
noncomputable abbrev s_rings : Stmt := top 11
noncomputable abbrev s_told_order : Stmt := top 12
noncomputable abbrev s_moves_of_ring : Stmt := top 14
noncomputable abbrev s_ring_moves : Stmt := top 15
noncomputable abbrev s_RingWalk___init__ : Stmt := inClass (top 16) 0
noncomputable abbrev s_RingWalk_step : Stmt := inClass (top 16) 1
noncomputable abbrev s_RingWalk_row : Stmt := inClass (top 16) 2
noncomputable abbrev s_RingWalk_hand : Stmt := inClass (top 16) 3
noncomputable abbrev s_RingWalk_left : Stmt := inClass (top 16) 4
noncomputable abbrev s_tape : Stmt := top 18
noncomputable abbrev s_draw : Stmt := top 19
noncomputable abbrev s_many : Stmt := top 20
noncomputable abbrev s_base : Stmt := top 21
noncomputable abbrev s_rows : Stmt := top 22
noncomputable abbrev s_same : Stmt := top 23
noncomputable abbrev s_some_order : Stmt := top 24
noncomputable abbrev s_walked : Stmt := top 25
noncomputable abbrev s_turned : Stmt := top 26
noncomputable abbrev s_law : Stmt := top 27
set_option genSizeOfSpec false in
set_option genInjectivity false in
structure Ad where
  f__wall : Addr
  d__wall : FuncData
  f_is_order : Addr
  d_is_order : FuncData
  f_check_order : Addr
  d_check_order : FuncData
  f_own_copy : Addr
  d_own_copy : FuncData
  f_put : Addr
  d_put : FuncData
  f_back_of : Addr
  d_back_of : FuncData
  f_after : Addr
  d_after : FuncData
  f_rings : Addr
  d_rings : FuncData
  f_told_order : Addr
  d_told_order : FuncData
  f_moves_of_ring : Addr
  d_moves_of_ring : FuncData
  f_ring_moves : Addr
  d_ring_moves : FuncData
  f_RingWalk___init__ : Addr
  d_RingWalk___init__ : FuncData
  f_RingWalk_step : Addr
  d_RingWalk_step : FuncData
  f_RingWalk_row : Addr
  d_RingWalk_row : FuncData
  f_RingWalk_hand : Addr
  d_RingWalk_hand : FuncData
  f_RingWalk_left : Addr
  d_RingWalk_left : FuncData
  f_tape : Addr
  d_tape : FuncData
  f_draw : Addr
  d_draw : FuncData
  f_many : Addr
  d_many : FuncData
  f_base : Addr
  d_base : FuncData
  f_rows : Addr
  d_rows : FuncData
  f_same : Addr
  d_same : FuncData
  f_some_order : Addr
  d_some_order : FuncData
  f_walked : Addr
  d_walked : FuncData
  f_turned : Addr
  d_turned : FuncData
  f_law : Addr
  d_law : FuncData
  cc : Addr
  pt : Addr
  bs : Heap
  c_RingWalk : Addr
structure Tx (K : PySem.W.Frag) (mg : Str → Option Value) (t : Ad) : Prop where
  m__wall : mg "_wall" = some (.ref t.f__wall)
  F__wall : Fun K "_wall" "_wall" s__wall t.f__wall t.d__wall
  b__wall : Binds K t.d__wall ["k"] []
  m_is_order : mg "is_order" = some (.ref t.f_is_order)
  F_is_order : Fun K "is_order" "is_order" s_is_order t.f_is_order t.d_is_order
  b_is_order : Binds K t.d_is_order ["thing"] []
  m_check_order : mg "check_order" = some (.ref t.f_check_order)
  F_check_order : Fun K "check_order" "check_order" s_check_order t.f_check_order t.d_check_order
  b_check_order : Binds K t.d_check_order ["thing", "many"] []
  m_own_copy : mg "own_copy" = some (.ref t.f_own_copy)
  F_own_copy : Fun K "own_copy" "own_copy" s_own_copy t.f_own_copy t.d_own_copy
  b_own_copy : Binds K t.d_own_copy ["thing"] []
  m_put : mg "put" = some (.ref t.f_put)
  F_put : Fun K "put" "put" s_put t.f_put t.d_put
  b_put : Binds K t.d_put ["things", "order"] []
  m_back_of : mg "back_of" = some (.ref t.f_back_of)
  F_back_of : Fun K "back_of" "back_of" s_back_of t.f_back_of t.d_back_of
  b_back_of : Binds K t.d_back_of ["order"] []
  m_after : mg "after" = some (.ref t.f_after)
  F_after : Fun K "after" "after" s_after t.f_after t.d_after
  b_after : Binds K t.d_after ["one", "other"] []
  m_rings : mg "rings" = some (.ref t.f_rings)
  F_rings : Fun K "rings" "rings" s_rings t.f_rings t.d_rings
  b_rings : Binds K t.d_rings ["order"] []
  m_told_order : mg "told_order" = some (.ref t.f_told_order)
  F_told_order : Fun K "told_order" "told_order" s_told_order t.f_told_order t.d_told_order
  b_told_order : Binds K t.d_told_order ["rows"] []
  m_moves_of_ring : mg "moves_of_ring" = some (.ref t.f_moves_of_ring)
  F_moves_of_ring : Fun K "moves_of_ring" "moves_of_ring" s_moves_of_ring t.f_moves_of_ring t.d_moves_of_ring
  b_moves_of_ring : Binds K t.d_moves_of_ring ["ring"] []
  m_ring_moves : mg "ring_moves" = some (.ref t.f_ring_moves)
  F_ring_moves : Fun K "ring_moves" "ring_moves" s_ring_moves t.f_ring_moves t.d_ring_moves
  b_ring_moves : Binds K t.d_ring_moves ["order"] []
  M_RingWalk___init__ : Mk K t.c_RingWalk t.f_RingWalk___init__
  F_RingWalk___init__ : Fun K "__init__" "RingWalk.__init__" s_RingWalk___init__ t.f_RingWalk___init__ t.d_RingWalk___init__
  b_RingWalk___init__ : Binds K t.d_RingWalk___init__ ["self", "things", "order"] []
  M_RingWalk_step : Meth K t.c_RingWalk "step" t.f_RingWalk_step
  F_RingWalk_step : Fun K "step" "RingWalk.step" s_RingWalk_step t.f_RingWalk_step t.d_RingWalk_step
  b_RingWalk_step : Binds K t.d_RingWalk_step ["self"] []
  M_RingWalk_row : Meth K t.c_RingWalk "row" t.f_RingWalk_row
  F_RingWalk_row : Fun K "row" "RingWalk.row" s_RingWalk_row t.f_RingWalk_row t.d_RingWalk_row
  b_RingWalk_row : Binds K t.d_RingWalk_row ["self"] []
  M_RingWalk_hand : Meth K t.c_RingWalk "hand" t.f_RingWalk_hand
  F_RingWalk_hand : Fun K "hand" "RingWalk.hand" s_RingWalk_hand t.f_RingWalk_hand t.d_RingWalk_hand
  b_RingWalk_hand : Binds K t.d_RingWalk_hand ["self"] []
  M_RingWalk_left : Meth K t.c_RingWalk "left" t.f_RingWalk_left
  F_RingWalk_left : Fun K "left" "RingWalk.left" s_RingWalk_left t.f_RingWalk_left t.d_RingWalk_left
  b_RingWalk_left : Binds K t.d_RingWalk_left ["self"] []
  m_tape : mg "_law_tape" = some (.ref t.f_tape)
  F_tape : Fun K "_law_tape" "_law_tape" s_tape t.f_tape t.d_tape
  b_tape : Binds K t.d_tape ["_law_script", "_law_k"] []
  m_draw : mg "_law_draw" = some (.ref t.f_draw)
  F_draw : Fun K "_law_draw" "_law_draw" s_draw t.f_draw t.d_draw
  b_draw : Binds K t.d_draw ["_law_tape_here", "_law_many_here"] []
  m_many : mg "_law_many" = some (.ref t.f_many)
  F_many : Fun K "_law_many" "_law_many" s_many t.f_many t.d_many
  b_many : Binds K t.d_many ["_law_tape_here", "_law_k"] []
  m_base : mg "_law_base" = some (.ref t.f_base)
  F_base : Fun K "_law_base" "_law_base" s_base t.f_base t.d_base
  b_base : Binds K t.d_base ["_law_tape_here"] []
  m_rows : mg "_law_rows" = some (.ref t.f_rows)
  F_rows : Fun K "_law_rows" "_law_rows" s_rows t.f_rows t.d_rows
  b_rows : Binds K t.d_rows ["_law_tape_here", "_law_many_here", "_law_base_here", "_law_wide"] []
  m_same : mg "_law_same" = some (.ref t.f_same)
  F_same : Fun K "_law_same" "_law_same" s_same t.f_same t.d_same
  b_same : Binds K t.d_same ["_law_found", "_law_due"] []
  m_some_order : mg "_law_some_order" = some (.ref t.f_some_order)
  F_some_order : Fun K "_law_some_order" "_law_some_order" s_some_order t.f_some_order t.d_some_order
  b_some_order : Binds K t.d_some_order ["_law_tape_here", "_law_many_here"] []
  m_walked : mg "_law_walked" = some (.ref t.f_walked)
  F_walked : Fun K "_law_walked" "_law_walked" s_walked t.f_walked t.d_walked
  b_walked : Binds K t.d_walked ["_law_things", "_law_order"] []
  m_turned : mg "_law_turned" = some (.ref t.f_turned)
  F_turned : Fun K "_law_turned" "_law_turned" s_turned t.f_turned t.d_turned
  b_turned : Binds K t.d_turned ["_law_ring"] []
  m_law : mg "law" = some (.ref t.f_law)
  F_law : Fun K "law" "law" s_law t.f_law t.d_law
  b_law : Binds K t.d_law ["_law_script"] []
  z_abs : mg "abs" = none
  z_all : mg "all" = none
  z_bool : mg "bool" = none
  z_enumerate : mg "enumerate" = none
  z_int : mg "int" = none
  z_isinstance : mg "isinstance" = none
  z_len : mg "len" = none
  z_list : mg "list" = none
  z_min : mg "min" = none
  z_range : mg "range" = none
  z_sorted : mg "sorted" = none
  z_str : mg "str" = none
  z_sum : mg "sum" = none
  z_tuple : mg "tuple" = none
  z_zip : mg "zip" = none
  c_cc : t.d_told_order.code = .ref t.cc
  c_hd : PySem.W.codeHdIn K t.cc t.pt = true
  c_ba : t.bs.BuiltinsAt mg t.pt
  mc_RingWalk : mg "RingWalk" = some (.ref t.c_RingWalk)
  cl_RingWalk : Cls K t.c_RingWalk
  n_RingWalk_things : NoAttr K t.c_RingWalk "things"
  n_RingWalk_held : NoAttr K t.c_RingWalk "held"
  n_RingWalk_plan : NoAttr K t.c_RingWalk "plan"
  n_RingWalk_done : NoAttr K t.c_RingWalk "done"
theorem bt_abs : bootBuiltins "abs" = some (.builtin "abs") := by decide +kernel
theorem bt_all : bootBuiltins "all" = some (.builtin "all") := by decide +kernel
theorem bt_bool : bootBuiltins "bool" = some (.type "bool") := by decide +kernel
theorem bt_enumerate : bootBuiltins "enumerate" = some (.type "enumerate") := by decide +kernel
theorem bt_int : bootBuiltins "int" = some (.type "int") := by decide +kernel
theorem bt_isinstance : bootBuiltins "isinstance" = some (.builtin "isinstance") := by decide +kernel
theorem bt_len : bootBuiltins "len" = some (.builtin "len") := by decide +kernel
theorem bt_list : bootBuiltins "list" = some (.type "list") := by decide +kernel
theorem bt_min : bootBuiltins "min" = some (.builtin "min") := by decide +kernel
theorem bt_range : bootBuiltins "range" = some (.type "range") := by decide +kernel
theorem bt_sorted : bootBuiltins "sorted" = some (.builtin "sorted") := by decide +kernel
theorem bt_str : bootBuiltins "str" = some (.type "str") := by decide +kernel
theorem bt_sum : bootBuiltins "sum" = some (.builtin "sum") := by decide +kernel
theorem bt_tuple : bootBuiltins "tuple" = some (.type "tuple") := by decide +kernel
theorem bt_zip : bootBuiltins "zip" = some (.type "zip") := by decide +kernel
theorem sc__wall : FnScope ["k"] ["k"] (defScope s__wall) := ⟨rfl, rfl, rfl, by decide +kernel, rfl, by decide +kernel, by decide +kernel⟩
theorem sc_is_order : FnScope ["thing", "met", "place"] ["thing"] (defScope s_is_order) := ⟨rfl, rfl, rfl, by decide +kernel, rfl, by decide +kernel, by decide +kernel⟩
theorem sc_check_order : FnScope ["thing", "many"] ["thing", "many"] (defScope s_check_order) := ⟨rfl, rfl, rfl, by decide +kernel, rfl, by decide +kernel, by decide +kernel⟩
theorem sc_own_copy : FnScope ["thing", "parts", "firsts", "part", "at"] ["thing"] (defScope s_own_copy) := ⟨rfl, rfl, rfl, by decide +kernel, rfl, by decide +kernel, by decide +kernel⟩
theorem sc_put : FnScope ["things", "order"] ["things", "order"] (defScope s_put) := ⟨rfl, rfl, rfl, by decide +kernel, rfl, by decide +kernel, by decide +kernel⟩
theorem sc_back_of : FnScope ["order", "back", "at", "place"] ["order"] (defScope s_back_of) := ⟨rfl, rfl, rfl, by decide +kernel, rfl, by decide +kernel, by decide +kernel⟩
theorem sc_after : FnScope ["one", "other"] ["one", "other"] (defScope s_after) := ⟨rfl, rfl, rfl, by decide +kernel, rfl, by decide +kernel, by decide +kernel⟩
theorem sc_rings : FnScope ["order", "met", "told", "first", "ring", "place"] ["order"] (defScope s_rings) := ⟨rfl, rfl, rfl, by decide +kernel, rfl, by decide +kernel, by decide +kernel⟩
theorem sc_told_order : FnScope ["rows"] ["rows"] (defScope s_told_order) := ⟨rfl, rfl, rfl, by decide +kernel, rfl, by decide +kernel, by decide +kernel⟩
theorem sc_moves_of_ring : FnScope ["ring", "told", "at"] ["ring"] (defScope s_moves_of_ring) := ⟨rfl, rfl, rfl, by decide +kernel, rfl, by decide +kernel, by decide +kernel⟩
theorem sc_ring_moves : FnScope ["order"] ["order"] (defScope s_ring_moves) := ⟨rfl, rfl, rfl, by decide +kernel, rfl, by decide +kernel, by decide +kernel⟩
theorem sc_RingWalk___init__ : FnScope ["self", "things", "order"] ["self", "things", "order"] (defScope s_RingWalk___init__) := ⟨rfl, rfl, rfl, by decide +kernel, rfl, by decide +kernel, by decide +kernel⟩
theorem sc_RingWalk_step : FnScope ["self", "move"] ["self"] (defScope s_RingWalk_step) := ⟨rfl, rfl, rfl, by decide +kernel, rfl, by decide +kernel, by decide +kernel⟩
theorem sc_RingWalk_row : FnScope ["self"] ["self"] (defScope s_RingWalk_row) := ⟨rfl, rfl, rfl, by decide +kernel, rfl, by decide +kernel, by decide +kernel⟩
theorem sc_RingWalk_hand : FnScope ["self"] ["self"] (defScope s_RingWalk_hand) := ⟨rfl, rfl, rfl, by decide +kernel, rfl, by decide +kernel, by decide +kernel⟩
theorem sc_RingWalk_left : FnScope ["self"] ["self"] (defScope s_RingWalk_left) := ⟨rfl, rfl, rfl, by decide +kernel, rfl, by decide +kernel, by decide +kernel⟩
theorem sc_tape : FnScope ["_law_script", "_law_k", "_law_cell", "_law_digits"] ["_law_script", "_law_k"] (defScope s_tape) := ⟨rfl, rfl, rfl, by decide +kernel, rfl, by decide +kernel, by decide +kernel⟩
theorem sc_draw : FnScope ["_law_tape_here", "_law_many_here", "_law_found", "_law_once"] ["_law_tape_here", "_law_many_here"] (defScope s_draw) := ⟨rfl, rfl, rfl, by decide +kernel, rfl, by decide +kernel, by decide +kernel⟩
theorem sc_many : FnScope ["_law_tape_here", "_law_k", "_law_more"] ["_law_tape_here", "_law_k"] (defScope s_many) := ⟨rfl, rfl, rfl, by decide +kernel, rfl, by decide +kernel, by decide +kernel⟩
theorem sc_base : FnScope ["_law_tape_here"] ["_law_tape_here"] (defScope s_base) := ⟨rfl, rfl, rfl, by decide +kernel, rfl, by decide +kernel, by decide +kernel⟩
theorem sc_rows : FnScope ["_law_tape_here", "_law_many_here", "_law_base_here", "_law_wide", "_law_rows_here", "_law_turn", "_law_row", "_law_at"] ["_law_tape_here", "_law_many_here", "_law_base_here", "_law_wide"] (defScope s_rows) := ⟨rfl, rfl, rfl, by decide +kernel, rfl, by decide +kernel, by decide +kernel⟩
theorem sc_same : FnScope ["_law_found", "_law_due"] ["_law_found", "_law_due"] (defScope s_same) := ⟨rfl, rfl, rfl, by decide +kernel, rfl, by decide +kernel, by decide +kernel⟩
theorem sc_some_order : FnScope ["_law_tape_here", "_law_many_here", "_law_left", "_law_way", "_law_a", "_law_b", "_law_found"] ["_law_tape_here", "_law_many_here"] (defScope s_some_order) := ⟨rfl, rfl, rfl, by decide +kernel, rfl, by decide +kernel, by decide +kernel⟩
theorem sc_walked : FnScope ["_law_things", "_law_order", "_law_told", "_law_many_here"] ["_law_things", "_law_order"] (defScope s_walked) := ⟨rfl, rfl, rfl, by decide +kernel, rfl, by decide +kernel, by decide +kernel⟩
theorem sc_turned : FnScope ["_law_ring"] ["_law_ring"] (defScope s_turned) := ⟨rfl, rfl, rfl, by decide +kernel, rfl, by decide +kernel, by decide +kernel⟩
theorem sc_law : FnScope ["_law_script", "_law_k", "_law_tape_here", "_law_many_here", "_law_rows_here", "_law_things", "_law_order", "_law_drawn", "_law_there", "_law_mixed", "_law_again", "_law_way", "_law_put_so", "_law_moves"] ["_law_script"] (defScope s_law) := ⟨rfl, rfl, rfl, by decide +kernel, rfl, by decide +kernel, by decide +kernel⟩
section
variable {P : Program} {w : World} {K : PySem.W.Frag} {mg : Str → Option Value} {base : Heap} {t : Ad}
theorem take_one {α : Type} {rss : List α} {i : Nat} (h : i < rss.length) : rss.take (i + 1) = rss.take i ++ [rss[i]] := by rw [List.take_add_one]; simp [h]
theorem NV_castL (r : List Nat) : NV r = (castL r).map V.int := NV_int r
theorem ok_draw (T : Tx K mg t) : FnOk P w K mg t.bs CX0 1 t.f_draw t.d_draw ["_law_tape_here", "_law_many_here"] spDraw2 := by
  refine T.F_draw.okQ sc_draw (fun vs H Q E h => ?_) (fun cdv A outer s H vs Q E hr h => ?_)
  · obtain ⟨p, m, rfl, _⟩ := h
    rfl
  · obtain ⟨p, m, rfl, ⟨a, b, hp, ha, hb⟩, hm, hm2, k⟩ := h
    have fin : ∀ (x : Int) H', St2 p H H' → Q (.int (x % m)) H' := fun x H' S => by
      have := k (x % m).toNat H' (by rw [Int.toNat_of_nonneg (Int.emod_nonneg _ (by omega))]; exact Int.emod_lt_of_pos _ hm) S
      rw [Int.toNat_of_nonneg (Int.emod_nonneg _ (by omega))] at this
      exact this
    refine ⟨_, (qb_cons (qs_if (qt_cmpR q_gt (qe_ix (q_ixL (K := K)) (qv 0) qe_int) qe_int (nomark _)) (qb_cons (qs_set (i := 2) sc_draw.nd rfl (Or.inl rfl) (qe_op q_mod (qe_ix (q_ixL (K := K)) (qv 0) qe_int) (qv 1)))
      (qb_cons (qs_sub (qe_op q_fdivL (qe_ix (q_ixL (K := K)) (qv 0) qe_int) (qv 1)) (qv 0) qe_int)
      (qb_one (qs_ret (qv 2))))) qb_nil)
      (qb_cons (qs_sub (qe_op q_mod (qe_op q_add (qe_op q_mul (qe_ix (q_ixL (K := K)) (qv 0) qe_int) qe_int) qe_int) qe_int) (qv 0) qe_int)
      (qb_cons (qs_set (i := 3) sc_draw.nd rfl (Or.inl rfl) (qe_op q_mod (qe_op q_mul (qe_ix (q_ixL (K := K)) (qv 0) qe_int) (qe_op q_add (qe_op q_mod (qe_ix (q_ixL (K := K)) (qv 0) qe_int) qe_int) qe_int)) qe_int))
      (qb_one (qs_ret (qe_op q_mod (qe_op q_mod (qe_op q_mul (qv 3) (qe_op q_add (qe_op q_mod (qv 3) qe_int) qe_int)) qe_int) (qv 1))))))), ?_⟩
    rw [show L2.start ["_law_tape_here", "_law_many_here", "_law_found", "_law_once"] [V.ref p, V.int m] = [some (V.ref p), some (V.int m), none, none] from rfl]
    walk_at "fs_rd"
    refine in_split (fun h0 => ?_) (fun h0 => ?_)
    · walk_at "fs_rd"
      exact fin _ _ (Tp2.mk (Int.ediv_nonneg ha (by omega)) hb)
    · walk_at "fs_rd"
      exact fin _ _ (Tp2.mk ha (Int.emod_nonneg _ (by omega)))
theorem ok_tape (T : Tx K mg t) : FnOk P w K mg t.bs CX0 1 t.f_tape t.d_tape ["_law_script", "_law_k"] (spTape2 K) := by
  refine T.F_tape.okQ sc_tape (fun vs H Q E h => ?_) (fun cdv A outer s H vs Q E hr h => ?_)
  · obtain ⟨a, ns, k, rfl, _⟩ := h
    rfl
  · obtain ⟨a, ns, k, rfl, hS, hk, q⟩ := h
    refine ⟨_, (qb_cons (qs_set (i := 2) sc_tape.nd rfl (Or.inl rfl) qe_int)
      (qb_cons (qs_if (qt_cmpR q_lt (qv 1) (qe_callB (qc_len (K := K)) (by rfl) T.z_len bt_len (qa_c (qv 0) qa_nil)) (nomark _)) (qb_one (qs_set (i := 2) sc_tape.nd rfl (Or.inl rfl) (qe_ix (q_ixL (K := K)) (qv 0) (qv 1)))) qb_nil)
      (qb_cons (qs_set (i := 3) sc_tape.nd rfl (Or.inl rfl) (qe_op q_mul (qe_callB qc_abs (by rfl) T.z_abs bt_abs (qa_c (qv 2) qa_nil)) (qe_callTy qc_int (by rfl) T.z_int bt_int (qa_c (qe_cmpR q_ge (qe_callB qc_abs (by rfl) T.z_abs bt_abs (qa_c (qv 2) qa_nil)) (qe_op q_pow qe_int qe_int) (nomark _)) qa_nil))))
      (qb_one (qs_ret (qe_lst (qa_c (qv 3) (qa_c (qe_op q_mod (qe_op q_mul (qe_op q_mod (qe_op q_add (qe_op q_add (qv 2) (qe_op q_mul qe_int (qv 1))) qe_int) qe_int) qe_int) qe_int) qa_nil)))))))), ?_⟩
    rw [show L2.start ["_law_script", "_law_k", "_law_cell", "_law_digits"] [V.ref a, V.int k] = [some (V.ref a), some (V.int k), none, none] from rfl]
    walk_at "fs_rd"
    refine in_lenL hS ?_
    walk_at "fs_rd"
    refine in_split (fun h0 => ?_) (fun h0 => ?_)
    · walk_at "fs_rd"
      have hlt : k.toNat < ns.length := by rw [List.length_map] at h0; omega
      have hget : atI (ns.map V.int) k = some (V.int ns[k.toNat]) := by
        have e : k = (k.toNat : Int) := by omega
        have := atI_nat (xs := ns.map V.int) (j := k.toNat) (v := V.int ns[k.toNat]) (by simp [hlt])
        rw [← e] at this; exact this
      refine in_ix hS hget ?_
      generalize ns[k.toNat] = cell
      walk_at "fs_rd"
      exact ⟨three (by simp), fun p hp => q p _ hp ((Same.refl H).new hp) ⟨_, _, upd_same, Int.mul_nonneg (by split <;> omega) (by (repeat' split) <;> omega), Int.emod_nonneg _ (by omega)⟩⟩
    · walk_at "fs_rd"
      exact ⟨three (by simp), fun p hp => q p _ hp ((Same.refl H).new hp) ⟨_, _, upd_same, Int.mul_nonneg (by split <;> omega) (by (repeat' split) <;> omega), Int.emod_nonneg _ (by omega)⟩⟩
noncomputable def spMany2 : Sp := fun vs H Q _ => ∃ (p : Addr) (k : Int), vs = [.ref p, .int k] ∧ Tp2 H p ∧ ∀ (r : Nat) H', r ≤ 60 → St2 p H H' → Q (.int r) H'
theorem ok_many (T : Tx K mg t) : FnOk P w K mg t.bs CX0 2 t.f_many t.d_many ["_law_tape_here", "_law_k"] spMany2 := by
  refine T.F_many.okQ sc_many (fun vs H Q E h => ?_) (fun cdv A outer s H vs Q E hr h => ?_)
  · obtain ⟨p, k, rfl, _⟩ := h
    rfl
  · obtain ⟨p, kk, rfl, hT, k⟩ := h
    refine ⟨_, (qb_cons (qs_set (i := 2) sc_many.nd rfl (Or.inl rfl) (qe_ix (q_ixL (K := K)) (qe_lst (qa_c (qe_op q_add qe_int (qe_call (ok_draw T) (hr.mono (by decide)) rfl T.m_draw T.F_draw.kp T.b_draw pass0 (qa_c (qv 0) (qa_c qe_int qa_nil)))) (qa_c qe_int qa_nil))) (qe_callTy qc_int (by rfl) T.z_int bt_int (qa_c (qe_and (qe_cmpR q_eq (qv 1) qe_int (nomark _)) (qe_one (qe_cmpR q_eq (qe_call (ok_draw T) (hr.mono (by decide)) rfl T.m_draw T.F_draw.kp T.b_draw pass0 (qa_c (qv 0) (qa_c qe_int qa_nil))) qe_int (nomark _)))) qa_nil))))
      (qb_one (qs_ret (qe_ix (q_ixL (K := K)) (qe_lst (qa_c qe_int (qa_c qe_int (qa_c qe_int (qa_c qe_int (qa_c qe_int (qa_c qe_int (qa_c qe_int (qa_c (qv 2) qa_nil))))))))) (qe_call (ok_draw T) (hr.mono (by decide)) rfl T.m_draw T.F_draw.kp T.b_draw pass0 (qa_c (qv 0) (qa_c qe_int qa_nil))))))), ?_⟩
    rw [show L2.start ["_law_tape_here", "_law_k", "_law_more"] [V.ref p, V.int kk] = [some (V.ref p), some (V.int kk), none] from rfl]
    walk_at "fs_rd"
    refine ⟨p, 6, rfl, hT, by decide, by decide, fun r1 H1 a1 S1 => ?_⟩
    walk_at "fs_rd"
    refine ⟨three (by simp), fun q hq => ?_⟩
    have nq := S1.tape.ne hq
    have S2 := S1.new (o := .lst [V.int (7 + (r1 : Int)), V.int 60]) hq
    have tq : (upd H1 q (.lst [V.int (7 + (r1 : Int)), V.int 60])) q = some (.lst [V.int (7 + (r1 : Int)), V.int 60]) := upd_same
    generalize upd H1 q (.lst [V.int (7 + (r1 : Int)), V.int 60]) = H2 at S2 tq
    walk_at "fs_rd"
    apply via2 (α := Nat) (S := fun m H3 => St2 p H H3 ∧ m ≤ 60)
    case hA =>
      intro key
      have pick : ∀ (r : Int) H3, 0 ≤ r → r < 2 → St2 p H2 H3 → ∃ (n : Nat), atI [V.int (7 + (r1 : Int)), V.int 60] r = some (V.int n) ∧ n ≤ 60 := fun r H3 h0 h1 _ => by
        obtain ⟨v, e, hv⟩ := atI_mem (xs := [V.int (7 + (r1 : Int)), V.int 60]) h0 h1
        simp only [List.mem_cons, List.not_mem_nil, or_false] at hv
        rcases hv with rfl | rfl
        · exact ⟨7 + r1, by rw [e]; rfl, by omega⟩
        · exact ⟨60, e, by omega⟩
      refine in_split (fun h1 => ?_) (fun h1 => ?_)
      · walk_at "fs_rd"
        refine ⟨p, 3, rfl, S2.tape, by decide, by decide, fun r2 H3 a2 S3 => ?_⟩
        walk_at "fs_rd"
        obtain ⟨n, e, hn⟩ := pick (if decide (V.int (r2 : Int) = V.int 0) = true then 1 else 0) H3 (by split <;> omega) (by split <;> omega) S3
        refine in_ix (SqL.of (S3.keep q _ tq nq)) e ?_
        walk_at "fs_rd"
        exact key n H3 ⟨S2.trans S3, hn⟩
      · walk_at "fs_rd"
        obtain ⟨n, hn⟩ : ∃ n : Nat, (7 + (r1 : Int)) = n := ⟨7 + r1, by omega⟩
        rw [hn]
        exact key n H2 ⟨S2, by omega⟩
    case hB =>
      rintro n H3 ⟨S3, hn⟩
      walk_at "fs_rd"
      refine ⟨three (by simp), fun q2 hq2 => ?_⟩
      have nq2 := S3.tape.ne hq2
      walk_at "fs_rd"
      refine ⟨p, 8, rfl, (S3.new hq2).tape, by decide, by decide, fun r3 H4 a3 S4 => ?_⟩
      obtain ⟨v, e, hv⟩ := atI_mem (xs := [V.int 0, V.int 1, V.int 2, V.int 3, V.int 4, V.int 5, V.int 6, V.int (n : Int)]) (r := (r3 : Int)) (by omega) (by simp only [List.length_cons, List.length_nil]; omega)
      refine in_ix (SqL.of (S4.keep q2 _ upd_same nq2)) e ?_
      simp only [List.mem_cons, List.not_mem_nil, or_false] at hv
      have S := (S3.new (o := .lst [V.int 0, V.int 1, V.int 2, V.int 3, V.int 4, V.int 5, V.int 6, V.int (n : Int)]) hq2).trans S4
      rcases hv with rfl | rfl | rfl | rfl | rfl | rfl | rfl | rfl
      · exact k 0 H4 (by omega) S
      · exact k 1 H4 (by omega) S
      · exact k 2 H4 (by omega) S
      · exact k 3 H4 (by omega) S
      · exact k 4 H4 (by omega) S
      · exact k 5 H4 (by omega) S
      · exact k 6 H4 (by omega) S
      · exact k n H4 hn S

noncomputable def spBase3 : Sp := fun vs H Q _ => ∃ (p : Addr), vs = [.ref p] ∧ Tp2 H p ∧ ∀ (b : Nat) H', 2 ≤ b → b ≤ 64 → St2 p H H' → Q (.int b) H'
theorem ok_base (T : Tx K mg t) : FnOk P w K mg t.bs CX0 2 t.f_base t.d_base ["_law_tape_here"] spBase3 := by
  refine T.F_base.okQ sc_base (fun vs H Q E h => ?_) (fun cdv A outer s H vs Q E hr h => ?_)
  · obtain ⟨p, rfl, _⟩ := h
    rfl
  · obtain ⟨p, rfl, hT, k⟩ := h
    refine ⟨_, (qb_one (qs_ret (qe_ix (q_ixL (K := K)) (qe_lst (qa_c qe_int (qa_c qe_int (qa_c qe_int (qa_c qe_int (qa_c qe_int (qa_c (qe_op q_add qe_int (qe_call (ok_draw T) (hr.mono (by decide)) rfl T.m_draw T.F_draw.kp T.b_draw pass0 (qa_c (qv 0) (qa_c qe_int qa_nil)))) qa_nil))))))) (qe_call (ok_draw T) (hr.mono (by decide)) rfl T.m_draw T.F_draw.kp T.b_draw pass0 (qa_c (qv 0) (qa_c qe_int qa_nil)))))), ?_⟩
    rw [show L2.start ["_law_tape_here"] [V.ref p] = [some (V.ref p)] from rfl]
    walk_at "fs_rd"
    refine ⟨p, 63, rfl, hT, by decide, by decide, fun r1 H1 a1 S1 => ?_⟩
    walk_at "fs_rd"
    refine ⟨three (by simp), fun q hq => ?_⟩
    walk_at "fs_rd"
    refine ⟨p, 6, rfl, (S1.new hq).tape, by decide, by decide, fun r3 H4 a3 S4 => ?_⟩
    obtain ⟨v, e, hv⟩ := atI_mem (xs := [V.int 2, V.int 3, V.int 10, V.int 16, V.int 64, V.int (2 + (r1 : Int))]) (r := (r3 : Int)) (by omega) (by simp only [List.length_cons, List.length_nil]; omega)
    refine in_ix (SqL.of (S4.keep q _ upd_same (S1.tape.ne hq))) e ?_
    have S := (S1.new (o := .lst [V.int 2, V.int 3, V.int 10, V.int 16, V.int 64, V.int (2 + (r1 : Int))]) hq).trans S4
    simp only [List.mem_cons, List.not_mem_nil, or_false] at hv
    rcases hv with rfl | rfl | rfl | rfl | rfl | rfl
    · exact k 2 H4 (by omega) (by omega) S
    · exact k 3 H4 (by omega) (by omega) S
    · exact k 10 H4 (by omega) (by omega) S
    · exact k 16 H4 (by omega) (by omega) S
    · exact k 64 H4 (by omega) (by omega) S
    · exact k (2 + r1) H4 (by omega) (by omega) S

noncomputable def RowsT (H : Hp) (ps : List Addr) (rss : List (List Nat)) : Prop := ps.length = rss.length ∧ ∀ (i : Nat) p r, ps[i]? = some p → rss[i]? = some r → H p = some (.tup (NV r))
theorem RowsT.same {H H1 : Hp} {ps : List Addr} {rss : List (List Nat)} (h : RowsT H ps rss) (e : Same H H1) : RowsT H1 ps rss := ⟨h.1, fun i p z a c => e _ _ (h.2 i p z a c)⟩
theorem RowsT.snoc {H : Hp} {ps : List Addr} {rss : List (List Nat)} {p : Addr} {r : List Nat} (h : RowsT H ps rss) (e : H p = some (.tup (NV r))) : RowsT H (ps ++ [p]) (rss ++ [r]) := by
  refine ⟨by simp [h.1], fun i q y a c => ?_⟩
  rcases snoc_get a with ⟨l, a⟩ | ⟨l, a⟩
  · rcases snoc_get c with ⟨_, c⟩ | ⟨l', c⟩
    · exact h.2 i q y a c
    · have := h.1; omega
  · rcases snoc_get c with ⟨l', c⟩ | ⟨_, c⟩
    · have := h.1; omega
    · rw [a, c]; exact e
theorem RowsT.st2 {H H1 : Hp} {q : Addr} {ps : List Addr} {rss : List (List Nat)} (h : RowsT H ps rss) (t : Tp2 H q) (e : St2 q H H1) : RowsT H1 ps rss := ⟨h.1, fun i p z a b => by
  have hp := h.2 i p z a b
  obtain ⟨x, y, ht, _⟩ := t
  exact e.keep _ _ hp (ne_of hp ht (by intro c; cases c))⟩
theorem tp_ne {H : Hp} {p x : Addr} {zs : List V} (t : Tp2 H p) (hx : H x = some (.tup zs)) : x ≠ p := by
  obtain ⟨a1, a2, h9, _⟩ := t
  exact ne_of hx h9 (by intro c; cases c)
theorem RowsT.own {H : Hp} {ps : List Addr} {rss : List (List Nat)} {l : Addr} {xs ys : List V} (h : RowsT H ps rss) (hl : H l = some (.lst xs)) : RowsT (upd H l (.lst ys)) ps rss := ⟨h.1, fun i p z a b => by
  have := h.2 i p z a b
  rw [upd_ne (ne_of this hl (by intro c; cases c))]; exact this⟩
noncomputable def Good (rss : List (List Nat)) (w b : Nat) : Prop := ∀ r ∈ rss, r.length = w ∧ ∀ x ∈ r, x < b
theorem Good.snoc {rss : List (List Nat)} {w b : Nat} {r : List Nat} (h : Good rss w b) (h1 : r.length = w) (h2 : ∀ x ∈ r, x < b) : Good (rss ++ [r]) w b := fun q hq => by
  rcases List.mem_append.mp hq with g | g
  · exact h q g
  · rw [List.mem_singleton.mp g]; exact ⟨h1, h2⟩
theorem col_get {rss : List (List Nat)} {w b i c : Nat} {r : List Nat} (h : Good rss w b) (hr : rss[i]? = some r) (hc : c < w) : r[c]? = some (r.getD c 0) ∧ (colN rss c)[i]? = some (r.getD c 0) := by
  have hl := (h r (List.mem_of_getElem? hr)).1
  constructor
  · have : c < r.length := by omega
    simp [this]
  · unfold colN
    rw [List.getElem?_map, hr]; rfl
theorem col_lt {rss : List (List Nat)} {w b c : Nat} (h : Good rss w b) (hc : c < w) : ∀ o ∈ colN rss c, o < b := fun o ho => by
  obtain ⟨r, hr, rfl⟩ := List.mem_map.mp ho
  obtain ⟨h1, h2⟩ := h r hr
  have : c < r.length := by omega
  apply h2
  rw [List.getD_eq_getElem?_getD, List.getElem?_eq_getElem this]
  exact List.getElem_mem this
theorem col_len (rss : List (List Nat)) (c : Nat) : (colN rss c).length = rss.length := by simp [colN]
noncomputable def spRows3 : Sp := fun vs H Q _ => ∃ (p : Addr) (n b w : Nat), vs = [.ref p, .int n, .int b, .int w] ∧ Tp2 H p ∧ n ≤ 60 ∧ 2 ≤ b ∧ b ≤ 64 ∧ w ≤ 120 ∧ ∀ (l : Addr) (ps : List Addr) (rss : List (List Nat)) H', H l = none → H' l = some (.lst (ps.map V.ref)) → RowsT H' ps rss → rss.length = n → Good rss w b → l ≠ p → St2 p H H' → Q (.ref l) H'
theorem ok_rows (T : Tx K mg t) : FnOk P w K mg t.bs CX0 2 t.f_rows t.d_rows ["_law_tape_here", "_law_many_here", "_law_base_here", "_law_wide"] spRows3 := by
  refine T.F_rows.okQ sc_rows (fun vs H Q E h => ?_) (fun cdv A outer s H vs Q E hr h => ?_)
  · obtain ⟨p, n, b, w, rfl, _⟩ := h
    rfl
  · obtain ⟨p, n, b, w, rfl, hT, hn, hb, hb2, hw, k⟩ := h
    refine ⟨_, (qb_cons (qs_set (i := 4) sc_rows.nd rfl (Or.inl rfl) (qe_lst qa_nil))
      (qb_cons (qs_for PassesOwn.never rfl (qi_range1 rfl T.z_range (qa_c (qv 1) qa_nil)) (qg_name (i := 5) sc_rows.nd rfl (Or.inl rfl)) (qb_cons (qs_set (i := 6) sc_rows.nd rfl (Or.inl rfl) (qe_callTy (qc_tuple (K := K)) (by rfl) T.z_tuple bt_tuple (qa_c (qe_comp (N := ["_law_k", "_law_tape_here", "_law_base_here"]) (tgs := ["_law_k"]) (frs := ["_law_tape_here", "_law_base_here"]) (ix := [0, 2]) ⟨rfl, by decide +kernel, rfl, by decide +kernel, rfl, rfl, ⟨⟨rfl, rfl, _, rfl, rfl⟩, ⟨rfl, rfl, _, rfl, rfl⟩, True.intro⟩, ⟨rfl, rfl, True.intro⟩, rfl⟩ rfl (qi_range1 rfl T.z_range (qa_c (qv 3) qa_nil)) (fun _ _ _ _ => (qg_name (i := 0) (by show List.Nodup (["_law_k", "_law_tape_here", "_law_base_here"] : List Str); decide +kernel) rfl (Or.inl rfl))) (fun _ _ _ _ => (qe_ix (q_ixL (K := K)) (qe_lst (qa_c (qe_call (ok_draw T) (hr.mono (by decide)) rfl T.m_draw T.F_draw.kp T.b_draw pass0 (qa_c (qv 1) (qa_c (qv 2) qa_nil))) (qa_c (qe_op q_sub (qv 2) qe_int) (qa_c qe_int qa_nil)))) (qe_call (ok_draw T) (hr.mono (by decide)) rfl T.m_draw T.F_draw.kp T.b_draw pass0 (qa_c (qv 1) (qa_c qe_int qa_nil)))))) qa_nil)))
      (qb_cons (qs_if (QW.qt (qw_and (qt_cmpR (q_neNil (K := K) hr.units0) (qv 4) (qe_lst qa_nil) (nomark _)) (qw_and1 (qt_cmpR q_eq (qe_call (ok_draw T) (hr.mono (by decide)) rfl T.m_draw T.F_draw.kp T.b_draw pass0 (qa_c (qv 0) (qa_c qe_int qa_nil))) qe_int (nomark _))))) (qb_cons (qs_set (i := 6) sc_rows.nd rfl (Or.inl rfl) (qe_ix (q_ixL (K := K)) (qv 4) (qe_call (ok_draw T) (hr.mono (by decide)) rfl T.m_draw T.F_draw.kp T.b_draw pass0 (qa_c (qv 0) (qa_c (qe_callB (qc_len (K := K)) (by rfl) T.z_len bt_len (qa_c (qv 4) qa_nil)) qa_nil)))))
      (qb_one (qs_if (QW.qt (qw_and (qt_cmpR q_gt (qv 3) qe_int (nomark _)) (qw_and1 (qt_cmpR q_eq (qe_call (ok_draw T) (hr.mono (by decide)) rfl T.m_draw T.F_draw.kp T.b_draw pass0 (qa_c (qv 0) (qa_c qe_int qa_nil))) qe_int (nomark _))))) (qb_cons (qs_set (i := 7) sc_rows.nd rfl (Or.inl rfl) (qe_call (ok_draw T) (hr.mono (by decide)) rfl T.m_draw T.F_draw.kp T.b_draw pass0 (qa_c (qv 0) (qa_c (qv 3) qa_nil))))
      (qb_one (qs_set (i := 6) sc_rows.nd rfl (Or.inl rfl) (qe_op q_catTA (qe_op q_catTA (qe_slice (q_slT (K := K)) (qv 6) qo_none (qo_some (qv 7))) (qe_tup (qa_c (qe_call (ok_draw T) (hr.mono (by decide)) rfl T.m_draw T.F_draw.kp T.b_draw pass0 (qa_c (qv 0) (qa_c (qv 2) qa_nil))) qa_nil))) (qe_slice (q_slT (K := K)) (qv 6) (qo_some (qe_op q_add (qv 7) qe_int)) qo_none))))) qb_nil))) qb_nil)
      (qb_one (qs_expr (qe_append (K := K) (qv 4) (qa_c (qv 6) qa_nil)))))))
      (qb_one (qs_ret (qv 4))))), ?_⟩
    rw [show L2.start ["_law_tape_here", "_law_many_here", "_law_base_here", "_law_wide", "_law_rows_here", "_law_turn", "_law_row", "_law_at"] [V.ref p, V.int n, V.int b, V.int w] = [some (V.ref p), some (V.int n), some (V.int b), some (V.int w), none, none, none, none] from rfl]
    walk_at "fs_rd"
    refine ⟨three (by simp), fun l0 hl0 => ?_⟩
    have n0 := hT.ne hl0
    have S0 := (St2.refl hT).new (o := .lst []) hl0
    have t0 : (upd H l0 (.lst [])) l0 = some (.lst (([] : List Addr).map V.ref)) := upd_same
    generalize upd H l0 (.lst []) = H0 at S0 t0
    walk_at "fs_rd"
    refine ⟨n, rfl, by omega, by omega, for_range (fun i σ H' => St2 p H H' ∧ (∃ (qs : List Addr) (tss : List (List Nat)), H' l0 = some (.lst (qs.map V.ref)) ∧ RowsT H' qs tss ∧ Good tss w b ∧ qs.length = i) ∧ ∃ v5 v6 v7, σ = [some (V.ref p), some (V.int n), some (V.int b), some (V.int w), some (V.ref l0), v5, v6, v7]) ⟨S0, ⟨[], [], t0, ⟨rfl, fun i p r h => by simp at h⟩, (fun r h => nomatch h), rfl⟩, _, _, _, rfl⟩ ?_ ?_⟩
    · rintro i σ H2 hi ⟨S2, ⟨qs, tss, t2, hR, hG, hql⟩, v5, v6, v7, rfl⟩
      walk_at "fs_rd"
      refine ⟨w, rfl, by omega, by omega, comp_rng (n := w) (fun i ys σ H6 => St2 p H2 H6 ∧ (∃ cs : List Nat, ys = NV cs ∧ cs.length = i ∧ ∀ x ∈ cs, x < b) ∧ ∃ v, σ = [v, some (V.ref p), some (V.int b)]) (small1000 (by omega)) (fun i ys σ H6 h => by obtain ⟨_, ⟨cs, rfl, e, _⟩, _⟩ := h; rw [NV_len, e]) ⟨St2.refl S2.tape, ⟨[], rfl, rfl, fun x h => nomatch h⟩, none, rfl⟩ ?_ ?_⟩
      · rintro i' ys σ H6 hi' ⟨S6, ⟨cs, rfl, hcl, hcb⟩, v, rfl⟩
        walk_at "fs_rd"
        refine ⟨p, b, rfl, S6.tape, by omega, by omega, fun r H7 c0 S7 => ?_⟩
        walk_at "fs_rd"
        refine ⟨three (by simp), fun q hq => ?_⟩
        walk_at "fs_rd"
        refine ⟨p, 3, rfl, (S7.new hq).tape, by decide, by decide, fun r' H8 d0 S8 => ?_⟩
        obtain ⟨u, e, hu⟩ := atI_mem (xs := [V.int (r : Int), V.int ((b : Int) - 1), V.int 0]) (r := (r' : Int)) (by omega) (by simp only [List.length_cons, List.length_nil]; omega)
        refine in_ix (SqL.of (S8.keep q _ upd_same (S7.tape.ne hq))) e ?_
        have hu' : ∃ x : Nat, u = V.int x ∧ x < b := by
          simp only [List.mem_cons, List.not_mem_nil, or_false] at hu
          rcases hu with rfl | rfl | rfl
          · exact ⟨r, rfl, by omega⟩
          · exact ⟨b - 1, by congr 1; omega, by omega⟩
          · exact ⟨0, rfl, by omega⟩
        obtain ⟨x, rfl, hx⟩ := hu'
        refine Nx.mk hi' ⟨S6.trans ((S7.new hq).trans S8), ⟨cs ++ [x], NV_snoc _ _, by simp [hcl], fun y hy => ?_⟩, _, rfl⟩
        rcases List.mem_append.mp hy with h | h
        · exact hcb y h
        · rw [List.mem_singleton.mp h]; exact hx
      rintro ys σ H6 ⟨S6, ⟨row, rfl, hrl, hrb⟩, v, rfl⟩ g1 hg1
      have S7 := S6.new (o := .lst (NV row)) hg1
      have tg1 : (upd H6 g1 (.lst (NV row))) g1 = some (.lst (NV row)) := upd_same
      generalize upd H6 g1 (.lst (NV row)) = H7 at S7 tg1
      walk_at "fs_rd"
      refine in_tupleL (SqL.of tg1) fun gr hgr => ?_
      have S8 := S7.new (o := .tup (NV row)) hgr
      have tq : (upd H7 gr (.tup (NV row))) gr = some (.tup (NV row)) := upd_same
      generalize upd H7 gr (.tup (NV row)) = H8 at S8 tq
      have S28 := S2.trans S8
      have t8 := S8.keep _ _ t2 n0
      have R8 := hR.st2 S2.tape S8
      walk_at "fs_rd"
      refine ⟨three (by simp), fun e0 he0 => ?_⟩
      have s9 := (Same.refl H8).new (o := .lst []) he0
      have te0 : (upd H8 e0 (.lst [])) e0 = some (.lst []) := upd_same
      have S9 := S28.new (o := .lst []) he0
      generalize upd H8 e0 (.lst []) = H9 at s9 te0 S9
      have t9 := s9 _ _ t8
      have R9 := R8.same s9
      have tq9 := s9 _ _ tq
      refine ⟨l0, e0, _, rfl, rfl, SqL.of t9, SqL.of te0, ?_⟩
      walk_at "fs_rd"
      apply via3 (α := Addr) (β := Option V) (S := fun q v H' => St2 p H H' ∧ H' l0 = some (.lst (qs.map V.ref)) ∧ RowsT H' qs tss ∧ ∃ row : List Nat, H' q = some (.tup (NV row)) ∧ row.length = w ∧ ∀ x ∈ row, x < b)
      case hA =>
        intro key
        refine in_nsplit (fun g1 => ?_) (fun g1 => ?_)
        · have hq0 : 0 < qs.length := List.length_pos_iff.mpr fun z => g1 (by rw [z]; rfl)
          walk_at "fs_rd"
          refine ⟨p, 3, rfl, S9.tape, by decide, by decide, fun r5 HA _ SA => ?_⟩
          have S9A := S9.trans SA
          have tA := SA.keep _ _ t9 n0
          have RA := R9.st2 S9.tape SA
          have tqA := SA.keep _ _ tq9 (tp_ne S9.tape tq9)
          walk_at "fs_rd"
          refine in_split (fun g2 => ?_) (fun g2 => ?_)
          · walk_at "fs_rd"
            refine in_lenL (SqL.of tA) ?_
            rw [List.length_map]
            walk_at "fs_rd"
            refine ⟨p, _, rfl, SA.tape, by omega, by omega, fun j HB hj SB => ?_⟩
            have hj : j < qs.length := by omega
            have tB := SB.keep _ _ tA n0
            have RB := RA.st2 SA.tape SB
            have S9B := S9A.trans SB
            refine in_ix (SqL.of tB) (v := V.ref qs[j]) (atI_nat (by rw [List.getElem?_map]; simp [hj])) ?_
            have hjt : j < tss.length := by rw [← hR.1]; exact hj
            have tqB := RB.2 j qs[j] tss[j] (by simp [hj]) (by simp [hjt])
            obtain ⟨hrl', hrb'⟩ := hG tss[j] (List.getElem_mem hjt)
            generalize qs[j] = q at tqB
            generalize tss[j] = row' at tqB hrl' hrb'
            walk_at "fs_rd"
            refine in_split (fun g3 => ?_) (fun g3 => ?_)
            · walk_at "fs_rd"
              refine ⟨p, 2, rfl, SB.tape, by decide, by decide, fun r6 HC _ SC => ?_⟩
              have tC := SC.keep _ _ tB n0
              have RC := RB.st2 SB.tape SC
              have S9C := S9B.trans SC
              have tqC := SC.keep _ _ tqB (tp_ne SB.tape tqB)
              walk_at "fs_rd"
              refine in_split (fun g4 => ?_) (fun g4 => ?_)
              · walk_at "fs_rd"
                refine ⟨p, w, rfl, SC.tape, by omega, by omega, fun at' HD hat SD => ?_⟩
                have tqD := SD.keep _ _ tqC (tp_ne SC.tape tqC)
                walk_at "fs_rd"
                refine ⟨at', rfl, q, _, rfl, SqT.of tqD, by rw [HT.sIx_nat, HT.sIx_none, NV_len]; omega, fun y1 hy1 => ?_⟩
                rw [cut_takeN _ _ (by omega)]
                have s8 := (Same.refl HD).new (o := .tup (NV (row'.take at'))) hy1
                have ty1 : (upd HD y1 (.tup (NV (row'.take at')))) y1 = some (.tup (NV (row'.take at'))) := upd_same
                generalize upd HD y1 (.tup (NV (row'.take at'))) = HE at s8 ty1
                walk_at "fs_rd"
                refine ⟨p, b, rfl, SD.tape.same s8, by omega, by omega, fun d HF f1 SF => ?_⟩
                have tyF := SF.keep _ _ ty1 (tp_ne (SD.tape.same s8) ty1)
                have tqF := SF.keep _ _ (s8 _ _ tqD) (tp_ne (SD.tape.same s8) (s8 _ _ tqD))
                walk_at "fs_rd"
                refine ⟨three (by simp), fun y2 hy2 => ?_⟩
                have sG := (Same.refl HF).new (o := .tup [V.int (d : Nat)]) hy2
                have ty2 : (upd HF y2 (.tup [V.int (d : Nat)])) y2 = some (.tup (NV [d])) := upd_same
                generalize upd HF y2 (.tup [V.int (d : Nat)]) = HG at sG ty2
                refine ⟨y1, y2, _, _, rfl, rfl, sG _ _ tyF, ty2, three (by rw [NV_len, NV_len, List.length_take]; simp; omega), fun y3 HI sI ty3 => ?_⟩
                rw [NV_app] at ty3
                have e1' : (at' : Int) + 1 = ((at' + 1 : Nat) : Int) := by omega
                walk_at "fs_rd"
                rw [e1']
                refine ⟨_, rfl, ?_⟩
                walk_at "fs_rd"
                refine ⟨q, _, rfl, SqT.of (sI _ _ (sG _ _ tqF)), by rw [HT.sIx_nat, HT.sIx_none, NV_len]; omega, fun y4 hy4 => ?_⟩
                rw [cut_dropN _ _ (by omega)]
                have sJ := (Same.refl HI).new (o := .tup (NV (row'.drop (at' + 1)))) hy4
                have ty4 : (upd HI y4 (.tup (NV (row'.drop (at' + 1))))) y4 = some (.tup (NV (row'.drop (at' + 1)))) := upd_same
                generalize upd HI y4 (.tup (NV (row'.drop (at' + 1)))) = HJ at sJ ty4
                refine ⟨y3, y4, _, _, rfl, rfl, sJ _ _ ty3, ty4, three (by rw [NV_len, NV_len, List.length_append, List.length_take, List.length_drop]; simp; omega), fun y5 HK sK ty5 => ?_⟩
                rw [NV_app] at ty5
                have sFK := sG.trans (sI.trans (sJ.trans sK))
                have SDK : St2 p HD HK := ⟨fun c u e1 e2 => sFK _ _ (SF.keep c u (s8 c u e1) e2), SF.tape.same sFK⟩
                have SCK := SD.trans SDK
                generalize some (V.int (at' : Nat)) = w9
                walk_at "fs_rd"
                refine key y5 w9 HK ⟨S9C.trans SCK, SCK.keep _ _ tC n0, RC.st2 SC.tape SCK, _, ty5, by rw [List.length_append, List.length_append, List.length_take, List.length_drop]; simp; omega, fun x hx => ?_⟩
                rcases List.mem_append.mp hx with h | h
                · rcases List.mem_append.mp h with h | h
                  · exact hrb' x (List.mem_of_mem_take h)
                  · rw [List.mem_singleton.mp h]; omega
                · exact hrb' x (List.mem_of_mem_drop h)
              · walk_at "fs_rd"
                exact key q _ HC ⟨S9C, tC, RC, row', tqC, hrl', hrb'⟩
            · walk_at "fs_rd"
              exact key q _ HB ⟨S9B, tB, RB, row', tqB, hrl', hrb'⟩
          · walk_at "fs_rd"
            exact key gr _ HA ⟨S9A, tA, RA, row, tqA, hrl, hrb⟩
        · walk_at "fs_rd"
          exact key gr _ H9 ⟨S9, t9, R9, row, tq9, hrl, hrb⟩
      case hB =>
        rintro q2 w9 HZ ⟨SZ, tZ, RZ, row2, tq2, hrl2, hrb2⟩
        refine ⟨ty_list tZ, ?_⟩
        walk_at "fs_rd"
        refine in_append tZ (by rw [List.length_map, hql]; exact small1000 (by omega)) ?_
        refine ⟨SZ.own hl0 n0, ⟨qs ++ [q2], tss ++ [row2], by rw [upd_same, List.map_append]; rfl, (RZ.snoc tq2).own tZ, hG.snoc hrl2 hrb2, by simp [hql]⟩, _, _, _, rfl⟩
    · rintro σ H4 ⟨S4, ⟨ps, rss, u4, Q4, hG4, hpl⟩, v5, v6, v7, rfl⟩
      walk_at "fs_rd"
      exact k l0 ps rss H4 hl0 u4 Q4 (by rw [← Q4.1]; omega) hG4 n0 S4

noncomputable def SmAt : Nat → Hp → V → V → Prop
  | 0, _, x, y => ∃ i, x = .int i ∧ y = .int i
  | n + 1, H, x, y => (∃ i, x = .int i ∧ y = .int i) ∨ (∃ a c xs ys, x = .ref a ∧ y = .ref c ∧ H a = some (.lst xs) ∧ H c = some (.lst ys) ∧ xs.length = ys.length ∧ xs.length ≤ 200 ∧ ∀ (i : Nat) u v, xs[i]? = some u → ys[i]? = some v → SmAt n H u v) ∨
    (∃ a c xs ys, x = .ref a ∧ y = .ref c ∧ H a = some (.tup xs) ∧ H c = some (.tup ys) ∧ xs.length = ys.length ∧ xs.length ≤ 200 ∧ ∀ (i : Nat) u v, xs[i]? = some u → ys[i]? = some v → SmAt n H u v)
theorem SmAt.same {H H1 : Hp} (s : Same H H1) : ∀ {n : Nat} {x y : V}, SmAt n H x y → SmAt n H1 x y
  | 0, _, _, h => h
  | n + 1, _, _, h => by
    rcases h with h | ⟨a, c, xs, ys, rfl, rfl, ha, hc, hl, hz, hi⟩ | ⟨a, c, xs, ys, rfl, rfl, ha, hc, hl, hz, hi⟩
    · exact .inl h
    · exact .inr (.inl ⟨a, c, xs, ys, rfl, rfl, s _ _ ha, s _ _ hc, hl, hz, fun i u v e1 e2 => SmAt.same s (hi i u v e1 e2)⟩)
    · exact .inr (.inr ⟨a, c, xs, ys, rfl, rfl, s _ _ ha, s _ _ hc, hl, hz, fun i u v e1 e2 => SmAt.same s (hi i u v e1 e2)⟩)
theorem SmAt.int {H : Hp} (n : Nat) (i : Int) : SmAt n H (.int i) (.int i) := by
  cases n with
  | zero => exact ⟨i, rfl, rfl⟩
  | succ n => exact .inl ⟨i, rfl, rfl⟩
theorem NV_same {H : Hp} (n : Nat) {ns : List Nat} {i : Nat} {u v : V} (e1 : (NV ns)[i]? = some u) (e2 : (NV ns)[i]? = some v) : SmAt n H u v := by
  rw [e1] at e2; cases e2
  obtain ⟨o, rfl, _⟩ := map_get e1
  exact SmAt.int n _
theorem SmAt.ints {H : Hp} {l c : Addr} {ns : List Nat} (n : Nat) (h1 : H l = some (.lst (NV ns))) (h2 : H c = some (.lst (NV ns))) (hl : ns.length ≤ 200) : SmAt (n + 1) H (.ref l) (.ref c) :=
  .inr (.inl ⟨l, c, _, _, rfl, rfl, h1, h2, rfl, by rw [NV_len]; exact hl, fun i u v e1 e2 => NV_same n e1 e2⟩)
theorem SmAt.tints {H : Hp} {l c : Addr} {ns : List Nat} (n : Nat) (h1 : H l = some (.tup (NV ns))) (h2 : H c = some (.tup (NV ns))) (hl : ns.length ≤ 200) : SmAt (n + 1) H (.ref l) (.ref c) :=
  .inr (.inr ⟨l, c, _, _, rfl, rfl, h1, h2, rfl, by rw [NV_len]; exact hl, fun i u v e1 e2 => NV_same n e1 e2⟩)
theorem SmAt.pair {H : Hp} {a c : Addr} {x y u v : V} {n : Nat} (h1 : H a = some (.tup [x, y])) (h2 : H c = some (.tup [u, v])) (g1 : SmAt n H x u) (g2 : SmAt n H y v) : SmAt (n + 1) H (.ref a) (.ref c) :=
  .inr (.inr ⟨a, c, _, _, rfl, rfl, h1, h2, rfl, by simp, fun i p q e1 e2 => by
    match i, e1, e2 with
    | 0, e1, e2 => cases e1; cases e2; exact g1
    | 1, e1, e2 => cases e1; cases e2; exact g2
    | i + 2, e1, _ => simp at e1⟩)
theorem in_isiTLf {K : PySem.W.Frag} {H : Hp} {Q : VK} {p : Addr} {xs : List V} (s : H p = some (.tup xs)) (h : Q (.bl false) H) : rIsi K [.ref p, .ty "list"] H Q := ⟨_, _, _, _, rfl, .tup s, rfl, h⟩
noncomputable def spSm (n : Nat) : Sp := fun vs H Q _ => ∃ x y, vs = [x, y] ∧ SmAt n H x y ∧ ∀ H', Same H H' → Q (.bl true) H'
theorem ok_sameN (T : Tx K mg t) : ∀ n : Nat, FnOk P w K mg t.bs CX0 (n + 1) t.f_same t.d_same ["_law_found", "_law_due"] (spSm n)
  | 0 => by
    refine T.F_same.okQ sc_same (fun vs H Q E h => ?_) (fun cdv A outer s H vs Q E hr h => ?_)
    · obtain ⟨x, y, rfl, _⟩ := h
      rfl
    · obtain ⟨x, y, rfl, ⟨i, rfl, rfl⟩, k⟩ := h
      refine ⟨_, (qb_cons (qs_if (qt_cmpR q_isN (qv 1) qe_non (nomark _)) (qb_one (qs_ret (qe_cmpR q_isN (qv 0) qe_non (nomark _)))) qb_nil)
      (qb_cons (qs_if (qt_val (qe_callB (qc_isiT (K := K)) (by rfl) T.z_isinstance bt_isinstance (qa_c (qv 1) (qa_c (qe_tup (qa_c (qe_bltn rfl T.z_list bt_list (v := .ty "list") rfl) (qa_c (qe_bltn rfl T.z_tuple bt_tuple (v := .ty "tuple") rfl) qa_nil))) qa_nil)))) (qb_cons qs_never
      (qb_one qs_never)) qb_nil)
      (qb_cons (qs_if (qt_val (qe_callB (qc_isi (K := K)) (by rfl) T.z_isinstance bt_isinstance (qa_c (qv 1) (qa_c (qe_bltn rfl T.z_bool bt_bool (v := .ty "bool") rfl) qa_nil)))) (qb_one (qs_ret (qe_and (qe_callB (qc_isi (K := K)) (by rfl) T.z_isinstance bt_isinstance (qa_c (qv 0) (qa_c (qe_bltn rfl T.z_bool bt_bool (v := .ty "bool") rfl) qa_nil))) (qe_one (qe_cmpR q_eq (qv 0) (qv 1) (nomark _)))))) qb_nil)
      (qb_cons (qs_if (qt_val (qe_callB (qc_isi (K := K)) (by rfl) T.z_isinstance bt_isinstance (qa_c (qv 1) (qa_c (qe_bltn rfl T.z_str bt_str (v := .ty "str") rfl) qa_nil)))) (qb_one (qs_ret (qe_and (qe_callB (qc_isi (K := K)) (by rfl) T.z_isinstance bt_isinstance (qa_c (qv 0) (qa_c (qe_bltn rfl T.z_str bt_str (v := .ty "str") rfl) qa_nil))) (qe_one (qe_cmpR q_eq (qv 0) (qv 1) (nomark _)))))) qb_nil)
      (qb_one (qs_ret (qe_and (qe_callB (qc_isi (K := K)) (by rfl) T.z_isinstance bt_isinstance (qa_c (qv 0) (qa_c (qe_bltn rfl T.z_int bt_int (v := .ty "int") rfl) qa_nil))) (qe_and (qe_not (qe_callB (qc_isi (K := K)) (by rfl) T.z_isinstance bt_isinstance (qa_c (qv 0) (qa_c (qe_bltn rfl T.z_bool bt_bool (v := .ty "bool") rfl) qa_nil)))) (qe_one (qe_cmpR q_eq (qv 0) (qv 1) (nomark _))))))))))), ?_⟩
      rw [show L2.start ["_law_found", "_law_due"] [V.int i, V.int i] = [some (V.int i), some (V.int i)] from rfl]
      walk_at "fs_rd"
      refine in_neg (fun h => by cases h) ?_
      walk_at "fs_rd"
      refine ⟨three (by simp), fun tp htp => ?_⟩
      walk_at "fs_rd"
      refine in_isiTI upd_same ?_
      walk_at "fs_rd"
      rw [decide_eq_true rfl]
      exact k _ ((Same.refl H).new htp)
  | n + 1 => by
    have recN : Tx K mg t → FnOk P w K mg t.bs CX0 (n + 1) t.f_same t.d_same ["_law_found", "_law_due"] (spSm n) := fun T => ok_sameN T n
    refine T.F_same.okQ sc_same (fun vs H Q E h => ?_) (fun cdv A outer s H vs Q E hr h => ?_)
    · obtain ⟨x, y, rfl, _⟩ := h
      rfl
    · obtain ⟨x, y, rfl, h, k⟩ := h
      rcases h with ⟨i, rfl, rfl⟩ | ⟨a, c, xs, ys, rfl, rfl, ta, tc, hl, hz, hi⟩ | ⟨a, c, xs, ys, rfl, rfl, ta, tc, hl, hz, hi⟩
      · refine ⟨_, (qb_cons (qs_if (qt_cmpR q_isN (qv 1) qe_non (nomark _)) (qb_one (qs_ret (qe_cmpR q_isN (qv 0) qe_non (nomark _)))) qb_nil)
      (qb_cons (qs_if (qt_val (qe_callB (qc_isiT (K := K)) (by rfl) T.z_isinstance bt_isinstance (qa_c (qv 1) (qa_c (qe_tup (qa_c (qe_bltn rfl T.z_list bt_list (v := .ty "list") rfl) (qa_c (qe_bltn rfl T.z_tuple bt_tuple (v := .ty "tuple") rfl) qa_nil))) qa_nil)))) (qb_cons qs_never
      (qb_one qs_never)) qb_nil)
      (qb_cons (qs_if (qt_val (qe_callB (qc_isi (K := K)) (by rfl) T.z_isinstance bt_isinstance (qa_c (qv 1) (qa_c (qe_bltn rfl T.z_bool bt_bool (v := .ty "bool") rfl) qa_nil)))) (qb_one (qs_ret (qe_and (qe_callB (qc_isi (K := K)) (by rfl) T.z_isinstance bt_isinstance (qa_c (qv 0) (qa_c (qe_bltn rfl T.z_bool bt_bool (v := .ty "bool") rfl) qa_nil))) (qe_one (qe_cmpR q_eq (qv 0) (qv 1) (nomark _)))))) qb_nil)
      (qb_cons (qs_if (qt_val (qe_callB (qc_isi (K := K)) (by rfl) T.z_isinstance bt_isinstance (qa_c (qv 1) (qa_c (qe_bltn rfl T.z_str bt_str (v := .ty "str") rfl) qa_nil)))) (qb_one (qs_ret (qe_and (qe_callB (qc_isi (K := K)) (by rfl) T.z_isinstance bt_isinstance (qa_c (qv 0) (qa_c (qe_bltn rfl T.z_str bt_str (v := .ty "str") rfl) qa_nil))) (qe_one (qe_cmpR q_eq (qv 0) (qv 1) (nomark _)))))) qb_nil)
      (qb_one (qs_ret (qe_and (qe_callB (qc_isi (K := K)) (by rfl) T.z_isinstance bt_isinstance (qa_c (qv 0) (qa_c (qe_bltn rfl T.z_int bt_int (v := .ty "int") rfl) qa_nil))) (qe_and (qe_not (qe_callB (qc_isi (K := K)) (by rfl) T.z_isinstance bt_isinstance (qa_c (qv 0) (qa_c (qe_bltn rfl T.z_bool bt_bool (v := .ty "bool") rfl) qa_nil)))) (qe_one (qe_cmpR q_eq (qv 0) (qv 1) (nomark _))))))))))), ?_⟩
        rw [show L2.start ["_law_found", "_law_due"] [V.int i, V.int i] = [some (V.int i), some (V.int i)] from rfl]
        walk_at "fs_rd"
        refine in_neg (fun h => by cases h) ?_
        walk_at "fs_rd"
        refine ⟨three (by simp), fun tp htp => ?_⟩
        walk_at "fs_rd"
        refine in_isiTI upd_same ?_
        walk_at "fs_rd"
        rw [decide_eq_true rfl]
        exact k _ ((Same.refl H).new htp)
      · refine ⟨_, (qb_cons (qs_if (qt_cmpR q_isN (qv 1) qe_non (nomark _)) (qb_one (qs_ret (qe_cmpR q_isN (qv 0) qe_non (nomark _)))) qb_nil)
      (qb_cons (qs_if (qt_val (qe_callB (qc_isiT (K := K)) (by rfl) T.z_isinstance bt_isinstance (qa_c (qv 1) (qa_c (qe_tup (qa_c (qe_bltn rfl T.z_list bt_list (v := .ty "list") rfl) (qa_c (qe_bltn rfl T.z_tuple bt_tuple (v := .ty "tuple") rfl) qa_nil))) qa_nil)))) (qb_cons (qs_if (QW.qt (qw_or (qt_cmpR q_ne (qe_callB (qc_isi (K := K)) (by rfl) T.z_isinstance bt_isinstance (qa_c (qv 0) (qa_c (qe_bltn rfl T.z_list bt_list (v := .ty "list") rfl) qa_nil))) (qe_callB (qc_isi (K := K)) (by rfl) T.z_isinstance bt_isinstance (qa_c (qv 1) (qa_c (qe_bltn rfl T.z_list bt_list (v := .ty "list") rfl) qa_nil))) (nomark _)) (qw_or1 (qt_cmpR q_ne (qe_callB (qc_isi (K := K)) (by rfl) T.z_isinstance bt_isinstance (qa_c (qv 0) (qa_c (qe_bltn rfl T.z_tuple bt_tuple (v := .ty "tuple") rfl) qa_nil))) (qe_callB (qc_isi (K := K)) (by rfl) T.z_isinstance bt_isinstance (qa_c (qv 1) (qa_c (qe_bltn rfl T.z_tuple bt_tuple (v := .ty "tuple") rfl) qa_nil))) (nomark _))))) (qb_one (qs_ret qe_bl)) qb_nil)
      (qb_one (qs_ret (qe_and (qe_cmpR q_eq (qe_callB (qc_len (K := K)) (by rfl) T.z_len bt_len (qa_c (qv 0) qa_nil)) (qe_callB (qc_len (K := K)) (by rfl) T.z_len bt_len (qa_c (qv 1) qa_nil)) (nomark _)) (qe_one (qe_callB (qc_all (K := K) rfl) (by rfl) T.z_all bt_all (qa_c (qe_comp (N := ["_law_one", "_law_other"]) (tgs := ["_law_one", "_law_other"]) (frs := []) (ix := []) ⟨rfl, by decide +kernel, rfl, by decide +kernel, rfl, rfl, True.intro, True.intro, rfl⟩ rfl (qi_zip (K := K) rfl T.z_zip (qa_c (qv 0) (qa_c (qv 1) qa_nil))) (fun _ _ _ _ => (qg_tup (K := K) (n := 2) rfl (qgs_cons (qg_name (i := 0) (by show List.Nodup (["_law_one", "_law_other"] : List Str); decide +kernel) rfl (Or.inl rfl)) (qgs_cons (qg_name (i := 1) (by show List.Nodup (["_law_one", "_law_other"] : List Str); decide +kernel) rfl (Or.inl rfl)) qgs_nil)))) (fun _ _ _ _ => (qe_call (recN T) (hr.mono (by first | decide | omega)) rfl T.m_same T.F_same.kp T.b_same pass0 (qa_c (qv 0) (qa_c (qv 1) qa_nil))))) qa_nil))))))) qb_nil)
      (qb_cons (qs_if (qt_val (qe_callB (qc_isi (K := K)) (by rfl) T.z_isinstance bt_isinstance (qa_c (qv 1) (qa_c (qe_bltn rfl T.z_bool bt_bool (v := .ty "bool") rfl) qa_nil)))) (qb_one (qs_ret (qe_and (qe_callB (qc_isi (K := K)) (by rfl) T.z_isinstance bt_isinstance (qa_c (qv 0) (qa_c (qe_bltn rfl T.z_bool bt_bool (v := .ty "bool") rfl) qa_nil))) (qe_one (qe_cmpR (q_eqL (K := K) hr.units0) (qv 0) (qv 1) (nomark _)))))) qb_nil)
      (qb_cons (qs_if (qt_val (qe_callB (qc_isi (K := K)) (by rfl) T.z_isinstance bt_isinstance (qa_c (qv 1) (qa_c (qe_bltn rfl T.z_str bt_str (v := .ty "str") rfl) qa_nil)))) (qb_one (qs_ret (qe_and (qe_callB (qc_isi (K := K)) (by rfl) T.z_isinstance bt_isinstance (qa_c (qv 0) (qa_c (qe_bltn rfl T.z_str bt_str (v := .ty "str") rfl) qa_nil))) (qe_one (qe_cmpR (q_eqL (K := K) hr.units0) (qv 0) (qv 1) (nomark _)))))) qb_nil)
      (qb_one (qs_ret (qe_and (qe_callB (qc_isi (K := K)) (by rfl) T.z_isinstance bt_isinstance (qa_c (qv 0) (qa_c (qe_bltn rfl T.z_int bt_int (v := .ty "int") rfl) qa_nil))) (qe_and (qe_not (qe_callB (qc_isi (K := K)) (by rfl) T.z_isinstance bt_isinstance (qa_c (qv 0) (qa_c (qe_bltn rfl T.z_bool bt_bool (v := .ty "bool") rfl) qa_nil)))) (qe_one (qe_cmpR (q_eqL (K := K) hr.units0) (qv 0) (qv 1) (nomark _))))))))))), ?_⟩
        rw [show L2.start ["_law_found", "_law_due"] [V.ref a, V.ref c] = [some (V.ref a), some (V.ref c)] from rfl]
        walk_at "fs_rd"
        refine in_neg (fun h => by cases h) ?_
        walk_at "fs_rd"
        refine ⟨three (by simp), fun tp htp => ?_⟩
        have s1 := (Same.refl H).new (o := .tup [V.ty "list", V.ty "tuple"]) htp
        have ttp : (upd H tp (.tup [V.ty "list", V.ty "tuple"])) tp = some (.tup [V.ty "list", V.ty "tuple"]) := upd_same
        generalize upd H tp (.tup [V.ty "list", V.ty "tuple"]) = H1 at s1 ttp
        have ta1 := s1 _ _ ta
        have tc1 := s1 _ _ tc
        walk_at "fs_rd"
        refine in_isiTL tc1 ttp ?_
        walk_at "fs_rd"
        refine in_isiLL ta1 ?_
        walk_at "fs_rd"
        refine in_isiLL tc1 ?_
        walk_at "fs_rd"
        refine in_npos rfl ?_
        walk_at "fs_rd"
        refine in_isiLT ta1 ?_
        walk_at "fs_rd"
        refine in_isiLT tc1 ?_
        walk_at "fs_rd"
        refine in_npos rfl ?_
        walk_at "fs_rd"
        refine in_lenL (SqL.of ta1) ?_
        walk_at "fs_rd"
        refine in_lenL (SqL.of tc1) ?_
        walk_at "fs_rd"
        refine in_pos (by rw [hl]) ?_
        walk_at "fs_rd"
        refine ⟨a, c, rfl, ⟨_, SqL.of ta1⟩, ⟨_, SqL.of tc1⟩, comp_gen (n := xs.length) (fun i ys σ H2 => Same H1 H2 ∧ ys = List.replicate i (V.bl true) ∧ ∃ v w, σ = [v, w]) (small1000 (by omega)) (fun i ys σ H2 h => by rw [h.2.1, List.length_replicate]) ⟨Same.refl _, rfl, none, none, rfl⟩ ?_ ?_ ?_ ?_⟩
        · rintro i zs σ H2 hi ⟨s2, _⟩
          exact ⟨_, _, xs[i], ys[i]'(by omega), SqL.of (s2 _ _ ta1), SqL.of (s2 _ _ tc1), by simp [hi], List.getElem?_eq_getElem _⟩
        · rintro zs σ H2 ⟨s2, _⟩
          exact ⟨_, _, SqL.of (s2 _ _ ta1), SqL.of (s2 _ _ tc1), .inl (Nat.le_refl _)⟩
        · rintro i x zs σ H2 H3 hi' ⟨s2, rfl, v, w, rfl⟩ ⟨p, x1, y1, rfl, hp, rfl, hx1, hy1⟩
          have hx2 := hx1 _ (SqL.of (s2 _ _ ta1))
          have hy2 := hy1 _ (SqL.of (s2 _ _ tc1))
          refine in_gtup2 upd_same ?_
          dsimp only [List.set]
          walk_at "fs_rd"
          refine ⟨_, _, rfl, (hi i x1 y1 hx2 hy2).same ((s1.trans s2).new hp), fun H4 s4 => ?_⟩
          exact Nx.mk hi' ⟨(s2.new hp).trans s4, by rw [List.replicate_succ'], _, _, rfl⟩
        · rintro zs σ H2 ⟨s2, rfl, v, w, rfl⟩ l hl
          walk_at "fs_rd"
          rw [← List.map_replicate]
          refine in_all (SqL.of upd_same) ?_
          have ea : (List.replicate xs.length true).all id = true := by rw [List.all_eq_true]; intro x hx; rw [List.eq_of_mem_replicate hx]; rfl
          rw [ea]
          exact k _ ((s1.trans s2).new hl)
      · refine ⟨_, (qb_cons (qs_if (qt_cmpR q_isN (qv 1) qe_non (nomark _)) (qb_one (qs_ret (qe_cmpR q_isN (qv 0) qe_non (nomark _)))) qb_nil)
      (qb_cons (qs_if (qt_val (qe_callB (qc_isiT (K := K)) (by rfl) T.z_isinstance bt_isinstance (qa_c (qv 1) (qa_c (qe_tup (qa_c (qe_bltn rfl T.z_list bt_list (v := .ty "list") rfl) (qa_c (qe_bltn rfl T.z_tuple bt_tuple (v := .ty "tuple") rfl) qa_nil))) qa_nil)))) (qb_cons (qs_if (QW.qt (qw_or (qt_cmpR q_ne (qe_callB (qc_isi (K := K)) (by rfl) T.z_isinstance bt_isinstance (qa_c (qv 0) (qa_c (qe_bltn rfl T.z_list bt_list (v := .ty "list") rfl) qa_nil))) (qe_callB (qc_isi (K := K)) (by rfl) T.z_isinstance bt_isinstance (qa_c (qv 1) (qa_c (qe_bltn rfl T.z_list bt_list (v := .ty "list") rfl) qa_nil))) (nomark _)) (qw_or1 (qt_cmpR q_ne (qe_callB (qc_isi (K := K)) (by rfl) T.z_isinstance bt_isinstance (qa_c (qv 0) (qa_c (qe_bltn rfl T.z_tuple bt_tuple (v := .ty "tuple") rfl) qa_nil))) (qe_callB (qc_isi (K := K)) (by rfl) T.z_isinstance bt_isinstance (qa_c (qv 1) (qa_c (qe_bltn rfl T.z_tuple bt_tuple (v := .ty "tuple") rfl) qa_nil))) (nomark _))))) (qb_one (qs_ret qe_bl)) qb_nil)
      (qb_one (qs_ret (qe_and (qe_cmpR q_eq (qe_callB (qc_len (K := K)) (by rfl) T.z_len bt_len (qa_c (qv 0) qa_nil)) (qe_callB (qc_len (K := K)) (by rfl) T.z_len bt_len (qa_c (qv 1) qa_nil)) (nomark _)) (qe_one (qe_callB (qc_all (K := K) rfl) (by rfl) T.z_all bt_all (qa_c (qe_comp (N := ["_law_one", "_law_other"]) (tgs := ["_law_one", "_law_other"]) (frs := []) (ix := []) ⟨rfl, by decide +kernel, rfl, by decide +kernel, rfl, rfl, True.intro, True.intro, rfl⟩ rfl (qi_zipT (K := K) rfl T.z_zip (qa_c (qv 0) (qa_c (qv 1) qa_nil))) (fun _ _ _ _ => (qg_tup (K := K) (n := 2) rfl (qgs_cons (qg_name (i := 0) (by show List.Nodup (["_law_one", "_law_other"] : List Str); decide +kernel) rfl (Or.inl rfl)) (qgs_cons (qg_name (i := 1) (by show List.Nodup (["_law_one", "_law_other"] : List Str); decide +kernel) rfl (Or.inl rfl)) qgs_nil)))) (fun _ _ _ _ => (qe_call (recN T) (hr.mono (by first | decide | omega)) rfl T.m_same T.F_same.kp T.b_same pass0 (qa_c (qv 0) (qa_c (qv 1) qa_nil))))) qa_nil))))))) qb_nil)
      (qb_cons (qs_if (qt_val (qe_callB (qc_isi (K := K)) (by rfl) T.z_isinstance bt_isinstance (qa_c (qv 1) (qa_c (qe_bltn rfl T.z_bool bt_bool (v := .ty "bool") rfl) qa_nil)))) (qb_one (qs_ret (qe_and (qe_callB (qc_isi (K := K)) (by rfl) T.z_isinstance bt_isinstance (qa_c (qv 0) (qa_c (qe_bltn rfl T.z_bool bt_bool (v := .ty "bool") rfl) qa_nil))) (qe_one (qe_cmpR (q_eqT (K := K) hr.units0) (qv 0) (qv 1) (nomark _)))))) qb_nil)
      (qb_cons (qs_if (qt_val (qe_callB (qc_isi (K := K)) (by rfl) T.z_isinstance bt_isinstance (qa_c (qv 1) (qa_c (qe_bltn rfl T.z_str bt_str (v := .ty "str") rfl) qa_nil)))) (qb_one (qs_ret (qe_and (qe_callB (qc_isi (K := K)) (by rfl) T.z_isinstance bt_isinstance (qa_c (qv 0) (qa_c (qe_bltn rfl T.z_str bt_str (v := .ty "str") rfl) qa_nil))) (qe_one (qe_cmpR (q_eqT (K := K) hr.units0) (qv 0) (qv 1) (nomark _)))))) qb_nil)
      (qb_one (qs_ret (qe_and (qe_callB (qc_isi (K := K)) (by rfl) T.z_isinstance bt_isinstance (qa_c (qv 0) (qa_c (qe_bltn rfl T.z_int bt_int (v := .ty "int") rfl) qa_nil))) (qe_and (qe_not (qe_callB (qc_isi (K := K)) (by rfl) T.z_isinstance bt_isinstance (qa_c (qv 0) (qa_c (qe_bltn rfl T.z_bool bt_bool (v := .ty "bool") rfl) qa_nil)))) (qe_one (qe_cmpR (q_eqT (K := K) hr.units0) (qv 0) (qv 1) (nomark _))))))))))), ?_⟩
        rw [show L2.start ["_law_found", "_law_due"] [V.ref a, V.ref c] = [some (V.ref a), some (V.ref c)] from rfl]
        walk_at "fs_rd"
        refine in_neg (fun h => by cases h) ?_
        walk_at "fs_rd"
        refine ⟨three (by simp), fun tp htp => ?_⟩
        have s1 := (Same.refl H).new (o := .tup [V.ty "list", V.ty "tuple"]) htp
        have ttp : (upd H tp (.tup [V.ty "list", V.ty "tuple"])) tp = some (.tup [V.ty "list", V.ty "tuple"]) := upd_same
        generalize upd H tp (.tup [V.ty "list", V.ty "tuple"]) = H1 at s1 ttp
        have ta1 := s1 _ _ ta
        have tc1 := s1 _ _ tc
        walk_at "fs_rd"
        refine in_isiTT2 tc1 ttp ?_
        walk_at "fs_rd"
        refine in_isiTLf ta1 ?_
        walk_at "fs_rd"
        refine in_isiTLf tc1 ?_
        walk_at "fs_rd"
        refine in_npos rfl ?_
        walk_at "fs_rd"
        refine in_isiTT ta1 ?_
        walk_at "fs_rd"
        refine in_isiTT tc1 ?_
        walk_at "fs_rd"
        refine in_npos rfl ?_
        walk_at "fs_rd"
        refine in_lenT (SqT.of ta1) ?_
        walk_at "fs_rd"
        refine in_lenT (SqT.of tc1) ?_
        walk_at "fs_rd"
        refine in_pos (by rw [hl]) ?_
        walk_at "fs_rd"
        refine ⟨a, c, rfl, ⟨_, SqT.of ta1⟩, ⟨_, SqT.of tc1⟩, comp_gen (n := xs.length) (fun i ys σ H2 => Same H1 H2 ∧ ys = List.replicate i (V.bl true) ∧ ∃ v w, σ = [v, w]) (small1000 (by omega)) (fun i ys σ H2 h => by rw [h.2.1, List.length_replicate]) ⟨Same.refl _, rfl, none, none, rfl⟩ ?_ ?_ ?_ ?_⟩
        · rintro i zs σ H2 hi ⟨s2, _⟩
          exact ⟨_, _, xs[i], ys[i]'(by omega), SqT.of (s2 _ _ ta1), SqT.of (s2 _ _ tc1), by simp [hi], List.getElem?_eq_getElem _⟩
        · rintro zs σ H2 ⟨s2, _⟩
          exact ⟨_, SqT.of (s2 _ _ ta1), Nat.le_refl _⟩
        · rintro i x zs σ H2 H3 hi' ⟨s2, rfl, v, w, rfl⟩ ⟨p, x1, y1, rfl, hp, rfl, hx1, hy1⟩
          have hx2 := hx1 _ (SqT.of (s2 _ _ ta1))
          have hy2 := hy1 _ (SqT.of (s2 _ _ tc1))
          refine in_gtup2 upd_same ?_
          dsimp only [List.set]
          walk_at "fs_rd"
          refine ⟨_, _, rfl, (hi i x1 y1 hx2 hy2).same ((s1.trans s2).new hp), fun H4 s4 => ?_⟩
          exact Nx.mk hi' ⟨(s2.new hp).trans s4, by rw [List.replicate_succ'], _, _, rfl⟩
        · rintro zs σ H2 ⟨s2, rfl, v, w, rfl⟩ l hl
          walk_at "fs_rd"
          rw [← List.map_replicate]
          refine in_all (SqL.of upd_same) ?_
          have ea : (List.replicate xs.length true).all id = true := by rw [List.all_eq_true]; intro x hx; rw [List.eq_of_mem_replicate hx]; rfl
          rw [ea]
          exact k _ ((s1.trans s2).new hl)
theorem ok_same (T : Tx K mg t) : FnOk P w K mg t.bs CX0 5 t.f_same t.d_same ["_law_found", "_law_due"] (spSm 4) := ok_sameN T 4

noncomputable def spSome : Sp := fun vs H Q _ => ∃ (p : Addr) (n : Nat), vs = [.ref p, .int n] ∧ Tp2 H p ∧ n ≤ 60 ∧ ∀ (l : Addr) (os : List Nat) H', os.Perm (List.range n) → St2 p H H' → H l = none → H' l = some (.lst (NV os)) → Q (.ref l) H'
theorem perm_set2 {os : List Nat} {a b n : Nat} (h : os.Perm (List.range n)) (ha : a < os.length) (hb : b < os.length) : ((os.set a os[b]).set b os[a]).Perm (List.range n) := by
  refine List.Perm.trans ?_ h
  rw [List.perm_iff_count]
  intro x
  rw [List.count_set (by simpa using hb), List.count_set (by simpa using ha), List.getElem_set]
  have h1 : ∀ {i : Nat} (hi : i < os.length), os[i] = x → 0 < os.count x := fun hi e => List.count_pos_iff.mpr (e ▸ List.getElem_mem hi)
  by_cases e1 : os[a] = x
  · have := h1 ha e1
    by_cases e2 : os[b] = x
    · split <;> simp_all <;> omega
    · split <;> simp_all <;> omega
  · by_cases e2 : os[b] = x
    · have := h1 hb e2
      split <;> simp_all <;> omega
    · split <;> simp_all
theorem ok_some_order (T : Tx K mg t) : FnOk P w K mg t.bs CX0 2 t.f_some_order t.d_some_order ["_law_tape_here", "_law_many_here"] spSome := by
  refine T.F_some_order.okQ sc_some_order (fun vs H Q E h => ?_) (fun cdv A outer s H vs Q E hr h => ?_)
  · obtain ⟨p, n, rfl, _⟩ := h
    rfl
  · obtain ⟨p, n, rfl, hT, hn, k⟩ := h
    refine ⟨_, (qb_cons (qs_set (i := 2) sc_some_order.nd rfl (Or.inl rfl) (qe_lrng1 rfl rfl T.z_list rfl T.z_range (qa_c (qv 1) qa_nil)))
      (qb_cons (qs_set (i := 3) sc_some_order.nd rfl (Or.inl rfl) (qe_call (ok_draw T) (hr.mono (by decide)) rfl T.m_draw T.F_draw.kp T.b_draw pass0 (qa_c (qv 0) (qa_c qe_int qa_nil))))
      (qb_cons (qs_if (qt_cmpR q_eq (qv 3) qe_int (nomark _)) (qb_one (qs_ret (qv 2))) qb_nil)
      (qb_cons (qs_if (qt_cmpR q_eq (qv 3) qe_int (nomark _)) (qb_one (qs_ret (qe_rev (K := K) (qv 2)))) qb_nil)
      (qb_cons (qs_if (QW.qt (qw_and (qt_cmpR q_eq (qv 3) qe_int (nomark _)) (qw_and1 (qt_cmpR q_gt (qv 1) qe_int (nomark _))))) (qb_cons (qs_par rfl sc_some_order.nd (i := 4) (j := 5) rfl rfl (by decide) rfl rfl (qa_c (qe_call (ok_draw T) (hr.mono (by decide)) rfl T.m_draw T.F_draw.kp T.b_draw pass0 (qa_c (qv 0) (qa_c (qv 1) qa_nil))) (qa_c (qe_call (ok_draw T) (hr.mono (by decide)) rfl T.m_draw T.F_draw.kp T.b_draw pass0 (qa_c (qv 0) (qa_c (qv 1) qa_nil))) qa_nil)))
      (qb_cons (qs_asgT (qe_tup (qa_c (qe_ix (q_ixL (K := K)) (qv 2) (qv 5)) (qa_c (qe_ix (q_ixL (K := K)) (qv 2) (qv 4)) qa_nil))) (qg_tup (K := K) (n := 2) rfl (qgs_cons (qg_sub (qv 2) (qv 4)) (qgs_cons (qg_sub (qv 2) (qv 5)) qgs_nil))))
      (qb_one (qs_ret (qv 2))))) qb_nil)
      (qb_cons (qs_set (i := 6) sc_some_order.nd rfl (Or.inl rfl) (qe_lst qa_nil))
      (qb_cons (qs_while PassesOwn.never (qt_cmpR (q_neL (K := K) hr.units0) (qv 2) (qe_lst qa_nil) (nomark _)) (qb_one (qs_expr (qe_append (K := K) (qv 6) (qa_c (qe_popAt (K := K) (qv 2) (qa_c (qe_call (ok_draw T) (hr.mono (by decide)) rfl T.m_draw T.F_draw.kp T.b_draw pass0 (qa_c (qv 0) (qa_c (qe_callB (qc_len (K := K)) (by rfl) T.z_len bt_len (qa_c (qv 2) qa_nil)) qa_nil))) qa_nil)) qa_nil)))))
      (qb_one (qs_ret (qv 6)))))))))), ?_⟩
    rw [show L2.start ["_law_tape_here", "_law_many_here", "_law_left", "_law_way", "_law_a", "_law_b", "_law_found"] [V.ref p, V.int n] = [some (V.ref p), some (V.int n), none, none, none, none, none] from rfl]
    walk_at "fs_rd"
    refine ⟨n, rfl, by omega, fun l hl => ?_⟩
    rw [natsV_NV]
    have er : ((List.range n).map fun i => 0 + i) = List.range n := by simp
    rw [er]
    have hlp := hT.ne hl
    have S1 := (St2.refl hT).new (o := .lst (NV (List.range n))) hl
    have t1 : (upd H l (.lst (NV (List.range n)))) l = some (.lst (NV (List.range n))) := upd_same
    generalize upd H l (.lst (NV (List.range n))) = H1 at S1 t1
    walk_at "fs_rd"
    refine ⟨p, 6, rfl, S1.tape, by decide, by decide, fun w H2 hw S2 => ?_⟩
    have t2 := S2.keep _ _ t1 hlp
    have S12 := S1.trans S2
    walk_at "fs_rd"
    refine in_split (fun g0 => ?_) (fun g0 => ?_)
    · walk_at "fs_rd"
      exact k l _ H2 (List.Perm.refl _) S12 hl t2
    walk_at "fs_rd"
    refine in_split (fun g1 => ?_) (fun g1 => ?_)
    · walk_at "fs_rd"
      refine ⟨l, _, rfl, SqL.of t2, fun r hr => ?_⟩
      rw [NV_rev]
      exact k r _ _ (List.reverse_perm _) (S12.new hr) (S12.free hr) upd_same
    walk_at "fs_rd"
    refine in_conv (fun g2 rest => ?_) ?_
    · walk_at "fs_rd"
      refine in_split (fun g3 => ?_) (fun _ => rest)
      walk_at "fs_rd"
      refine ⟨p, n, rfl, S12.tape, by omega, by omega, fun a H3 ha S3 => ?_⟩
      walk_at "fs_rd"
      refine ⟨p, n, rfl, S3.tape, by omega, by omega, fun b H4 hb S4 => ?_⟩
      have t4 := S4.keep _ _ (S3.keep _ _ t2 hlp) hlp
      have ha' : a < (List.range n).length := by simp; omega
      have hb' : b < (List.range n).length := by simp; omega
      have S14 := (S12.trans S3).trans S4
      walk_at "fs_rd"
      refine in_ix (SqL.of t4) (NV_at rfl (o := (List.range n)[b]) (List.getElem?_eq_getElem hb')) ?_
      walk_at "fs_rd"
      refine in_ix (SqL.of t4) (NV_at rfl (o := (List.range n)[a]) (List.getElem?_eq_getElem ha')) ?_
      walk_at "fs_rd"
      refine ⟨three (by simp), fun t ht => ?_⟩
      have hlt : l ≠ t := ne_of_none t4 ht
      have S5 := S14.new (o := .tup [V.int ((List.range n)[b] : Nat), V.int ((List.range n)[a] : Nat)]) ht
      have t5 : (upd H4 t (.tup [V.int ((List.range n)[b] : Nat), V.int ((List.range n)[a] : Nat)])) l = some (.lst (NV (List.range n))) := by rw [upd_ne hlt]; exact t4
      refine ⟨t, _, rfl, SqT.of upd_same, rfl, _, _, rfl, ?_⟩
      generalize upd H4 t (.tup [V.int ((List.range n)[b] : Nat), V.int ((List.range n)[a] : Nat)]) = H5 at S5 t5
      walk_at "fs_rd"
      refine in_set t5 (ixN_of rfl (by rw [NV_len]; exact ha')) ?_
      rw [NV_set]
      have S6 := S5.own (o := .lst (NV ((List.range n).set a (List.range n)[b]))) hl hlp
      have t6 : (upd H5 l (.lst (NV ((List.range n).set a (List.range n)[b])))) l = some (.lst (NV ((List.range n).set a (List.range n)[b]))) := upd_same
      generalize upd H5 l (.lst (NV ((List.range n).set a (List.range n)[b]))) = H6 at S6 t6
      refine ⟨_, _, rfl, ?_⟩
      walk_at "fs_rd"
      refine in_set t6 (ixN_of rfl (by rw [NV_len, List.length_set]; exact hb')) ?_
      rw [NV_set]
      refine ⟨rfl, ?_⟩
      walk_at "fs_rd"
      exact k l _ _ (perm_set2 (List.Perm.refl _) ha' hb') (S6.own hl hlp) hl upd_same
    walk_at "fs_rd"
    refine ⟨three (by simp), fun f hf => ?_⟩
    have hfn : H f = none := S12.free hf
    have hfp : f ≠ p := S12.tape.ne hf
    have hlf : l ≠ f := ne_of_none t2 hf
    have S3 := S12.new (o := .lst []) hf
    have tf : (upd H2 f (.lst [])) f = some (.lst (NV [])) := upd_same
    have t3 : (upd H2 f (.lst [])) l = some (.lst (NV (List.range n))) := by rw [upd_ne hlf]; exact t2
    generalize upd H2 f (.lst []) = H3 at S3 tf t3
    walk_at "fs_rd"
    refine ⟨fun c σ H5 => ∃ (lf os : List Nat), St2 p H H5 ∧ H5 l = some (.lst (NV lf)) ∧ H5 f = some (.lst (NV os)) ∧ lf.length = c ∧ (os ++ lf).Perm (List.range n) ∧ ∃ v1 v2 v3, σ = [some (V.ref p), some (V.int n), some (V.ref l), v1, v2, v3, some (V.ref f)], ⟨n, _, [], S3, t3, tf, by simp, List.Perm.refl _, _, _, _, rfl⟩, ?_⟩
    rintro c σ H5 ⟨lf, os, S5, t5, tf5, rfl, hP, v1, v2, v3, rfl⟩
    walk_at "fs_rd"
    refine ⟨three (by simp), fun e he => ?_⟩
    have S6 := S5.new (o := .lst []) he
    have te : (upd H5 e (.lst [])) e = some (.lst (([] : List Int).map V.int)) := upd_same
    have t6 : (upd H5 e (.lst [])) l = some (.lst (NV lf)) := by rw [upd_ne (ne_of_none t5 he)]; exact t5
    have tf6 : (upd H5 e (.lst [])) f = some (.lst (NV os)) := by rw [upd_ne (ne_of_none tf5 he)]; exact tf5
    generalize upd H5 e (.lst []) = H6 at S6 te t6 tf6
    refine in_neL (ns := lf.map fun o : Nat => (o : Int)) (SqL.of (by rw [← NV_int]; exact t6)) (SqL.of te) ?_
    walk_at "fs_rd"
    have hpl := hP.length_eq
    rw [List.length_append, List.length_range] at hpl
    refine in_nsplit (fun g5 => ?_) (fun g5 => ?_)
    · refine ⟨_, fun _ _ z => z, ?_⟩
      have hlp0 : 0 < lf.length := List.length_pos_iff.mpr fun z => g5 (by rw [z]; rfl)
      walk_at "fs_rd"
      refine ⟨ty_list tf6, ?_⟩
      walk_at "fs_rd"
      refine ⟨ty_list t6, ?_⟩
      walk_at "fs_rd"
      refine in_lenL (SqL.of t6) ?_
      rw [NV_len]
      walk_at "fs_rd"
      refine ⟨p, _, rfl, S6.tape, by omega, by omega, fun r H7 hr S7 => ?_⟩
      have t7 := S7.keep _ _ t6 hlp
      have tf7 := S7.keep _ _ tf6 hfp
      have hr' : r < lf.length := by omega
      walk_at "fs_rd"
      refine in_popAt t7 rfl (by omega) (NV_get (o := lf[r]) (by simp [hr'])) ?_
      rw [NV_erase]
      have S8 := (S6.trans S7).own (o := .lst (NV (lf.eraseIdx r))) hl hlp
      have t8 : (upd H7 l (.lst (NV (lf.eraseIdx r)))) l = some (.lst (NV (lf.eraseIdx r))) := upd_same
      have tf8 : (upd H7 l (.lst (NV (lf.eraseIdx r)))) f = some (.lst (NV os)) := by rw [upd_ne (Ne.symm hlf)]; exact tf7
      generalize upd H7 l (.lst (NV (lf.eraseIdx r))) = H8 at S8 t8 tf8
      walk_at "fs_rd"
      refine in_append tf8 (by rw [NV_len]; exact small1000 (by omega)) ?_
      rw [NV_snoc]
      refine ⟨(lf.eraseIdx r).length, by rw [List.length_eraseIdx_of_lt hr']; omega, lf.eraseIdx r, os ++ [lf[r]], S8.own hfn hfp, by rw [upd_ne hlf]; exact t8, upd_same, rfl, perm_pop hr' hP, _, _, _, rfl⟩
    · walk_at "fs_rd"
      have e0 : lf = [] := NV_nil g5
      subst e0
      rw [List.append_nil] at hP
      exact k f os H6 hP S6 hfn tf6

noncomputable def spIsOrd : Sp := fun vs H Q _ => ∃ (a : Addr) (os : List Nat) (n : Nat), vs = [.ref a] ∧ (H a = some (.lst (NV os)) ∨ H a = some (.tup (NV os))) ∧ Ord os n ∧ n ≤ 60 ∧ ∀ H', Same H H' → Q (.bl true) H'
theorem ok_is_order (T : Tx K mg t) : FnOk P w K mg t.bs CX0 1 t.f_is_order t.d_is_order ["thing"] spIsOrd := by
  refine T.F_is_order.okQ sc_is_order (fun vs H Q E h => ?_) (fun cdv A outer s H vs Q E hr h => ?_)
  · obtain ⟨a, os, n, rfl, _⟩ := h
    rfl
  · obtain ⟨a, os, n, rfl, hs, hO, hn, k⟩ := h
    have hlen := hO.len
    rcases hs with ta | ta
    · refine ⟨_, (qb_cons (qs_if (qt_not (qt_val (qe_callB (qc_isiT (K := K)) (by rfl) T.z_isinstance bt_isinstance (qa_c (qv 0) (qa_c (qe_tup (qa_c (qe_bltn rfl T.z_list bt_list (v := .ty "list") rfl) (qa_c (qe_bltn rfl T.z_tuple bt_tuple (v := .ty "tuple") rfl) qa_nil))) qa_nil))))) (qb_one (qs_ret qe_bl)) qb_nil)
      (qb_cons (qs_set (i := 1) sc_is_order.nd rfl (Or.inl rfl) (qe_op q_rep (qe_lst (qa_c qe_bl qa_nil)) (qe_callB (qc_len (K := K)) (by rfl) T.z_len bt_len (qa_c (qv 0) qa_nil))))
      (qb_cons (qs_for PassesOwn.never rfl (qi_list (K := K) (qv 0)) (qg_name (i := 2) sc_is_order.nd rfl (Or.inl rfl)) (qb_cons (qs_if (QW.qt (qw_or (qt_val (qe_callB (qc_isi (K := K)) (by rfl) T.z_isinstance bt_isinstance (qa_c (qv 2) (qa_c (qe_bltn rfl T.z_bool bt_bool (v := .ty "bool") rfl) qa_nil)))) (qw_or1 (qt_not (qt_val (qe_callB (qc_isi (K := K)) (by rfl) T.z_isinstance bt_isinstance (qa_c (qv 2) (qa_c (qe_bltn rfl T.z_int bt_int (v := .ty "int") rfl) qa_nil)))))))) (qb_one (qs_ret qe_bl)) qb_nil)
      (qb_cons (qs_if (QW.qt (qw_or (qt_cmpR q_lt (qv 2) qe_int (nomark _)) (qw_or (qt_cmpR q_ge (qv 2) (qe_callB (qc_len (K := K)) (by rfl) T.z_len bt_len (qa_c (qv 0) qa_nil)) (nomark _)) (qw_or1 (qt_val (qe_ix (q_ixL (K := K)) (qv 1) (qv 2))))))) (qb_one (qs_ret qe_bl)) qb_nil)
      (qb_one (qs_sub qe_bl (qv 1) (qv 2))))))
      (qb_one (qs_ret qe_bl))))), ?_⟩
      rw [show L2.start ["thing", "met", "place"] [V.ref a] = [some (V.ref a), none, none] from rfl]
      walk_at "fs_rd"
      refine ⟨three (by simp), fun tp htp => ?_⟩
      have s0 := (Same.refl H).new (o := .tup [V.ty "list", V.ty "tuple"]) htp
      have ttp : (upd H tp (.tup [V.ty "list", V.ty "tuple"])) tp = some (.tup [V.ty "list", V.ty "tuple"]) := upd_same
      generalize upd H tp (.tup [V.ty "list", V.ty "tuple"]) = H0 at s0 ttp
      walk_at "fs_rd"
      refine in_isiTL (s0 _ _ ta) ttp ?_
      walk_at "fs_rd"
      refine ⟨three (by simp), fun q0 hq0 => ?_⟩
      have s1 := s0.new (o := .lst [V.bl false]) hq0
      have t0 : (upd H0 q0 (.lst [V.bl false])) q0 = some (.lst [V.bl false]) := upd_same
      generalize upd H0 q0 (.lst [V.bl false]) = H1 at s1 t0
      walk_at "fs_rd"
      refine in_lenL (SqL.of (s1 _ _ ta)) ?_
      rw [NV_len]
      refine ⟨q0, _, _, rfl, rfl, t0, by omega, by omega, three (by simp; omega), fun m hm => ?_⟩
      have efl : (List.replicate ((os.length : Nat) : Int).toNat [V.bl false]).flatten = (List.replicate os.length false).map V.bl := by
        show (List.replicate os.length [V.bl false]).flatten = _
        rw [List.map_replicate, List.flatten_replicate_singleton]
      rw [efl]
      have s2 := s1.new (o := .lst ((List.replicate os.length false).map V.bl)) hm
      have tm : (upd H1 m (.lst ((List.replicate os.length false).map V.bl))) m = some (.lst ((List.replicate os.length false).map V.bl)) := upd_same
      have hmn : H m = none := s1.free hm
      generalize upd H1 m (.lst ((List.replicate os.length false).map V.bl)) = H2 at s2 tm
      walk_at "fs_rd"
      refine ⟨a, rfl, ⟨_, SqL.of (s2 _ _ ta)⟩, for_list (a := a) (xs := NV os) (fun i σ H' => Same H H' ∧ (∃ met : List Bool, H' m = some (.lst (met.map V.bl)) ∧ met.length = n ∧ ∀ (j x : Nat), os[j]? = some x → met[x]? = some (decide (j < i))) ∧ ∃ v, σ = [some (V.ref a), some (V.ref m), v]) ⟨s2, ⟨_, tm, by simp [hlen], fun j x e => ?_⟩, none, rfl⟩ (fun i σ H' _ h => SqL.of (h.1 _ _ ta)) ?_ ?_⟩
      · have := hO.lt x (List.mem_of_getElem? e)
        rw [List.getElem?_replicate, if_pos (by omega)]; simp
      · rintro i x σ H3 hx ⟨s3, ⟨met, tm3, hml, hmt⟩, v, rfl⟩
        obtain ⟨r, rfl, hr, hrm, hi⟩ := map_get hx
        have hrn := hO.lt r hrm
        have hmr := hmt i r hr
        rw [decide_eq_false (Nat.lt_irrefl i)] at hmr
        walk_at "fs_rd"
        refine in_neg (by omega) ?_
        walk_at "fs_rd"
        refine in_lenL (SqL.of (s3 _ _ ta)) ?_
        rw [NV_len]
        walk_at "fs_rd"
        refine in_neg (by omega) ?_
        walk_at "fs_rd"
        refine in_ix (SqL.of tm3) (atI_nat (by rw [List.getElem?_map, hmr]; rfl)) ?_
        walk_at "fs_rd"
        refine in_set tm3 (ixN_of rfl (by rw [List.length_map]; omega)) ?_
        rw [← List.map_set]
        refine ⟨s3.own hmn, ⟨met.set r true, upd_same, by simpa using hml, fun j x e => ?_⟩, _, rfl⟩
        rw [List.getElem?_set]
        by_cases hrx : r = x
        · subst hrx
          have := hO.inj i j r hr e
          subst this
          rw [if_pos rfl, if_pos (by omega), decide_eq_true (by omega)]
        · rw [if_neg hrx, hmt j x e]
          have : j ≠ i := fun z => hrx (by subst z; rw [hr] at e; exact Option.some.inj e)
          congr 1
          exact decide_eq_decide.mpr (by omega)
      · rintro σ H3 ⟨s3, _, v, rfl⟩
        walk_at "fs_rd"
        exact k H3 s3
    · refine ⟨_, (qb_cons (qs_if (qt_not (qt_val (qe_callB (qc_isiT (K := K)) (by rfl) T.z_isinstance bt_isinstance (qa_c (qv 0) (qa_c (qe_tup (qa_c (qe_bltn rfl T.z_list bt_list (v := .ty "list") rfl) (qa_c (qe_bltn rfl T.z_tuple bt_tuple (v := .ty "tuple") rfl) qa_nil))) qa_nil))))) (qb_one (qs_ret qe_bl)) qb_nil)
      (qb_cons (qs_set (i := 1) sc_is_order.nd rfl (Or.inl rfl) (qe_op q_rep (qe_lst (qa_c qe_bl qa_nil)) (qe_callB (qc_len (K := K)) (by rfl) T.z_len bt_len (qa_c (qv 0) qa_nil))))
      (qb_cons (qs_for PassesOwn.never rfl (qi_tup (K := K) (qv 0)) (qg_name (i := 2) sc_is_order.nd rfl (Or.inl rfl)) (qb_cons (qs_if (QW.qt (qw_or (qt_val (qe_callB (qc_isi (K := K)) (by rfl) T.z_isinstance bt_isinstance (qa_c (qv 2) (qa_c (qe_bltn rfl T.z_bool bt_bool (v := .ty "bool") rfl) qa_nil)))) (qw_or1 (qt_not (qt_val (qe_callB (qc_isi (K := K)) (by rfl) T.z_isinstance bt_isinstance (qa_c (qv 2) (qa_c (qe_bltn rfl T.z_int bt_int (v := .ty "int") rfl) qa_nil)))))))) (qb_one (qs_ret qe_bl)) qb_nil)
      (qb_cons (qs_if (QW.qt (qw_or (qt_cmpR q_lt (qv 2) qe_int (nomark _)) (qw_or (qt_cmpR q_ge (qv 2) (qe_callB (qc_len (K := K)) (by rfl) T.z_len bt_len (qa_c (qv 0) qa_nil)) (nomark _)) (qw_or1 (qt_val (qe_ix (q_ixL (K := K)) (qv 1) (qv 2))))))) (qb_one (qs_ret qe_bl)) qb_nil)
      (qb_one (qs_sub qe_bl (qv 1) (qv 2))))))
      (qb_one (qs_ret qe_bl))))), ?_⟩
      rw [show L2.start ["thing", "met", "place"] [V.ref a] = [some (V.ref a), none, none] from rfl]
      walk_at "fs_rd"
      refine ⟨three (by simp), fun tp htp => ?_⟩
      have s0 := (Same.refl H).new (o := .tup [V.ty "list", V.ty "tuple"]) htp
      have ttp : (upd H tp (.tup [V.ty "list", V.ty "tuple"])) tp = some (.tup [V.ty "list", V.ty "tuple"]) := upd_same
      generalize upd H tp (.tup [V.ty "list", V.ty "tuple"]) = H0 at s0 ttp
      walk_at "fs_rd"
      refine in_isiTT2 (s0 _ _ ta) ttp ?_
      walk_at "fs_rd"
      refine ⟨three (by simp), fun q0 hq0 => ?_⟩
      have s1 := s0.new (o := .lst [V.bl false]) hq0
      have t0 : (upd H0 q0 (.lst [V.bl false])) q0 = some (.lst [V.bl false]) := upd_same
      generalize upd H0 q0 (.lst [V.bl false]) = H1 at s1 t0
      walk_at "fs_rd"
      refine in_lenT (SqT.of (s1 _ _ ta)) ?_
      rw [NV_len]
      refine ⟨q0, _, _, rfl, rfl, t0, by omega, by omega, three (by simp; omega), fun m hm => ?_⟩
      have efl : (List.replicate ((os.length : Nat) : Int).toNat [V.bl false]).flatten = (List.replicate os.length false).map V.bl := by
        show (List.replicate os.length [V.bl false]).flatten = _
        rw [List.map_replicate, List.flatten_replicate_singleton]
      rw [efl]
      have s2 := s1.new (o := .lst ((List.replicate os.length false).map V.bl)) hm
      have tm : (upd H1 m (.lst ((List.replicate os.length false).map V.bl))) m = some (.lst ((List.replicate os.length false).map V.bl)) := upd_same
      have hmn : H m = none := s1.free hm
      generalize upd H1 m (.lst ((List.replicate os.length false).map V.bl)) = H2 at s2 tm
      walk_at "fs_rd"
      refine ⟨a, rfl, ⟨_, SqT.of (s2 _ _ ta)⟩, for_tup (a := a) (xs := NV os) (fun i σ H' => Same H H' ∧ (∃ met : List Bool, H' m = some (.lst (met.map V.bl)) ∧ met.length = n ∧ ∀ (j x : Nat), os[j]? = some x → met[x]? = some (decide (j < i))) ∧ ∃ v, σ = [some (V.ref a), some (V.ref m), v]) ⟨s2, ⟨_, tm, by simp [hlen], fun j x e => ?_⟩, none, rfl⟩ (fun i σ H' _ h => SqT.of (h.1 _ _ ta)) ?_ ?_⟩
      · have := hO.lt x (List.mem_of_getElem? e)
        rw [List.getElem?_replicate, if_pos (by omega)]; simp
      · rintro i x σ H3 hx ⟨s3, ⟨met, tm3, hml, hmt⟩, v, rfl⟩
        obtain ⟨r, rfl, hr, hrm, hi⟩ := map_get hx
        have hrn := hO.lt r hrm
        have hmr := hmt i r hr
        rw [decide_eq_false (Nat.lt_irrefl i)] at hmr
        walk_at "fs_rd"
        refine in_neg (by omega) ?_
        walk_at "fs_rd"
        refine in_lenT (SqT.of (s3 _ _ ta)) ?_
        rw [NV_len]
        walk_at "fs_rd"
        refine in_neg (by omega) ?_
        walk_at "fs_rd"
        refine in_ix (SqL.of tm3) (atI_nat (by rw [List.getElem?_map, hmr]; rfl)) ?_
        walk_at "fs_rd"
        refine in_set tm3 (ixN_of rfl (by rw [List.length_map]; omega)) ?_
        rw [← List.map_set]
        refine ⟨s3.own hmn, ⟨met.set r true, upd_same, by simpa using hml, fun j x e => ?_⟩, _, rfl⟩
        rw [List.getElem?_set]
        by_cases hrx : r = x
        · subst hrx
          have := hO.inj i j r hr e
          subst this
          rw [if_pos rfl, if_pos (by omega), decide_eq_true (by omega)]
        · rw [if_neg hrx, hmt j x e]
          have : j ≠ i := fun z => hrx (by subst z; rw [hr] at e; exact Option.some.inj e)
          congr 1
          exact decide_eq_decide.mpr (by omega)
      · rintro σ H3 ⟨s3, _, v, rfl⟩
        walk_at "fs_rd"
        exact k H3 s3
noncomputable def spChk (K : PySem.W.Frag) : Sp := fun vs H Q _ => ∃ (a : Addr) (os : List Nat) (n : Nat), vs = [.ref a, .int n] ∧ (H a = some (.lst (NV os)) ∨ H a = some (.tup (NV os))) ∧ Ord os n ∧ n ≤ 60 ∧ ∀ H', Same H H' → Q .non H'
theorem ok_check_order (T : Tx K mg t) : FnOk P w K mg t.bs CX0 2 t.f_check_order t.d_check_order ["thing", "many"] (spChk K) := by
  refine T.F_check_order.okQ sc_check_order (fun vs H Q E h => ?_) (fun cdv A outer s H vs Q E hr h => ?_)
  · obtain ⟨a, os, n, rfl, _⟩ := h
    rfl
  · obtain ⟨a, os, n, rfl, hs, hO, hn, k⟩ := h
    refine ⟨_, (qb_one (qs_if (QW.qt (qw_or (qt_not (qt_val (qe_call (ok_is_order T) (hr.mono (by decide)) rfl T.m_is_order T.F_is_order.kp T.b_is_order pass0 (qa_c (qv 0) qa_nil)))) (qw_or1 (qt_cmpR q_ne (qe_callB (qc_len (K := K)) (by rfl) T.z_len bt_len (qa_c (qv 0) qa_nil)) (qv 1) (nomark _))))) (qb_one qs_never) qb_nil)), ?_⟩
    rw [show L2.start ["thing", "many"] [V.ref a, V.int n] = [some (V.ref a), some (V.int n)] from rfl]
    walk_at "fs_rd"
    refine ⟨a, os, n, rfl, hs, hO, hn, fun H1 s1 => ?_⟩
    walk_at "fs_rd"
    refine ⟨a, NV os, rfl, hs.elim (fun h => .inl (SqL.of (s1 _ _ h))) (fun h => .inr (SqT.of (s1 _ _ h))), ?_⟩
    rw [NV_len, hO.len]
    walk_at "fs_rd"
    refine in_npos rfl ?_
    walk_at "fs_rd"
    exact k H1 s1
noncomputable def spBack (K : PySem.W.Frag) : Sp := fun vs H Q _ => ∃ (a : Addr) (os : List Nat) (n : Nat), vs = [.ref a] ∧ (H a = some (.lst (NV os)) ∨ H a = some (.tup (NV os))) ∧ Ord os n ∧ n ≤ 60 ∧ ∀ (l : Addr) (bs : List Nat) H', H l = none → Same H H' → H' l = some (.lst (NV bs)) → Back os bs n → Q (.ref l) H'
theorem ok_back_of (T : Tx K mg t) : FnOk P w K mg t.bs CX0 2 t.f_back_of t.d_back_of ["order"] (spBack K) := by
  refine T.F_back_of.okQ sc_back_of (fun vs H Q E h => ?_) (fun cdv A outer s H vs Q E hr h => ?_)
  · obtain ⟨a, os, n, rfl, _⟩ := h
    rfl
  · obtain ⟨a, os, n, rfl, hta, hO, hn, k⟩ := h
    have hlen := hO.len
    rcases hta with ta | ta
    · refine ⟨_, (qb_cons (qs_if (qt_not (qt_val (qe_call (ok_is_order T) (hr.mono (by decide)) rfl T.m_is_order T.F_is_order.kp T.b_is_order pass0 (qa_c (qv 0) qa_nil)))) (qb_one qs_never) qb_nil)
      (qb_cons (qs_set (i := 1) sc_back_of.nd rfl (Or.inl rfl) (qe_op q_rep (qe_lst (qa_c qe_int qa_nil)) (qe_callB (qc_len (K := K)) (by rfl) T.z_len bt_len (qa_c (qv 0) qa_nil))))
      (qb_cons (qs_for PassesOwn.never rfl (qi_enum_L (K := K) rfl T.z_enumerate (qa_c (qv 0) qa_nil)) (qg_tup (K := K) (n := 2) rfl (qgs_cons (qg_name (i := 2) sc_back_of.nd rfl (Or.inl rfl)) (qgs_cons (qg_name (i := 3) sc_back_of.nd rfl (Or.inl rfl)) qgs_nil))) (qb_one (qs_sub (qv 2) (qv 1) (qv 3))))
      (qb_one (qs_ret (qv 1)))))), ?_⟩
      rw [show L2.start ["order", "back", "at", "place"] [V.ref a] = [some (V.ref a), none, none, none] from rfl]
      walk_at "fs_rd"
      refine ⟨a, os, n, rfl, .inl ta, hO, hn, fun H1 s1 => ?_⟩
      walk_at "fs_rd"
      refine ⟨three (by simp), fun q0 hq0 => ?_⟩
      have s2 := s1.new (o := .lst [V.int 0]) hq0
      have t0 : (upd H1 q0 (.lst [V.int 0])) q0 = some (.lst [V.int 0]) := upd_same
      generalize upd H1 q0 (.lst [V.int 0]) = H2 at s2 t0
      walk_at "fs_rd"
      refine in_lenL (SqL.of (s2 _ _ ta)) ?_
      rw [NV_len, hlen]
      refine ⟨q0, _, _, rfl, rfl, t0, by omega, by omega, three (by simp; omega), fun b hb => ?_⟩
      have efl : (List.replicate ((n : Nat) : Int).toNat [V.int 0]).flatten = NV (List.replicate n 0) := by
        show (List.replicate n [V.int 0]).flatten = _
        rw [List.flatten_replicate_singleton, NV, List.map_replicate]; rfl
      rw [efl]
      have hbn : H b = none := s2.free hb
      have s3 := s2.new (o := .lst (NV (List.replicate n 0))) hb
      have tb : (upd H2 b (.lst (NV (List.replicate n 0)))) b = some (.lst (NV (List.replicate n 0))) := upd_same
      generalize upd H2 b (.lst (NV (List.replicate n 0))) = H3 at s3 tb
      walk_at "fs_rd"
      refine ⟨a, rfl, ⟨_, SqL.of (s3 _ _ ta)⟩, for_gen (n := n) (fun i σ H' => Same H H' ∧ (∃ bs : List Nat, H' b = some (.lst (NV bs)) ∧ bs.length = n ∧ ∀ (j r : Nat), j < i → os[j]? = some r → bs[r]? = some j) ∧ ∃ v w, σ = [some (V.ref a), some (V.ref b), v, w]) ⟨s3, ⟨_, tb, by simp, fun j r h => absurd h (Nat.not_lt_zero _)⟩, none, none, rfl⟩ ?_ ?_ ?_ ?_⟩
      · rintro i σ H4 hi ⟨s4, _⟩
        obtain ⟨r, e, _⟩ := hO.get hi
        exact ⟨_, _, SqL.of (s4 _ _ ta), NV_get e⟩
      · rintro σ H4 ⟨s4, _⟩
        exact ⟨_, SqL.of (s4 _ _ ta), by rw [NV_len]; exact hlen⟩
      · rintro i x σ H4 H5 hi ⟨s4, ⟨bs, tb4, hbl, hbs⟩, v, w, rfl⟩ ⟨q, x1, rfl, hq, rfl, hx1⟩
        obtain ⟨r, e, hrn⟩ := hO.get hi
        have hx2 := hx1 _ (SqL.of (s4 _ _ ta))
        rw [NV_get e] at hx2
        obtain rfl := Option.some.inj hx2
        refine in_gtup2 upd_same ?_
        dsimp only [List.set]
        have s5 := s4.new (o := .tup [V.int (i : Nat), V.int (r : Nat)]) hq
        have tb5 : (upd H4 q (.tup [V.int (i : Nat), V.int (r : Nat)])) b = some (.lst (NV bs)) := by rw [upd_ne (ne_of_none tb4 hq)]; exact tb4
        generalize upd H4 q (.tup [V.int (i : Nat), V.int (r : Nat)]) = H5 at s5 tb5
        walk_at "fs_rd"
        refine in_set tb5 (ixN_of rfl (by rw [NV_len]; omega)) ?_
        rw [NV_set]
        refine ⟨s5.own hbn, ⟨bs.set r i, upd_same, by simpa using hbl, fun j r' hj e' => ?_⟩, _, _, rfl⟩
        rw [List.getElem?_set]
        by_cases hrr : r = r'
        · subst hrr
          rw [if_pos rfl, if_pos (by omega), hO.inj i j r e e']
        · rw [if_neg hrr]
          have : j ≠ i := fun z => hrr (by subst z; rw [e] at e'; exact Option.some.inj e')
          exact hbs j r' (by omega) e'
      · rintro σ H4 ⟨s4, ⟨bs, tb4, hbl, hbs⟩, v, w, rfl⟩
        walk_at "fs_rd"
        exact k b bs H4 hbn s4 tb4 ⟨hbl, fun i r e => hbs i r (by have := get_lt e; omega) e⟩
    · refine ⟨_, (qb_cons (qs_if (qt_not (qt_val (qe_call (ok_is_order T) (hr.mono (by decide)) rfl T.m_is_order T.F_is_order.kp T.b_is_order pass0 (qa_c (qv 0) qa_nil)))) (qb_one qs_never) qb_nil)
      (qb_cons (qs_set (i := 1) sc_back_of.nd rfl (Or.inl rfl) (qe_op q_rep (qe_lst (qa_c qe_int qa_nil)) (qe_callB (qc_len (K := K)) (by rfl) T.z_len bt_len (qa_c (qv 0) qa_nil))))
      (qb_cons (qs_for PassesOwn.never rfl (qi_enum_T (K := K) rfl T.z_enumerate (qa_c (qv 0) qa_nil)) (qg_tup (K := K) (n := 2) rfl (qgs_cons (qg_name (i := 2) sc_back_of.nd rfl (Or.inl rfl)) (qgs_cons (qg_name (i := 3) sc_back_of.nd rfl (Or.inl rfl)) qgs_nil))) (qb_one (qs_sub (qv 2) (qv 1) (qv 3))))
      (qb_one (qs_ret (qv 1)))))), ?_⟩
      rw [show L2.start ["order", "back", "at", "place"] [V.ref a] = [some (V.ref a), none, none, none] from rfl]
      walk_at "fs_rd"
      refine ⟨a, os, n, rfl, .inr ta, hO, hn, fun H1 s1 => ?_⟩
      walk_at "fs_rd"
      refine ⟨three (by simp), fun q0 hq0 => ?_⟩
      have s2 := s1.new (o := .lst [V.int 0]) hq0
      have t0 : (upd H1 q0 (.lst [V.int 0])) q0 = some (.lst [V.int 0]) := upd_same
      generalize upd H1 q0 (.lst [V.int 0]) = H2 at s2 t0
      walk_at "fs_rd"
      refine in_lenT (SqT.of (s2 _ _ ta)) ?_
      rw [NV_len, hlen]
      refine ⟨q0, _, _, rfl, rfl, t0, by omega, by omega, three (by simp; omega), fun b hb => ?_⟩
      have efl : (List.replicate ((n : Nat) : Int).toNat [V.int 0]).flatten = NV (List.replicate n 0) := by
        show (List.replicate n [V.int 0]).flatten = _
        rw [List.flatten_replicate_singleton, NV, List.map_replicate]; rfl
      rw [efl]
      have hbn : H b = none := s2.free hb
      have s3 := s2.new (o := .lst (NV (List.replicate n 0))) hb
      have tb : (upd H2 b (.lst (NV (List.replicate n 0)))) b = some (.lst (NV (List.replicate n 0))) := upd_same
      generalize upd H2 b (.lst (NV (List.replicate n 0))) = H3 at s3 tb
      walk_at "fs_rd"
      refine ⟨a, rfl, ⟨_, SqT.of (s3 _ _ ta)⟩, for_gen (n := n) (fun i σ H' => Same H H' ∧ (∃ bs : List Nat, H' b = some (.lst (NV bs)) ∧ bs.length = n ∧ ∀ (j r : Nat), j < i → os[j]? = some r → bs[r]? = some j) ∧ ∃ v w, σ = [some (V.ref a), some (V.ref b), v, w]) ⟨s3, ⟨_, tb, by simp, fun j r h => absurd h (Nat.not_lt_zero _)⟩, none, none, rfl⟩ ?_ ?_ ?_ ?_⟩
      · rintro i σ H4 hi ⟨s4, _⟩
        obtain ⟨r, e, _⟩ := hO.get hi
        exact ⟨_, _, SqT.of (s4 _ _ ta), NV_get e⟩
      · rintro σ H4 ⟨s4, _⟩
        exact ⟨_, SqT.of (s4 _ _ ta), by rw [NV_len]; exact hlen⟩
      · rintro i x σ H4 H5 hi ⟨s4, ⟨bs, tb4, hbl, hbs⟩, v, w, rfl⟩ ⟨q, x1, rfl, hq, rfl, hx1⟩
        obtain ⟨r, e, hrn⟩ := hO.get hi
        have hx2 := hx1 _ (SqT.of (s4 _ _ ta))
        rw [NV_get e] at hx2
        obtain rfl := Option.some.inj hx2
        refine in_gtup2 upd_same ?_
        dsimp only [List.set]
        have s5 := s4.new (o := .tup [V.int (i : Nat), V.int (r : Nat)]) hq
        have tb5 : (upd H4 q (.tup [V.int (i : Nat), V.int (r : Nat)])) b = some (.lst (NV bs)) := by rw [upd_ne (ne_of_none tb4 hq)]; exact tb4
        generalize upd H4 q (.tup [V.int (i : Nat), V.int (r : Nat)]) = H5 at s5 tb5
        walk_at "fs_rd"
        refine in_set tb5 (ixN_of rfl (by rw [NV_len]; omega)) ?_
        rw [NV_set]
        refine ⟨s5.own hbn, ⟨bs.set r i, upd_same, by simpa using hbl, fun j r' hj e' => ?_⟩, _, _, rfl⟩
        rw [List.getElem?_set]
        by_cases hrr : r = r'
        · subst hrr
          rw [if_pos rfl, if_pos (by omega), hO.inj i j r e e']
        · rw [if_neg hrr]
          have : j ≠ i := fun z => hrr (by subst z; rw [e] at e'; exact Option.some.inj e')
          exact hbs j r' (by omega) e'
      · rintro σ H4 ⟨s4, ⟨bs, tb4, hbl, hbs⟩, v, w, rfl⟩
        walk_at "fs_rd"
        exact k b bs H4 hbn s4 tb4 ⟨hbl, fun i r e => hbs i r (by have := get_lt e; omega) e⟩

noncomputable def spAfter (K : PySem.W.Frag) : Sp := fun vs H Q _ => ∃ (a c : Addr) (os us : List Nat) (n : Nat), vs = [.ref a, .ref c] ∧ ((H a = some (.lst (NV os)) ∧ H c = some (.lst (NV us))) ∨ (H a = some (.tup (NV os)) ∧ H c = some (.tup (NV us)))) ∧ Ord os n ∧ Ord us n ∧ n ≤ 60 ∧ ∀ (l : Addr) H', Same H H' → H' l = some (.lst (NV (cmp os us))) → Q (.ref l) H'
theorem ok_after (T : Tx K mg t) : FnOk P w K mg t.bs CX0 3 t.f_after t.d_after ["one", "other"] (spAfter K) := by
  refine T.F_after.okQ sc_after (fun vs H Q E h => ?_) (fun cdv A outer s H vs Q E hr h => ?_)
  · obtain ⟨a, c, os, us, n, rfl, _⟩ := h
    rfl
  · obtain ⟨a, c, os, us, n, rfl, hs, hO, hU, hn, k⟩ := h
    rcases hs with ⟨ta, tc⟩ | ⟨ta, tc⟩
    · refine ⟨_, (qb_cons (qs_if (qt_not (qt_val (qe_call (ok_is_order T) (hr.mono (by decide)) rfl T.m_is_order T.F_is_order.kp T.b_is_order pass0 (qa_c (qv 0) qa_nil)))) (qb_one qs_never) qb_nil)
      (qb_cons (qs_expr (qe_call (ok_check_order T) (hr.mono (by decide)) rfl T.m_check_order T.F_check_order.kp T.b_check_order pass0 (qa_c (qv 1) (qa_c (qe_callB (qc_len (K := K)) (by rfl) T.z_len bt_len (qa_c (qv 0) qa_nil)) qa_nil))))
      (qb_one (qs_ret (qe_comp (N := ["place", "one"]) (tgs := ["place"]) (frs := ["one"]) (ix := [0]) ⟨rfl, by decide +kernel, rfl, by decide +kernel, rfl, rfl, ⟨⟨rfl, rfl, _, rfl, rfl⟩, True.intro⟩, ⟨rfl, True.intro⟩, rfl⟩ rfl (qi_list (K := K) (qv 1)) (fun _ _ _ _ => (qg_name (i := 0) (by show List.Nodup (["place", "one"] : List Str); decide +kernel) rfl (Or.inl rfl))) (fun _ _ _ _ => (qe_ix (q_ixL (K := K)) (qv 1) (qv 0)))))))), ?_⟩
      rw [show L2.start ["one", "other"] [V.ref a, V.ref c] = [some (V.ref a), some (V.ref c)] from rfl]
      walk_at "fs_rd"
      refine ⟨a, os, n, rfl, .inl ta, hO, hn, fun H1 s1 => ?_⟩
      walk_at "fs_rd"
      refine in_lenL (SqL.of (s1 _ _ ta)) ?_
      rw [NV_len, hO.len]
      walk_at "fs_rd"
      refine ⟨c, us, n, rfl, .inl (s1 _ _ tc), hU, hn, fun H2 s2 => ?_⟩
      have ta2 := s2 _ _ (s1 _ _ ta)
      have tc2 := s2 _ _ (s1 _ _ tc)
      walk_at "fs_rd"
      refine ⟨c, rfl, ⟨_, SqL.of tc2⟩, comp_lst (a := c) (vs := NV us) (fun i ys σ H' => H' = H2 ∧ i ≤ n ∧ ys = NV ((cmp os us).take i) ∧ ∃ v, σ = [v, some (V.ref a)]) (by rw [NV_len, hU.len]; exact small1000 (by omega)) (fun i ys σ H' h => by rw [h.2.2.1, NV_len, List.length_take, cmp_len, hU.len]; omega) (fun i ys σ H' h => by rw [h.1]; exact SqL.of tc2) ⟨rfl, Nat.zero_le _, rfl, none, rfl⟩ ?_ ?_⟩
      · rintro i ys σ H' x hx ⟨rfl, _, rfl, v, rfl⟩
        have hil := get_lt hx
        obtain ⟨j, rfl, hj, hjm, hi⟩ := map_get hx
        obtain ⟨r, hr, _⟩ := hO.get (hU.lt j hjm)
        walk_at "fs_rd"
        refine in_ix (SqL.of ta2) (NV_at rfl hr) ?_
        refine Nx.mk hil ⟨rfl, by rw [hU.len] at hi; exact hi, ?_, _, rfl⟩
        rw [NV_snoc, List.take_add_one, cmp_get hj hr]; rfl
      · rintro ys σ H' ⟨rfl, _, rfl, v, rfl⟩ l hl
        rw [List.take_of_length_le (by rw [cmp_len, NV_len]; exact Nat.le_refl _)]
        exact k l _ ((s1.trans s2).new hl) upd_same
    · refine ⟨_, (qb_cons (qs_if (qt_not (qt_val (qe_call (ok_is_order T) (hr.mono (by decide)) rfl T.m_is_order T.F_is_order.kp T.b_is_order pass0 (qa_c (qv 0) qa_nil)))) (qb_one qs_never) qb_nil)
      (qb_cons (qs_expr (qe_call (ok_check_order T) (hr.mono (by decide)) rfl T.m_check_order T.F_check_order.kp T.b_check_order pass0 (qa_c (qv 1) (qa_c (qe_callB (qc_len (K := K)) (by rfl) T.z_len bt_len (qa_c (qv 0) qa_nil)) qa_nil))))
      (qb_one (qs_ret (qe_comp (N := ["place", "one"]) (tgs := ["place"]) (frs := ["one"]) (ix := [0]) ⟨rfl, by decide +kernel, rfl, by decide +kernel, rfl, rfl, ⟨⟨rfl, rfl, _, rfl, rfl⟩, True.intro⟩, ⟨rfl, True.intro⟩, rfl⟩ rfl (qi_tup (K := K) (qv 1)) (fun _ _ _ _ => (qg_name (i := 0) (by show List.Nodup (["place", "one"] : List Str); decide +kernel) rfl (Or.inl rfl))) (fun _ _ _ _ => (qe_ix (q_ixT (K := K)) (qv 1) (qv 0)))))))), ?_⟩
      rw [show L2.start ["one", "other"] [V.ref a, V.ref c] = [some (V.ref a), some (V.ref c)] from rfl]
      walk_at "fs_rd"
      refine ⟨a, os, n, rfl, .inr ta, hO, hn, fun H1 s1 => ?_⟩
      walk_at "fs_rd"
      refine in_lenT (SqT.of (s1 _ _ ta)) ?_
      rw [NV_len, hO.len]
      walk_at "fs_rd"
      refine ⟨c, us, n, rfl, .inr (s1 _ _ tc), hU, hn, fun H2 s2 => ?_⟩
      have ta2 := s2 _ _ (s1 _ _ ta)
      have tc2 := s2 _ _ (s1 _ _ tc)
      walk_at "fs_rd"
      refine ⟨c, rfl, ⟨_, SqT.of tc2⟩, comp_tupl (a := c) (vs := NV us) (fun i ys σ H' => H' = H2 ∧ i ≤ n ∧ ys = NV ((cmp os us).take i) ∧ ∃ v, σ = [v, some (V.ref a)]) (by rw [NV_len, hU.len]; exact small1000 (by omega)) (fun i ys σ H' h => by rw [h.2.2.1, NV_len, List.length_take, cmp_len, hU.len]; omega) (fun i ys σ H' h => by rw [h.1]; exact SqT.of tc2) ⟨rfl, Nat.zero_le _, rfl, none, rfl⟩ ?_ ?_⟩
      · rintro i ys σ H' x hx ⟨rfl, _, rfl, v, rfl⟩
        have hil := get_lt hx
        obtain ⟨j, rfl, hj, hjm, hi⟩ := map_get hx
        obtain ⟨r, hr, _⟩ := hO.get (hU.lt j hjm)
        walk_at "fs_rd"
        refine in_ixT (SqT.of ta2) (NV_at rfl hr) ?_
        refine Nx.mk hil ⟨rfl, by rw [hU.len] at hi; exact hi, ?_, _, rfl⟩
        rw [NV_snoc, List.take_add_one, cmp_get hj hr]; rfl
      · rintro ys σ H' ⟨rfl, _, rfl, v, rfl⟩ l hl
        rw [List.take_of_length_le (by rw [cmp_len, NV_len]; exact Nat.le_refl _)]
        exact k l _ ((s1.trans s2).new hl) upd_same

theorem in_sortKR {P : Addr} {lpos : Pos} {qual : Str} {ix : List Nat} {te : TE} {t : TA} {σ : L2.St} {H : Hp} {Q : VK} (h : t σ H fun vs H1 => ∃ n : Nat, vs = [.int n] ∧ n < 64 ∧ TabOk P lpos qual H1 ∧ ∀ H2, SameX P H1 H2 → TabOk P lpos qual H2 → keyed te ix (natsV 0 n) σ H2 Q) : tSortKR P lpos qual ix te t σ H Q := h
noncomputable def RowsU (H : Hp) (ps : List Addr) (rss : List (List Nat)) : Prop := ps.length = rss.length ∧ ∀ (i : Nat) p r, ps[i]? = some p → rss[i]? = some r → H p = some (.lst (NV r)) ∨ H p = some (.tup (NV r))
theorem RowsU.same {H H1 : Hp} {ps : List Addr} {rss : List (List Nat)} (h : RowsU H ps rss) (e : Same H H1) : RowsU H1 ps rss := ⟨h.1, fun i p z a c => (h.2 i p z a c).elim (fun h => .inl (e _ _ h)) (fun h => .inr (e _ _ h))⟩
theorem RowsT.toU {H : Hp} {ps : List Addr} {rss : List (List Nat)} (h : RowsT H ps rss) : RowsU H ps rss := ⟨h.1, fun i p z a c => .inr (h.2 i p z a c)⟩
noncomputable abbrev TabT (pt : Addr) (H : Hp) : Prop := TabOk pt ⟨68, 40, 68, 72⟩ ((("told_order" : Str) ++ ".<locals>.") ++ "<lambda>") H
theorem RowsU.sx {pt : Addr} {H H1 : Hp} {ps : List Addr} {rss : List (List Nat)} (h : RowsU H ps rss) (T : TabT pt H) (e : SameX pt H H1) : RowsU H1 ps rss := ⟨h.1, fun i p z a c => (h.2 i p z a c).elim (fun h => .inl (e _ _ (T.ne h) h)) (fun h => .inr (e _ _ (T.neT h) h))⟩
theorem RowsT.sx {pt : Addr} {H H1 : Hp} {ps : List Addr} {rss : List (List Nat)} (h : RowsT H ps rss) (T : TabT pt H) (e : SameX pt H H1) : RowsT H1 ps rss := ⟨h.1, fun i p z a c => e _ _ (T.neT (h.2 i p z a c)) (h.2 i p z a c)⟩
theorem ah_rk {rss : List (List Nat)} {p : List Nat} (h : p.Pairwise (Ah fun i j => HT.lexLt ((rss.map castL).getD i []) ((rss.map castL).getD j []))) : p.Pairwise (Rk rss 0) := by
  refine h.imp fun {i j} hij => ?_
  have e : ∀ i, (rss.map castL).getD i [] = castL (rss.getD i []) := fun i => by
    rw [List.getD_eq_getElem?_getD, List.getD_eq_getElem?_getD, List.getElem?_map]
    cases rss[i]? <;> rfl
  obtain ⟨h1, h2⟩ := hij
  dsimp only at h1 h2
  rw [e, e] at h1 h2
  unfold Rk
  rw [List.drop_zero, List.drop_zero]
  rcases lxt_tri (rss.getD i []) (rss.getD j []) with q | q | q
  · exact .inl q
  · exact .inr ⟨q, h2 (by rw [q]; exact lxt_irrefl _)⟩
  · have q' : HT.lexLt (castL (rss.getD j [])) (castL (rss.getD i [])) = true := q
    rw [q'] at h1; cases h1
theorem natsV_getD {n : Nat} {p : List Nat} (h : p.Perm (List.range n)) : (p.map fun i => (natsV 0 n).getD i .non) = NV p := by
  unfold NV
  apply List.map_congr_left
  intro i hi
  have : i < n := List.mem_range.mp (h.mem_iff.mp hi)
  unfold natsV
  rw [List.getD_eq_getElem?_getD, List.getElem?_map, List.getElem?_range this]
  simp
noncomputable def spTold (K : PySem.W.Frag) (pt : Addr) : Sp := fun vs H Q _ => ∃ (a : Addr) (ps : List Addr) (rss : List (List Nat)) (w : Nat), vs = [.ref a] ∧ (H a = some (.lst (ps.map V.ref)) ∨ H a = some (.tup (ps.map V.ref))) ∧ RowsU H ps rss ∧ (∀ r ∈ rss, r.length = w) ∧ rss.length < 64 ∧ TabT pt H ∧
  ∀ (l : Addr) (os : List Nat) H', H l = none → SameX pt H H' → TabT pt H' → H' l = some (.lst (NV os)) → os.Perm (List.range rss.length) → os.Pairwise (Rk rss 0) → Q (.ref l) H'
theorem ok_told_order (T : Tx K mg t) : FnOk P w K mg t.bs CX0 1 t.f_told_order t.d_told_order ["rows"] (spTold K t.pt) := by
  refine T.F_told_order.okC T.c_cc sc_told_order (fun vs H Q E h => ?_) (fun A outer s H vs Q E hr h => ?_)
  · obtain ⟨a, ps, rss, w, rfl, _⟩ := h
    rfl
  · obtain ⟨a, ps, rss, w, rfl, hta, hR, hw, hn, hT, k⟩ := h
    have hpl : ps.length = rss.length := hR.1
    rcases hta with ta | ta
    · refine ⟨_, (qb_one (qs_ret (qe_sortKR (N := ["place", "rows"]) (x := "place") (frs := ["rows"]) (ix := [0]) ⟨rfl, by decide +kernel, rfl, rfl, rfl, rfl, ⟨⟨rfl, rfl, _, rfl, rfl⟩, True.intro⟩, ⟨rfl, True.intro⟩, rfl, rfl, rfl⟩ rfl hr rfl T.z_sorted rfl T.z_range rfl T.c_hd T.c_ba (qa_c (qe_callB (qc_len (K := K)) (by rfl) T.z_len bt_len (qa_c (qv 0) qa_nil)) qa_nil) (fun _ _ _ _ _ _ => (qe_callTy (qc_tuple (K := K)) (by rfl) T.z_tuple bt_tuple (qa_c (qe_ix (q_ixL (K := K)) (qv 1) (qv 0)) qa_nil))) (fun _ _ _ _ => rfl)))), ?_⟩
      rw [show L2.start ["rows"] [V.ref a] = [some (V.ref a)] from rfl]
      walk_at "fs_rd"
      refine in_sortKR ?_
      walk_at "fs_rd"
      refine in_lenL (SqL.of ta) ?_
      rw [List.length_map, hpl]
      refine ⟨rss.length, rfl, hn, hT, fun H2 sx T2 => ⟨by simp [natsV]; exact hn, fun i ys H' => Same H2 H' ∧ ∃ rs : List Addr, ys = rs.map V.ref ∧ rs.length = i ∧ i ≤ rss.length ∧ RowsT H' rs (rss.take i), ⟨Same.refl _, [], rfl, rfl, Nat.zero_le _, rfl, fun i p r h => by simp at h⟩, ?_, ?_⟩⟩
      · rintro i ys H3 x hx ⟨s3, rs, rfl, hrl, _, hRs⟩
        have hi : i < rss.length := by have := get_lt hx; simpa [natsV] using this
        have hx' : x = V.int (i : Nat) := by
          unfold natsV at hx
          rw [List.getElem?_map, List.getElem?_range hi] at hx
          have := (Option.some.inj hx).symm
          rw [this]; simp
        subst hx'
        have hip : i < ps.length := by omega
        have ta3 : H3 a = some (.lst (ps.map V.ref)) := s3 _ _ (sx _ _ (hT.ne ta) ta)
        have er := ((hR.sx hT sx).same s3).2 i ps[i] rss[i] (by simp [hip]) (by simp [hi])
        have et : rss.take (i + 1) = rss.take i ++ [rss[i]] := by rw [List.take_add_one]; simp [hi]
        show tCB _ _ [some (V.int (i : Nat)), some (V.ref a)] H3 _
        walk_at "fs_rd"
        refine in_ix (SqL.of ta3) (v := V.ref ps[i]) (atI_nat (by rw [List.getElem?_map]; simp [hip])) ?_
        walk_at "fs_rd"
        generalize ps[i] = q at er
        generalize rss[i] = row at er et
        rcases er with er | er
        · refine in_tupleL (SqL.of er) fun l2 hl2 => ?_
          refine ⟨(Same.refl H3).new hl2, s3.new hl2, rs ++ [l2], by rw [List.map_append]; rfl, by simp [hrl], hi, ?_⟩
          rw [et]
          exact (hRs.same ((Same.refl H3).new hl2)).snoc upd_same
        · refine in_tupleT (SqT.of er) ?_
          refine ⟨Same.refl H3, s3, rs ++ [q], by rw [List.map_append]; rfl, by simp [hrl], hi, ?_⟩
          rw [et]
          exact hRs.snoc er
      · rintro ys H3 hyl ⟨s3, rs, rfl, hrl, _, hRs⟩
        have hnl : (natsV 0 rss.length).length = rss.length := by simp [natsV]
        rw [hnl] at hrl hRs
        rw [List.take_of_length_le (Nat.le_refl _)] at hRs
        refine ⟨_, .inr ⟨rs, rss.map castL, rfl, by rw [List.length_map]; exact hrl, fun i q r e1 e2 => ?_, ?_, rfl⟩, fun d p hd hp hs => ?_⟩
        · rw [List.getElem?_map] at e2
          obtain ⟨r0, e3, rfl⟩ := Option.map_eq_some_iff.mp e2
          have := hRs.2 i q r0 e1 e3
          rw [NV_castL] at this
          exact this
        · rcases Nat.eq_zero_or_pos w with h0 | h0
          · refine .inl fun r hr => ?_
            obtain ⟨r0, hr0, rfl⟩ := List.mem_map.mp hr
            have := hw r0 hr0
            rw [h0] at this
            rw [List.length_eq_zero_iff.mp this]; rfl
          · refine .inr fun r hr z => ?_
            obtain ⟨r0, hr0, rfl⟩ := List.mem_map.mp hr
            have := hw r0 hr0
            have h2 := congrArg List.length z
            unfold castL at h2
            rw [List.length_map] at h2
            simp at h2
            rw [h2] at this
            simp at this
            omega
        · rw [hnl] at hp
          rw [natsV_getD hp]
          have sx3 : SameX t.pt H (upd H3 d (.lst (NV p))) := fun b o hb e => by
            have e3 := s3 _ _ (sx b o hb e)
            rw [upd_ne (ne_of_none e3 hd)]; exact e3
          refine k d p _ ?_ sx3 ((T2.same s3).same ((Same.refl H3).new hd)) upd_same hp (ah_rk hs)
          cases q : H d with
          | none => rfl
          | some o =>
            by_cases hdp : d = t.pt
            · rcases T2.same s3 with z | ⟨c, z, _⟩ <;> rw [← hdp, hd] at z <;> cases z
            · rw [s3 _ _ (sx d o hdp q)] at hd; cases hd
    · refine ⟨_, (qb_one (qs_ret (qe_sortKR (N := ["place", "rows"]) (x := "place") (frs := ["rows"]) (ix := [0]) ⟨rfl, by decide +kernel, rfl, rfl, rfl, rfl, ⟨⟨rfl, rfl, _, rfl, rfl⟩, True.intro⟩, ⟨rfl, True.intro⟩, rfl, rfl, rfl⟩ rfl hr rfl T.z_sorted rfl T.z_range rfl T.c_hd T.c_ba (qa_c (qe_callB (qc_len (K := K)) (by rfl) T.z_len bt_len (qa_c (qv 0) qa_nil)) qa_nil) (fun _ _ _ _ _ _ => (qe_callTy (qc_tuple (K := K)) (by rfl) T.z_tuple bt_tuple (qa_c (qe_ix (q_ixT (K := K)) (qv 1) (qv 0)) qa_nil))) (fun _ _ _ _ => rfl)))), ?_⟩
      rw [show L2.start ["rows"] [V.ref a] = [some (V.ref a)] from rfl]
      walk_at "fs_rd"
      refine in_sortKR ?_
      walk_at "fs_rd"
      refine in_lenT (SqT.of ta) ?_
      rw [List.length_map, hpl]
      refine ⟨rss.length, rfl, hn, hT, fun H2 sx T2 => ⟨by simp [natsV]; exact hn, fun i ys H' => Same H2 H' ∧ ∃ rs : List Addr, ys = rs.map V.ref ∧ rs.length = i ∧ i ≤ rss.length ∧ RowsT H' rs (rss.take i), ⟨Same.refl _, [], rfl, rfl, Nat.zero_le _, rfl, fun i p r h => by simp at h⟩, ?_, ?_⟩⟩
      · rintro i ys H3 x hx ⟨s3, rs, rfl, hrl, _, hRs⟩
        have hi : i < rss.length := by have := get_lt hx; simpa [natsV] using this
        have hx' : x = V.int (i : Nat) := by
          unfold natsV at hx
          rw [List.getElem?_map, List.getElem?_range hi] at hx
          have := (Option.some.inj hx).symm
          rw [this]; simp
        subst hx'
        have hip : i < ps.length := by omega
        have ta3 : H3 a = some (.tup (ps.map V.ref)) := s3 _ _ (sx _ _ (hT.neT ta) ta)
        have er := ((hR.sx hT sx).same s3).2 i ps[i] rss[i] (by simp [hip]) (by simp [hi])
        have et : rss.take (i + 1) = rss.take i ++ [rss[i]] := by rw [List.take_add_one]; simp [hi]
        show tCB _ _ [some (V.int (i : Nat)), some (V.ref a)] H3 _
        walk_at "fs_rd"
        refine in_ixT (SqT.of ta3) (v := V.ref ps[i]) (atI_nat (by rw [List.getElem?_map]; simp [hip])) ?_
        walk_at "fs_rd"
        generalize ps[i] = q at er
        generalize rss[i] = row at er et
        rcases er with er | er
        · refine in_tupleL (SqL.of er) fun l2 hl2 => ?_
          refine ⟨(Same.refl H3).new hl2, s3.new hl2, rs ++ [l2], by rw [List.map_append]; rfl, by simp [hrl], hi, ?_⟩
          rw [et]
          exact (hRs.same ((Same.refl H3).new hl2)).snoc upd_same
        · refine in_tupleT (SqT.of er) ?_
          refine ⟨Same.refl H3, s3, rs ++ [q], by rw [List.map_append]; rfl, by simp [hrl], hi, ?_⟩
          rw [et]
          exact hRs.snoc er
      · rintro ys H3 hyl ⟨s3, rs, rfl, hrl, _, hRs⟩
        have hnl : (natsV 0 rss.length).length = rss.length := by simp [natsV]
        rw [hnl] at hrl hRs
        rw [List.take_of_length_le (Nat.le_refl _)] at hRs
        refine ⟨_, .inr ⟨rs, rss.map castL, rfl, by rw [List.length_map]; exact hrl, fun i q r e1 e2 => ?_, ?_, rfl⟩, fun d p hd hp hs => ?_⟩
        · rw [List.getElem?_map] at e2
          obtain ⟨r0, e3, rfl⟩ := Option.map_eq_some_iff.mp e2
          have := hRs.2 i q r0 e1 e3
          rw [NV_castL] at this
          exact this
        · rcases Nat.eq_zero_or_pos w with h0 | h0
          · refine .inl fun r hr => ?_
            obtain ⟨r0, hr0, rfl⟩ := List.mem_map.mp hr
            have := hw r0 hr0
            rw [h0] at this
            rw [List.length_eq_zero_iff.mp this]; rfl
          · refine .inr fun r hr z => ?_
            obtain ⟨r0, hr0, rfl⟩ := List.mem_map.mp hr
            have := hw r0 hr0
            have h2 := congrArg List.length z
            unfold castL at h2
            rw [List.length_map] at h2
            simp at h2
            rw [h2] at this
            simp at this
            omega
        · rw [hnl] at hp
          rw [natsV_getD hp]
          have sx3 : SameX t.pt H (upd H3 d (.lst (NV p))) := fun b o hb e => by
            have e3 := s3 _ _ (sx b o hb e)
            rw [upd_ne (ne_of_none e3 hd)]; exact e3
          refine k d p _ ?_ sx3 ((T2.same s3).same ((Same.refl H3).new hd)) upd_same hp (ah_rk hs)
          cases q : H d with
          | none => rfl
          | some o =>
            by_cases hdp : d = t.pt
            · rcases T2.same s3 with z | ⟨c, z, _⟩ <;> rw [← hdp, hd] at z <;> cases z
            · rw [s3 _ _ (sx d o hdp q)] at hd; cases hd

section
variable {K : PySem.W.Frag} {H : Hp} {Q : VK}
theorem in_slLA {a : Addr} {xs : List V} {lo hi : Option Int} (h1 : H a = some (.lst xs)) (h : ∀ p H', H p = none → Same H H' → H' p = some (.lst (cutV xs lo hi)) → Q (.ref p) H') : rSlL K (.ref a) lo hi H Q := ⟨a, xs, rfl, SqL.of h1, fun p hp => h p _ hp ((Same.refl H).new hp) upd_same⟩
theorem in_slL0 {a : Addr} {xs : List V} {lo hi : Option Int} (h1 : H a = some (.lst xs)) (h : ∀ p H', Same H H' → H' p = some (.lst (cutV xs lo hi)) → Q (.ref p) H') : rSlL K (.ref a) lo hi H Q := ⟨a, xs, rfl, SqL.of h1, fun p hp => h p _ ((Same.refl H).new hp) upd_same⟩
theorem in_slT0 {a : Addr} {xs : List V} {lo hi : Option Int} (h1 : H a = some (.tup xs)) (h : ∀ p H', Same H H' → H' p = some (.tup (cutV xs lo hi)) → Q (.ref p) H') : rSlTA (.ref a) lo hi H Q := ⟨a, xs, rfl, h1, h⟩
end

noncomputable def spCopy : Sp := fun vs H Q _ => ∃ (x : V) (fs : List Nat) (p : Nat), vs = [x] ∧ Pr H x (some (fs, p)) ∧ ∀ y H', Same H H' → Pr H' y (some (fs, p)) → Q y H'
theorem sc_of {p : Nat} {fs : List Nat} {i : Nat} {v : V} (h : (V.int ((p : Nat) : Int) :: NV fs)[i]? = some v) : Sc v := by
  cases i with
  | zero => cases h; exact .inr (.inr (.inl ⟨_, rfl⟩))
  | succ i =>
    rw [List.getElem?_cons_succ] at h
    obtain ⟨o, rfl, _⟩ := map_get h
    exact .inr (.inr (.inl ⟨_, rfl⟩))
theorem cut_from {xs ys : List V} {a b : Nat} (ha : a = xs.length) (hb : b = xs.length + ys.length) : cutV (xs ++ ys) (some ((a : Nat) : Int)) (some ((b : Nat) : Int)) = ys := by
  unfold cutV
  rw [HT.sIx_nat, HT.sIx_nat, List.length_append]
  have m1 : min a (xs.length + ys.length) = xs.length := by omega
  have m2 : min b (xs.length + ys.length) = xs.length + ys.length := by omega
  rw [m1, m2, List.drop_left, List.take_of_length_le (by omega)]
theorem ok_own_copy (T : Tx K mg t) : FnOk P w K mg t.bs CX0 1 t.f_own_copy t.d_own_copy ["thing"] spCopy := by
  refine T.F_own_copy.okQ sc_own_copy (fun vs H Q E h => ?_) (fun cdv A outer s H vs Q E hr h => ?_)
  · obtain ⟨x, fs, p, rfl, _⟩ := h
    rfl
  · obtain ⟨x, fr, p, rfl, hx, k⟩ := h
    obtain ⟨t0, r0, rfl, ht, hr, hfl⟩ := hx
    have hfl' : fr.length ≤ 3 := hfl
    have ht' : H t0 = some (.tup [.ref r0, .int ((p : Nat) : Int)]) := ht
    have hr' : H r0 = some (.tup (NV fr)) := hr
    refine ⟨_, (qb_cons (qs_set (i := 1) sc_own_copy.nd rfl (Or.inl rfl) (qe_lst (qa_c (qv 0) qa_nil)))
      (qb_cons (qs_set (i := 2) sc_own_copy.nd rfl (Or.inl rfl) (qe_lst qa_nil))
      (qb_cons (qs_while PassesOwn.never (qt_cmpR q_lt (qe_callB (qc_len (K := K)) (by rfl) T.z_len bt_len (qa_c (qv 2) qa_nil)) (qe_callB (qc_len (K := K)) (by rfl) T.z_len bt_len (qa_c (qv 1) qa_nil)) (nomark _)) (qb_cons (qs_set (i := 3) sc_own_copy.nd rfl (Or.inl rfl) (qe_ix (q_ixL (K := K)) (qv 1) (qe_callB (qc_len (K := K)) (by rfl) T.z_len bt_len (qa_c (qv 2) qa_nil))))
      (qb_cons (qs_expr (qe_append (K := K) (qv 2) (qa_c (qe_callB (qc_len (K := K)) (by rfl) T.z_len bt_len (qa_c (qv 1) qa_nil)) qa_nil)))
      (qb_one (qs_if (qt_val (qe_callB (qc_isiC (K := K)) (by rfl) T.z_isinstance bt_isinstance (qa_c (qv 3) (qa_c (qe_tup (qa_c (qe_bltn rfl T.z_list bt_list (v := .ty "list") rfl) (qa_c (qe_bltn rfl T.z_tuple bt_tuple (v := .ty "tuple") rfl) qa_nil))) qa_nil)))) (qb_one (qs_expr (qe_extendT (K := K) (qv 1) (qa_c (qv 3) qa_nil)))) qb_nil)))))
      (qb_cons (qs_for PassesOwn.never rfl (qi_rangeD rfl T.z_range (qa_c (qe_op q_sub (qe_callB (qc_len (K := K)) (by rfl) T.z_len bt_len (qa_c (qv 1) qa_nil)) qe_int) (qa_c (qe_un q_neg qe_int) (qa_c (qe_un q_neg qe_int) qa_nil)))) (qg_name (i := 4) sc_own_copy.nd rfl (Or.inl rfl)) (qb_cons (qs_set (i := 3) sc_own_copy.nd rfl (Or.inl rfl) (qe_ix (q_ixL (K := K)) (qv 1) (qv 4)))
      (qb_one (qs_if (qt_val (qe_callB (qc_isi (K := K)) (by rfl) T.z_isinstance bt_isinstance (qa_c (qv 3) (qa_c (qe_bltn rfl T.z_list bt_list (v := .ty "list") rfl) qa_nil)))) (qb_one (qs_sub (qe_slice (q_slL (K := K)) (qv 1) (qo_some (qe_ix (q_ixL (K := K)) (qv 2) (qv 4))) (qo_some (qe_op q_add (qe_ix (q_ixL (K := K)) (qv 2) (qv 4)) (qe_callB (qc_len (K := K)) (by rfl) T.z_len bt_len (qa_c (qv 3) qa_nil))))) (qv 1) (qv 4))) (qb_one (qs_if (qt_val (qe_callB (qc_isi (K := K)) (by rfl) T.z_isinstance bt_isinstance (qa_c (qv 3) (qa_c (qe_bltn rfl T.z_tuple bt_tuple (v := .ty "tuple") rfl) qa_nil)))) (qb_one (qs_sub (qe_callTy (qc_tuple (K := K)) (by rfl) T.z_tuple bt_tuple (qa_c (qe_slice (q_slL (K := K)) (qv 1) (qo_some (qe_ix (q_ixL (K := K)) (qv 2) (qv 4))) (qo_some (qe_op q_add (qe_ix (q_ixL (K := K)) (qv 2) (qv 4)) (qe_callB (qc_len (K := K)) (by rfl) T.z_len bt_len (qa_c (qv 3) qa_nil))))) qa_nil)) (qv 1) (qv 4))) qb_nil))))))
      (qb_one (qs_ret (qe_ix (q_ixL (K := K)) (qv 1) qe_int))))))), ?_⟩
    rw [show L2.start ["thing", "parts", "firsts", "part", "at"] [V.ref t0] = [some (V.ref t0), none, none, none, none] from rfl]
    walk_at "fs_rd"
    refine ⟨three (by simp), fun pl hpl => ?_⟩
    have s1 := (Same.refl H).new (o := .lst [V.ref t0]) hpl
    have tp1 : (upd H pl (.lst [V.ref t0])) pl = some (.lst [V.ref t0]) := upd_same
    generalize upd H pl (.lst [V.ref t0]) = H1 at s1 tp1
    walk_at "fs_rd"
    refine ⟨three (by simp), fun fl hfl => ?_⟩
    have hfn : H fl = none := s1.free hfl
    have hpf : pl ≠ fl := ne_of_none tp1 hfl
    have s2 := s1.new (o := .lst []) hfl
    have tp2 : (upd H1 fl (.lst [])) pl = some (.lst [V.ref t0]) := by rw [upd_ne hpf]; exact tp1
    have tf2 : (upd H1 fl (.lst [])) fl = some (.lst (NV [])) := upd_same
    generalize upd H1 fl (.lst []) = H2 at s2 tp2 tf2
    walk_at "fs_rd"
    refine ⟨fun c σ H' => ∃ (fs : List Nat), c = 3 + fr.length - fs.length ∧ fs.length ≤ 3 + fr.length ∧ Same H H' ∧ H' fl = some (.lst (NV fs)) ∧ ((fs = [] ∧ H' pl = some (.lst [V.ref t0])) ∨ (fs = [1] ∧ H' pl = some (.lst [V.ref t0, V.ref r0, V.int ((p : Nat) : Int)])) ∨ (fs[0]? = some 1 ∧ fs[1]? = some 3 ∧ H' pl = some (.lst (V.ref t0 :: V.ref r0 :: V.int ((p : Nat) : Int) :: NV fr)))) ∧ ∃ v3 v4, σ = [some (V.ref t0), some (V.ref pl), some (V.ref fl), v3, v4], ⟨_, [], rfl, by simp, s2, tf2, .inl ⟨rfl, tp2⟩, _, _, rfl⟩, ?_⟩
    rintro c σ H3 ⟨fs, rfl, hfs, s3, tf3, hcase, v3, v4, rfl⟩
    rcases hcase with ⟨rfl, tp3⟩ | ⟨rfl, tp3⟩ | ⟨hf0, hf1, tp3⟩
    · walk_at "fs_rd"
      refine in_lenL (SqL.of tf3) ?_
      walk_at "fs_rd"
      refine in_lenL (SqL.of tp3) ?_
      walk_at "fs_rd"
      refine in_pos (by show ((0 : Nat) : Int) < ((1 : Nat) : Int); decide) ?_
      refine ⟨_, fun _ _ z => z, ?_⟩
      walk_at "fs_rd"
      refine in_lenL (SqL.of tf3) ?_
      walk_at "fs_rd"
      refine ⟨ty_list tf3, ?_⟩
      walk_at "fs_rd"
      refine in_lenL (SqL.of tp3) ?_
      walk_at "fs_rd"
      refine in_append tf3 (small1000 (by simp [NV_len])) ?_
      have s4 := s3.own (o := .lst (NV [1])) hfn
      have tf4 : (upd H3 fl (.lst (NV [1]))) fl = some (.lst (NV [1])) := upd_same
      have tp4 : (upd H3 fl (.lst (NV [1]))) pl = some (.lst [V.ref t0]) := by rw [upd_ne hpf]; exact tp3
      have eap : NV [] ++ [V.int (([V.ref t0] : List V).length : Nat)] = NV [1] := rfl
      rw [eap]
      generalize upd H3 fl (.lst (NV [1])) = H4 at s4 tf4 tp4
      walk_at "fs_rd"
      refine ⟨three (by simp), fun tp htp => ?_⟩
      have s5 := s4.new (o := .tup [V.ty "list", V.ty "tuple"]) htp
      have ttp : (upd H4 tp (.tup [V.ty "list", V.ty "tuple"])) tp = some (.tup [V.ty "list", V.ty "tuple"]) := upd_same
      have tf5 : (upd H4 tp (.tup [V.ty "list", V.ty "tuple"])) fl = some (.lst (NV [1])) := by rw [upd_ne (ne_of_none tf4 htp)]; exact tf4
      have tp5 : (upd H4 tp (.tup [V.ty "list", V.ty "tuple"])) pl = some (.lst [V.ref t0]) := by rw [upd_ne (ne_of_none tp4 htp)]; exact tp4
      generalize upd H4 tp (.tup [V.ty "list", V.ty "tuple"]) = H5 at s5 ttp tf5 tp5
      walk_at "fs_rd"
      refine in_isiCT (s5 _ _ ht') ttp ?_
      walk_at "fs_rd"
      refine ⟨ty_list tp5, ?_⟩
      walk_at "fs_rd"
      refine in_extendT tp5 (s5 _ _ ht') (three (by simp)) ?_
      exact ⟨_, by simp, [1], rfl, by simp; omega, s5.own hpl, by rw [upd_ne (Ne.symm hpf)]; exact tf5, .inr (.inl ⟨rfl, upd_same⟩), _, _, rfl⟩
    · walk_at "fs_rd"
      refine in_lenL (SqL.of tf3) ?_
      walk_at "fs_rd"
      refine in_lenL (SqL.of tp3) ?_
      walk_at "fs_rd"
      refine in_pos (by show ((1 : Nat) : Int) < ((3 : Nat) : Int); decide) ?_
      refine ⟨_, fun _ _ z => z, ?_⟩
      walk_at "fs_rd"
      refine in_lenL (SqL.of tf3) ?_
      refine in_ix (SqL.of tp3) (v := V.ref r0) (atI_nat (j := 1) rfl) ?_
      walk_at "fs_rd"
      refine ⟨ty_list tf3, ?_⟩
      walk_at "fs_rd"
      refine in_lenL (SqL.of tp3) ?_
      walk_at "fs_rd"
      refine in_append tf3 (small1000 (by simp [NV_len])) ?_
      have s4 := s3.own (o := .lst (NV [1, 3])) hfn
      have tf4 : (upd H3 fl (.lst (NV [1, 3]))) fl = some (.lst (NV [1, 3])) := upd_same
      have tp4 : (upd H3 fl (.lst (NV [1, 3]))) pl = some (.lst [V.ref t0, V.ref r0, V.int ((p : Nat) : Int)]) := by rw [upd_ne hpf]; exact tp3
      have eap : NV [1] ++ [V.int (([V.ref t0, V.ref r0, V.int ((p : Nat) : Int)] : List V).length : Nat)] = NV [1, 3] := rfl
      rw [eap]
      generalize upd H3 fl (.lst (NV [1, 3])) = H4 at s4 tf4 tp4
      walk_at "fs_rd"
      refine ⟨three (by simp), fun tp htp => ?_⟩
      have s5 := s4.new (o := .tup [V.ty "list", V.ty "tuple"]) htp
      have ttp : (upd H4 tp (.tup [V.ty "list", V.ty "tuple"])) tp = some (.tup [V.ty "list", V.ty "tuple"]) := upd_same
      have tf5 : (upd H4 tp (.tup [V.ty "list", V.ty "tuple"])) fl = some (.lst (NV [1, 3])) := by rw [upd_ne (ne_of_none tf4 htp)]; exact tf4
      have tp5 : (upd H4 tp (.tup [V.ty "list", V.ty "tuple"])) pl = some (.lst [V.ref t0, V.ref r0, V.int ((p : Nat) : Int)]) := by rw [upd_ne (ne_of_none tp4 htp)]; exact tp4
      generalize upd H4 tp (.tup [V.ty "list", V.ty "tuple"]) = H5 at s5 ttp tf5 tp5
      walk_at "fs_rd"
      refine in_isiCT (s5 _ _ hr') ttp ?_
      walk_at "fs_rd"
      refine ⟨ty_list tp5, ?_⟩
      walk_at "fs_rd"
      refine in_extendT tp5 (s5 _ _ hr') (three (by simp [NV_len]; omega)) ?_
      exact ⟨_, by show 3 + fr.length - 2 < 3 + fr.length - 1; omega, [1, 3], rfl, by simp; omega, s5.own hpl, by rw [upd_ne (Ne.symm hpf)]; exact tf5, .inr (.inr ⟨rfl, rfl, upd_same⟩), _, _, rfl⟩
    · have hf2 : 1 < fs.length := get_lt hf1
      have hlP : (V.ref t0 :: V.ref r0 :: V.int ((p : Nat) : Int) :: NV fr).length = 3 + fr.length := by simp [NV_len]; omega
      walk_at "fs_rd"
      refine in_lenL (SqL.of tf3) ?_
      rw [NV_len]
      walk_at "fs_rd"
      refine in_lenL (SqL.of tp3) ?_
      rw [hlP]
      walk_at "fs_rd"
      refine in_split (fun g => ?_) (fun g => ?_)
      · refine ⟨_, fun _ _ z => z, ?_⟩
        have hlt : fs.length < 3 + fr.length := by omega
        obtain ⟨i, hi⟩ : ∃ i, fs.length = i + 2 := ⟨fs.length - 2, by omega⟩
        have hix : i < (V.int ((p : Nat) : Int) :: NV fr).length := by simp [NV_len]; omega
        have hget : (V.ref t0 :: V.ref r0 :: V.int ((p : Nat) : Int) :: NV fr)[fs.length]? = some (V.int ((p : Nat) : Int) :: NV fr)[i] := by rw [hi, List.getElem?_cons_succ, List.getElem?_cons_succ, List.getElem?_eq_getElem hix]
        walk_at "fs_rd"
        refine in_lenL (SqL.of tf3) ?_
        rw [NV_len]
        refine in_ix (SqL.of tp3) (atI_nat hget) ?_
        have hsc : Sc (V.int ((p : Nat) : Int) :: NV fr)[i] := sc_of (List.getElem?_eq_getElem hix)
        generalize (V.int ((p : Nat) : Int) :: NV fr)[i] = part at hsc
        walk_at "fs_rd"
        refine ⟨ty_list tf3, ?_⟩
        walk_at "fs_rd"
        refine in_lenL (SqL.of tp3) ?_
        rw [hlP]
        walk_at "fs_rd"
        refine in_append tf3 (by rw [NV_len]; exact small1000 (by omega)) ?_
        rw [NV_snoc]
        have s4 := s3.own (o := .lst (NV (fs ++ [3 + fr.length]))) hfn
        have tf4 : (upd H3 fl (.lst (NV (fs ++ [3 + fr.length])))) fl = some (.lst (NV (fs ++ [3 + fr.length]))) := upd_same
        have tp4 : (upd H3 fl (.lst (NV (fs ++ [3 + fr.length])))) pl = some (.lst (V.ref t0 :: V.ref r0 :: V.int ((p : Nat) : Int) :: NV fr)) := by rw [upd_ne hpf]; exact tp3
        generalize upd H3 fl (.lst (NV (fs ++ [3 + fr.length]))) = H4 at s4 tf4 tp4
        walk_at "fs_rd"
        refine ⟨three (by simp), fun tp htp => ?_⟩
        have s5 := s4.new (o := .tup [V.ty "list", V.ty "tuple"]) htp
        have ttp : (upd H4 tp (.tup [V.ty "list", V.ty "tuple"])) tp = some (.tup [V.ty "list", V.ty "tuple"]) := upd_same
        have tf5 : (upd H4 tp (.tup [V.ty "list", V.ty "tuple"])) fl = some (.lst (NV (fs ++ [3 + fr.length]))) := by rw [upd_ne (ne_of_none tf4 htp)]; exact tf4
        have tp5 : (upd H4 tp (.tup [V.ty "list", V.ty "tuple"])) pl = some (.lst (V.ref t0 :: V.ref r0 :: V.int ((p : Nat) : Int) :: NV fr)) := by rw [upd_ne (ne_of_none tp4 htp)]; exact tp4
        generalize upd H4 tp (.tup [V.ty "list", V.ty "tuple"]) = H5 at s5 ttp tf5 tp5
        walk_at "fs_rd"
        refine in_isiC0 ttp hsc ?_
        walk_at "fs_rd"
        exact ⟨_, by rw [List.length_append, List.length_singleton]; omega, fs ++ [3 + fr.length], rfl, by rw [List.length_append, List.length_singleton]; omega, s5, tf5, .inr (.inr ⟨by rw [List.getElem?_append_left (by omega)]; exact hf0, by rw [List.getElem?_append_left hf2]; exact hf1, tp5⟩), _, _, rfl⟩
      · have hfl2 : fs.length = 3 + fr.length := by omega
        walk_at "fs_rd"
        refine in_lenL (SqL.of tp3) ?_
        rw [hlP]
        walk_at "fs_rd"
        refine ⟨3 + fr.length, rfl, by omega, for_gen (n := 3 + fr.length) (fun j σ H' => Same H H' ∧ H' fl = some (.lst (NV fs)) ∧ (∃ y0 y1, H' pl = some (.lst (y0 :: y1 :: V.int ((p : Nat) : Int) :: NV fr)) ∧ (j < 3 + fr.length → y0 = V.ref t0) ∧ (j ≤ 1 + fr.length → y1 = V.ref r0) ∧ (1 + fr.length < j → ∃ r', y1 = V.ref r' ∧ H' r' = some (.tup (NV fr))) ∧ (j = 3 + fr.length → Pr H' y0 (some (fr, p)))) ∧ ∃ v3 v4, σ = [some (V.ref t0), some (V.ref pl), some (V.ref fl), v3, v4]) ⟨s3, tf3, ⟨_, _, tp3, fun _ => rfl, fun _ => rfl, fun h => by omega, fun h => by omega⟩, _, _, rfl⟩ (fun i σ H' hi _ => hi) (fun σ H' _ => Nat.le_refl _) ?_ ?_⟩
        · rintro j x0 σ H4o H4 hj ⟨s4, tf4, ⟨y0, y1, tp4, hy0, hy1, hy2, hy3⟩, v3, v4, rfl⟩ ⟨rfl, rfl⟩
          have hyx := hy0 hj
          subst hyx
          by_cases hj0 : j = 2 + fr.length
          · have e0 : 3 + fr.length - 1 - j = 0 := by omega
            rw [e0]
            obtain ⟨r', rfl, hr4⟩ := hy2 (by omega)
            have ht4 := s4 _ _ ht'
            walk_at "fs_rd"
            refine in_ix (SqL.of tp4) (v := V.ref t0) (atI_nat (j := 0) rfl) ?_
            walk_at "fs_rd"
            refine in_isiTLf ht4 ?_
            walk_at "fs_rd"
            refine in_isiTT ht4 ?_
            walk_at "fs_rd"
            refine in_ix (SqL.of tf4) (NV_at (i := 0) rfl hf0) ?_
            walk_at "fs_rd"
            refine ⟨_, rfl, ?_⟩
            walk_at "fs_rd"
            refine in_ix (SqL.of tf4) (NV_at (i := 0) rfl hf0) ?_
            walk_at "fs_rd"
            refine in_lenT (SqT.of ht4) ?_
            walk_at "fs_rd"
            refine ⟨_, rfl, ?_⟩
            refine ⟨pl, _, rfl, SqL.of tp4, fun z hz => ?_⟩
            have ecut : cutV (V.ref t0 :: V.ref r' :: V.int ((p : Nat) : Int) :: NV fr) (some ((1 : Nat) : Int)) (some (((1 : Nat) : Int) + (([V.ref r0, V.int ((p : Nat) : Int)] : List V).length : Nat))) = [V.ref r', V.int ((p : Nat) : Int)] := by
              have e1 : ((1 : Nat) : Int) + (([V.ref r0, V.int ((p : Nat) : Int)] : List V).length : Nat) = ((3 : Nat) : Int) := rfl
              unfold cutV
              rw [e1, HT.sIx_nat, HT.sIx_nat]
              have m1 : min 1 (V.ref t0 :: V.ref r' :: V.int ((p : Nat) : Int) :: NV fr).length = 1 := by simp
              have m2 : min 3 (V.ref t0 :: V.ref r' :: V.int ((p : Nat) : Int) :: NV fr).length = 3 := by simp
              rw [m1, m2]; rfl
            rw [ecut]
            have s5 := s4.new (o := .lst [V.ref r', V.int ((p : Nat) : Int)]) hz
            have tz : (upd H4 z (.lst [V.ref r', V.int ((p : Nat) : Int)])) z = some (.lst [V.ref r', V.int ((p : Nat) : Int)]) := upd_same
            have tf5 : (upd H4 z (.lst [V.ref r', V.int ((p : Nat) : Int)])) fl = some (.lst (NV fs)) := by rw [upd_ne (ne_of_none tf4 hz)]; exact tf4
            have tp5 : (upd H4 z (.lst [V.ref r', V.int ((p : Nat) : Int)])) pl = some (.lst (V.ref t0 :: V.ref r' :: V.int ((p : Nat) : Int) :: NV fr)) := by rw [upd_ne (ne_of_none tp4 hz)]; exact tp4
            have hr5 : (upd H4 z (.lst [V.ref r', V.int ((p : Nat) : Int)])) r' = some (.tup (NV fr)) := by rw [upd_ne (ne_of_none hr4 hz)]; exact hr4
            generalize upd H4 z (.lst [V.ref r', V.int ((p : Nat) : Int)]) = H5 at s5 tz tf5 tp5 hr5
            walk_at "fs_rd"
            refine in_tupleL (SqL.of tz) fun u hu => ?_
            have s6 := s5.new (o := .tup [V.ref r', V.int ((p : Nat) : Int)]) hu
            have tu : (upd H5 u (.tup [V.ref r', V.int ((p : Nat) : Int)])) u = some (.tup [V.ref r', V.int ((p : Nat) : Int)]) := upd_same
            have tf6 : (upd H5 u (.tup [V.ref r', V.int ((p : Nat) : Int)])) fl = some (.lst (NV fs)) := by rw [upd_ne (ne_of_none tf5 hu)]; exact tf5
            have tp6 : (upd H5 u (.tup [V.ref r', V.int ((p : Nat) : Int)])) pl = some (.lst (V.ref t0 :: V.ref r' :: V.int ((p : Nat) : Int) :: NV fr)) := by rw [upd_ne (ne_of_none tp5 hu)]; exact tp5
            have hr6 : (upd H5 u (.tup [V.ref r', V.int ((p : Nat) : Int)])) r' = some (.tup (NV fr)) := by rw [upd_ne (ne_of_none hr5 hu)]; exact hr5
            have hup : u ≠ pl := fun e => by rw [e, tp5] at hu; cases hu
            generalize upd H5 u (.tup [V.ref r', V.int ((p : Nat) : Int)]) = H6 at s6 tu tf6 tp6 hr6
            have hrp : r' ≠ pl := fun e => by rw [e, tp6] at hr6; cases hr6
            walk_at "fs_rd"
            refine in_set tp6 (ixN_of (i := 0) rfl (by simp)) ?_
            have s7 := s6.own (o := .lst ((V.ref t0 :: V.ref r' :: V.int ((p : Nat) : Int) :: NV fr).set 0 (V.ref u))) hpl
            refine ⟨s7, by rw [upd_ne (Ne.symm hpf)]; exact tf6, ⟨V.ref u, V.ref r', by rw [upd_same]; rfl, fun h => by omega, fun h => by omega, fun _ => ⟨r', rfl, by rw [upd_ne hrp]; exact hr6⟩, fun _ => ⟨u, r', rfl, by rw [upd_ne hup]; exact tu, by rw [upd_ne hrp]; exact hr6, hfl'⟩⟩, _, _, rfl⟩
          · by_cases hj1 : j = 1 + fr.length
            · have e0 : 3 + fr.length - 1 - j = 1 := by omega
              rw [e0]
              have hy := hy1 (by omega)
              subst hy
              have hr4 := s4 _ _ hr'
              walk_at "fs_rd"
              refine in_ix (SqL.of tp4) (v := V.ref r0) (atI_nat (j := 1) rfl) ?_
              walk_at "fs_rd"
              refine in_isiTLf hr4 ?_
              walk_at "fs_rd"
              refine in_isiTT hr4 ?_
              walk_at "fs_rd"
              refine in_ix (SqL.of tf4) (NV_at (i := 1) rfl hf1) ?_
              walk_at "fs_rd"
              refine ⟨_, rfl, ?_⟩
              walk_at "fs_rd"
              refine in_ix (SqL.of tf4) (NV_at (i := 1) rfl hf1) ?_
              walk_at "fs_rd"
              refine in_lenT (SqT.of hr4) ?_
              walk_at "fs_rd"
              refine ⟨_, rfl, ?_⟩
              refine ⟨pl, _, rfl, SqL.of tp4, fun z hz => ?_⟩
              have ecut : cutV (V.ref t0 :: V.ref r0 :: V.int ((p : Nat) : Int) :: NV fr) (some ((3 : Nat) : Int)) (some (((3 : Nat) : Int) + ((NV fr).length : Nat))) = NV fr := by
                have e1 : ((3 : Nat) : Int) + ((NV fr).length : Nat) = ((3 + (NV fr).length : Nat) : Int) := by omega
                rw [e1]
                exact cut_from (xs := [V.ref t0, V.ref r0, V.int ((p : Nat) : Int)]) (ys := NV fr) rfl rfl
              rw [ecut]
              have s5 := s4.new (o := .lst (NV fr)) hz
              have tz : (upd H4 z (.lst (NV fr))) z = some (.lst (NV fr)) := upd_same
              have tf5 : (upd H4 z (.lst (NV fr))) fl = some (.lst (NV fs)) := by rw [upd_ne (ne_of_none tf4 hz)]; exact tf4
              have tp5 : (upd H4 z (.lst (NV fr))) pl = some (.lst (V.ref t0 :: V.ref r0 :: V.int ((p : Nat) : Int) :: NV fr)) := by rw [upd_ne (ne_of_none tp4 hz)]; exact tp4
              generalize upd H4 z (.lst (NV fr)) = H5 at s5 tz tf5 tp5
              walk_at "fs_rd"
              refine in_tupleL (SqL.of tz) fun u hu => ?_
              have s6 := s5.new (o := .tup (NV fr)) hu
              have tu : (upd H5 u (.tup (NV fr))) u = some (.tup (NV fr)) := upd_same
              have tf6 : (upd H5 u (.tup (NV fr))) fl = some (.lst (NV fs)) := by rw [upd_ne (ne_of_none tf5 hu)]; exact tf5
              have tp6 : (upd H5 u (.tup (NV fr))) pl = some (.lst (V.ref t0 :: V.ref r0 :: V.int ((p : Nat) : Int) :: NV fr)) := by rw [upd_ne (ne_of_none tp5 hu)]; exact tp5
              have hup : u ≠ pl := fun e => by rw [e, tp5] at hu; cases hu
              generalize upd H5 u (.tup (NV fr)) = H6 at s6 tu tf6 tp6
              walk_at "fs_rd"
              refine in_set tp6 (ixN_of (i := 1) rfl (by simp)) ?_
              have s7 := s6.own (o := .lst ((V.ref t0 :: V.ref r0 :: V.int ((p : Nat) : Int) :: NV fr).set 1 (V.ref u))) hpl
              refine ⟨s7, by rw [upd_ne (Ne.symm hpf)]; exact tf6, ⟨V.ref t0, V.ref u, by rw [upd_same]; rfl, fun h => rfl, fun h => by omega, fun _ => ⟨u, rfl, by rw [upd_ne hup]; exact tu⟩, fun h => by omega⟩, _, _, rfl⟩
            · obtain ⟨i, hi, hil⟩ : ∃ i, 3 + fr.length - 1 - j = i + 2 ∧ i < (V.int ((p : Nat) : Int) :: NV fr).length := ⟨fr.length - j, by omega, by simp [NV_len]; omega⟩
              rw [hi]
              have hsc : Sc (V.int ((p : Nat) : Int) :: NV fr)[i] := sc_of (List.getElem?_eq_getElem hil)
              walk_at "fs_rd"
              refine in_ix (SqL.of tp4) (v := (V.int ((p : Nat) : Int) :: NV fr)[i]) (atI_nat (by rw [List.getElem?_cons_succ, List.getElem?_cons_succ, List.getElem?_eq_getElem hil])) ?_
              generalize (V.int ((p : Nat) : Int) :: NV fr)[i] = part at hsc
              walk_at "fs_rd"
              refine in_isi0L hsc ?_
              walk_at "fs_rd"
              refine in_isi0T hsc ?_
              walk_at "fs_rd"
              exact ⟨s4, tf4, ⟨_, y1, tp4, fun _ => rfl, fun h => hy1 (by omega), fun h => by omega, fun h => by omega⟩, _, _, rfl⟩
        · rintro σ H4 ⟨s4, tf4, ⟨y0, y1, tp4, _, _, _, hy3⟩, v3, v4, rfl⟩
          walk_at "fs_rd"
          refine in_ix (SqL.of tp4) (v := y0) (atI_nat (j := 0) rfl) ?_
          exact k y0 H4 s4 (hy3 rfl)

noncomputable def spRings (K : PySem.W.Frag) : Sp := fun vs H Q _ => ∃ (a : Addr) (os : List Nat), vs = [.ref a] ∧ (SqL K H a (NV os) ∨ SqT K H a (NV os)) ∧ os.length ≤ 200 ∧ (∀ o ∈ os, o < os.length) ∧
  ∀ (l : Addr) (ps : List Addr) H', H l = none → (∀ p ∈ ps, H p = none) → l ∉ ps → Same H H' → H' l = some (.lst (ps.map V.ref)) → LsAt H' ps (ringsF os) → Q (.ref l) H'
theorem ok_rings (T : Tx K mg t) : FnOk P w K mg t.bs CX0 1 t.f_rings t.d_rings ["order"] (spRings K) := by
  refine T.F_rings.okQ sc_rings (fun vs H Q E h => ?_) (fun cdv A outer s H vs Q E hr h => ?_)
  · obtain ⟨a, os, rfl, _⟩ := h
    rfl
  · obtain ⟨a, os, rfl, hs, hlen, hob, k⟩ := h
    rcases hs with hs | hs
    · refine ⟨_, (qb_cons (qs_set (i := 1) sc_rings.nd rfl (Or.inl rfl) (qe_op q_rep (qe_lst (qa_c qe_bl qa_nil)) (qe_callB (qc_len (K := K)) (by rfl) T.z_len bt_len (qa_c (qv 0) qa_nil))))
      (qb_cons (qs_set (i := 2) sc_rings.nd rfl (Or.inl rfl) (qe_lst qa_nil))
      (qb_cons (qs_for PassesOwn.never rfl (qi_range1 rfl T.z_range (qa_c (qe_callB (qc_len (K := K)) (by rfl) T.z_len bt_len (qa_c (qv 0) qa_nil)) qa_nil)) (qg_name (i := 3) sc_rings.nd rfl (Or.inl rfl)) (qb_cons (qs_set (i := 4) sc_rings.nd rfl (Or.inl rfl) (qe_lst qa_nil))
      (qb_cons (qs_set (i := 5) sc_rings.nd rfl (Or.inl rfl) (qv 3))
      (qb_cons (qs_while PassesOwn.never (qt_not (qt_val (qe_ix (q_ixL (K := K)) (qv 1) (qv 5)))) (qb_cons (qs_sub qe_bl (qv 1) (qv 5))
      (qb_cons (qs_expr (qe_append (K := K) (qv 4) (qa_c (qv 5) qa_nil)))
      (qb_one (qs_set (i := 5) sc_rings.nd rfl (Or.inl rfl) (qe_ix (q_ixL (K := K)) (qv 0) (qv 5)))))))
      (qb_one (qs_if (qt_cmpR q_gt (qe_callB (qc_len (K := K)) (by rfl) T.z_len bt_len (qa_c (qv 4) qa_nil)) qe_int (nomark _)) (qb_one (qs_expr (qe_append (K := K) (qv 2) (qa_c (qv 4) qa_nil)))) qb_nil))))))
      (qb_one (qs_ret (qv 2)))))), ?_⟩
      rw [show L2.start ["order", "met", "told", "first", "ring", "place"] [V.ref a] = [some (V.ref a), none, none, none, none, none] from rfl]
      walk_at "fs_rd"
      refine ⟨three (by simp), fun q0 hq0 => ?_⟩
      have s0 := (Same.refl H).new (o := .lst [V.bl false]) hq0
      have t0 : (upd H q0 (.lst [V.bl false])) q0 = some (.lst [V.bl false]) := upd_same
      generalize upd H q0 (.lst [V.bl false]) = H0 at s0 t0
      walk_at "fs_rd"
      refine in_lenL (s0.seq hs) ?_
      rw [NV_len]
      refine ⟨q0, _, _, rfl, rfl, t0, by omega, by omega, three (by simp; omega), fun m hm => ?_⟩
      have efl : (List.replicate ((os.length : Nat) : Int).toNat [V.bl false]).flatten = (upTo os 0).2.map V.bl := by
        show (List.replicate os.length [V.bl false]).flatten = (List.replicate os.length false).map V.bl
        rw [List.map_replicate, List.flatten_replicate_singleton]
      rw [efl]
      have s1 := s0.new (o := .lst ((upTo os 0).2.map V.bl)) hm
      have tm : (upd H0 m (.lst ((upTo os 0).2.map V.bl))) m = some (.lst ((upTo os 0).2.map V.bl)) := upd_same
      have hmn : H m = none := s0.free hm
      generalize upd H0 m (.lst ((upTo os 0).2.map V.bl)) = H1 at s1 tm
      walk_at "fs_rd"
      refine ⟨three (by simp), fun l hl => ?_⟩
      have hln : H l = none := s1.free hl
      have hml : m ≠ l := ne_of_none tm hl
      have s2 := s1.new (o := .lst []) hl
      have tl : (upd H1 l (.lst [])) l = some (.lst (([] : List Addr).map V.ref)) := upd_same
      have tm2 : (upd H1 l (.lst [])) m = some (.lst ((upTo os 0).2.map V.bl)) := by rw [upd_ne hml]; exact tm
      generalize upd H1 l (.lst []) = H2 at s2 tl tm2
      walk_at "fs_rd"
      refine in_lenL (s2.seq hs) ?_
      rw [NV_len]
      walk_at "fs_rd"
      refine ⟨os.length, rfl, by omega, by omega, for_range (fun i σ H' => Same H H' ∧ (∃ ps : List Addr, H' m = some (.lst ((upTo os i).2.map V.bl)) ∧ H' l = some (.lst (ps.map V.ref)) ∧ LsAt H' ps (upTo os i).1 ∧ ∀ p ∈ ps, H p = none ∧ p ≠ m ∧ p ≠ l) ∧ ∃ v1 v2 v3, σ = [some (V.ref a), some (V.ref m), some (V.ref l), v1, v2, v3]) ⟨s2, ⟨[], tm2, tl, LsAt.nil, fun p h => nomatch h⟩, _, _, _, rfl⟩ ?_ ?_⟩
      · rintro i σ H3 hi ⟨s3, ⟨ps, tm3, tl3, hL, hfr⟩, v1, v2, v3, rfl⟩
        have hi : i < os.length := by omega
        walk_at "fs_rd"
        refine ⟨three (by simp), fun g hg => ?_⟩
        have hgn : H g = none := s3.free hg
        have hgm : m ≠ g := ne_of_none tm3 hg
        have hgl : l ≠ g := ne_of_none tl3 hg
        have hgp : ∀ p ∈ ps, p ≠ g := fun p hp e => by
          obtain ⟨ns, _, e2⟩ := hL.some hp
          rw [e, hg] at e2; cases e2
        have s4 := s3.new (o := .lst []) hg
        have tg : (upd H3 g (.lst [])) g = some (.lst (NV [])) := upd_same
        have tm4 : (upd H3 g (.lst [])) m = some (.lst ((upTo os i).2.map V.bl)) := by rw [upd_ne hgm]; exact tm3
        have tl4 : (upd H3 g (.lst [])) l = some (.lst (ps.map V.ref)) := by rw [upd_ne hgl]; exact tl3
        have L4 := hL.same ((Same.refl H3).new (o := .lst []) hg)
        generalize upd H3 g (.lst []) = H4 at s4 tg tm4 tl4 L4
        rw [Int.zero_add]
        walk_at "fs_rd"
        refine ⟨fun c σ H5 => ∃ (met : List Bool) (rg : List Nat) (pl : Nat), Same H H5 ∧ H5 m = some (.lst (met.map V.bl)) ∧ H5 l = some (.lst (ps.map V.ref)) ∧ LsAt H5 ps (upTo os i).1 ∧ H5 g = some (.lst (NV rg)) ∧ (∃ v1, σ = [some (V.ref a), some (V.ref m), some (V.ref l), v1, some (V.ref g), some (V.int pl)]) ∧ pl < os.length ∧ met.length = os.length ∧ few met < c ∧ rg ++ (walk os c met pl).1 = (walk os (os.length + 1) (upTo os i).2 i).1 ∧ (walk os c met pl).2 = (walk os (os.length + 1) (upTo os i).2 i).2,
          ⟨os.length + 1, _, [], i, s4, tm4, tl4, L4, tg, ⟨_, rfl⟩, hi, upTo_len os i, by have := few_le (upTo os i).2; rw [upTo_len] at this; omega, rfl, rfl⟩, ?_⟩
        rintro c σ H5 ⟨met, rg, pl, s5, tm5, tl5, L5, tg5, ⟨v1, rfl⟩, hpl, hmt, hfc, hw1, hw2⟩
        have hme : met[pl]? = some met[pl] := by simp [hmt, hpl]
        have hat : atI (met.map V.bl) (pl : Int) = some (V.bl met[pl]) := atI_nat (by rw [List.getElem?_map, hme]; rfl)
        walk_at "fs_rd"
        refine in_ix (SqL.of tm5) hat ?_
        refine ⟨_, rfl, ?_⟩
        cases hb : met[pl] with
        | false =>
          rw [hb] at hme
          refine ⟨_, fun _ _ z => z, ?_⟩
          have ho : os[pl]? = some os[pl] := by simp [hpl]
          obtain ⟨c', rfl⟩ : ∃ c', c = c' + 1 := ⟨c - 1, by omega⟩
          rw [walk_go hme ho] at hw1 hw2
          have hfs := few_set hme
          walk_at "fs_rd"
          refine in_set tm5 (ixN_of rfl (by rw [List.length_map, hmt]; exact hpl)) ?_
          rw [← List.map_set]
          have s6 := s5.own (o := .lst ((met.set pl true).map V.bl)) hmn
          have tm6 : (upd H5 m (.lst ((met.set pl true).map V.bl))) m = some (.lst ((met.set pl true).map V.bl)) := upd_same
          have tl6 : (upd H5 m (.lst ((met.set pl true).map V.bl))) l = some (.lst (ps.map V.ref)) := by rw [upd_ne (Ne.symm hml)]; exact tl5
          have tg6 : (upd H5 m (.lst ((met.set pl true).map V.bl))) g = some (.lst (NV rg)) := by rw [upd_ne (Ne.symm hgm)]; exact tg5
          have L6 := L5.upd (x := m) (o := .lst ((met.set pl true).map V.bl)) fun p hp => (hfr p hp).2.1
          generalize upd H5 m (.lst ((met.set pl true).map V.bl)) = H6 at s6 tm6 tl6 tg6 L6
          walk_at "fs_rd"
          refine ⟨ty_list tg6, ?_⟩
          walk_at "fs_rd"
          have hrl : rg.length ≤ os.length + 1 := by
            have h9 := (walk_len (os := os) (os.length + 1) (upTo os i).2 i).2
            have h8 := congrArg List.length hw1
            rw [List.length_append] at h8
            omega
          refine in_append tg6 (by rw [NV_len]; exact small1000 (by omega)) ?_
          rw [NV_snoc]
          have s7 := s6.own (o := .lst (NV (rg ++ [pl]))) hgn
          have tg7 : (upd H6 g (.lst (NV (rg ++ [pl])))) g = some (.lst (NV (rg ++ [pl]))) := upd_same
          have tm7 : (upd H6 g (.lst (NV (rg ++ [pl])))) m = some (.lst ((met.set pl true).map V.bl)) := by rw [upd_ne hgm]; exact tm6
          have tl7 : (upd H6 g (.lst (NV (rg ++ [pl])))) l = some (.lst (ps.map V.ref)) := by rw [upd_ne hgl]; exact tl6
          have L7 := L6.upd (x := g) (o := .lst (NV (rg ++ [pl]))) hgp
          generalize upd H6 g (.lst (NV (rg ++ [pl]))) = H7 at s7 tm7 tl7 tg7 L7
          walk_at "fs_rd"
          refine in_ix (s7.seq hs) (NV_at rfl ho) ?_
          walk_at "fs_rd"
          exact ⟨c', by omega, met.set pl true, rg ++ [pl], os[pl], s7, tm7, tl7, L7, tg7, ⟨_, rfl⟩, hob _ (List.getElem_mem hpl), by simpa using hmt, by omega, by rw [← hw1, List.append_assoc]; rfl, hw2⟩
        | true =>
          rw [hb] at hme
          rw [walk_stop hme (by omega)] at hw1 hw2
          rw [List.append_nil] at hw1
          walk_at "fs_rd"
          refine in_lenL (SqL.of tg5) ?_
          rw [NV_len]
          walk_at "fs_rd"
          have hup := upTo_succ os i
          unfold goOn at hup
          simp only [← hw1, ← hw2] at hup
          refine in_split (fun g1 => ?_) (fun g1 => ?_)
          · rw [if_pos (by omega)] at hup
            walk_at "fs_rd"
            refine ⟨ty_list tl5, ?_⟩
            walk_at "fs_rd"
            have hup1 := (upTo_few os i).1
            refine in_append tl5 (by rw [List.length_map, L5.1]; exact small1000 (by omega)) ?_
            refine ⟨s5.own hln, ⟨ps ++ [g], ?_, by rw [upd_same, List.map_append]; rfl, ?_, fun p hp => ?_⟩, _, _, _, rfl⟩
            · rw [upd_ne hml, hup]; exact tm5
            · rw [hup]
              exact (L5.upd fun p hp => (hfr p hp).2.2).snoc (by rw [upd_ne (Ne.symm hgl)]; exact tg5)
            · rcases List.mem_append.mp hp with h | h
              · exact hfr p h
              · rw [List.mem_singleton.mp h]
                exact ⟨hgn, Ne.symm hgm, Ne.symm hgl⟩
          · rw [if_neg (by omega)] at hup
            walk_at "fs_rd"
            refine ⟨s5, ⟨ps, by rw [hup]; exact tm5, tl5, by rw [hup]; exact L5, hfr⟩, _, _, _, rfl⟩
      · rintro σ H3 ⟨s3, ⟨ps, tm3, tl3, hL, hfr⟩, v1, v2, v3, rfl⟩
        walk_at "fs_rd"
        exact k l ps H3 hln (fun p hp => (hfr p hp).1) (fun hp => (hfr l hp).2.2 rfl) s3 tl3 hL
    · refine ⟨_, (qb_cons (qs_set (i := 1) sc_rings.nd rfl (Or.inl rfl) (qe_op q_rep (qe_lst (qa_c qe_bl qa_nil)) (qe_callB (qc_len (K := K)) (by rfl) T.z_len bt_len (qa_c (qv 0) qa_nil))))
      (qb_cons (qs_set (i := 2) sc_rings.nd rfl (Or.inl rfl) (qe_lst qa_nil))
      (qb_cons (qs_for PassesOwn.never rfl (qi_range1 rfl T.z_range (qa_c (qe_callB (qc_len (K := K)) (by rfl) T.z_len bt_len (qa_c (qv 0) qa_nil)) qa_nil)) (qg_name (i := 3) sc_rings.nd rfl (Or.inl rfl)) (qb_cons (qs_set (i := 4) sc_rings.nd rfl (Or.inl rfl) (qe_lst qa_nil))
      (qb_cons (qs_set (i := 5) sc_rings.nd rfl (Or.inl rfl) (qv 3))
      (qb_cons (qs_while PassesOwn.never (qt_not (qt_val (qe_ix (q_ixL (K := K)) (qv 1) (qv 5)))) (qb_cons (qs_sub qe_bl (qv 1) (qv 5))
      (qb_cons (qs_expr (qe_append (K := K) (qv 4) (qa_c (qv 5) qa_nil)))
      (qb_one (qs_set (i := 5) sc_rings.nd rfl (Or.inl rfl) (qe_ix (q_ixT (K := K)) (qv 0) (qv 5)))))))
      (qb_one (qs_if (qt_cmpR q_gt (qe_callB (qc_len (K := K)) (by rfl) T.z_len bt_len (qa_c (qv 4) qa_nil)) qe_int (nomark _)) (qb_one (qs_expr (qe_append (K := K) (qv 2) (qa_c (qv 4) qa_nil)))) qb_nil))))))
      (qb_one (qs_ret (qv 2)))))), ?_⟩
      rw [show L2.start ["order", "met", "told", "first", "ring", "place"] [V.ref a] = [some (V.ref a), none, none, none, none, none] from rfl]
      walk_at "fs_rd"
      refine ⟨three (by simp), fun q0 hq0 => ?_⟩
      have s0 := (Same.refl H).new (o := .lst [V.bl false]) hq0
      have t0 : (upd H q0 (.lst [V.bl false])) q0 = some (.lst [V.bl false]) := upd_same
      generalize upd H q0 (.lst [V.bl false]) = H0 at s0 t0
      walk_at "fs_rd"
      refine in_lenT (s0.tup hs) ?_
      rw [NV_len]
      refine ⟨q0, _, _, rfl, rfl, t0, by omega, by omega, three (by simp; omega), fun m hm => ?_⟩
      have efl : (List.replicate ((os.length : Nat) : Int).toNat [V.bl false]).flatten = (upTo os 0).2.map V.bl := by
        show (List.replicate os.length [V.bl false]).flatten = (List.replicate os.length false).map V.bl
        rw [List.map_replicate, List.flatten_replicate_singleton]
      rw [efl]
      have s1 := s0.new (o := .lst ((upTo os 0).2.map V.bl)) hm
      have tm : (upd H0 m (.lst ((upTo os 0).2.map V.bl))) m = some (.lst ((upTo os 0).2.map V.bl)) := upd_same
      have hmn : H m = none := s0.free hm
      generalize upd H0 m (.lst ((upTo os 0).2.map V.bl)) = H1 at s1 tm
      walk_at "fs_rd"
      refine ⟨three (by simp), fun l hl => ?_⟩
      have hln : H l = none := s1.free hl
      have hml : m ≠ l := ne_of_none tm hl
      have s2 := s1.new (o := .lst []) hl
      have tl : (upd H1 l (.lst [])) l = some (.lst (([] : List Addr).map V.ref)) := upd_same
      have tm2 : (upd H1 l (.lst [])) m = some (.lst ((upTo os 0).2.map V.bl)) := by rw [upd_ne hml]; exact tm
      generalize upd H1 l (.lst []) = H2 at s2 tl tm2
      walk_at "fs_rd"
      refine in_lenT (s2.tup hs) ?_
      rw [NV_len]
      walk_at "fs_rd"
      refine ⟨os.length, rfl, by omega, by omega, for_range (fun i σ H' => Same H H' ∧ (∃ ps : List Addr, H' m = some (.lst ((upTo os i).2.map V.bl)) ∧ H' l = some (.lst (ps.map V.ref)) ∧ LsAt H' ps (upTo os i).1 ∧ ∀ p ∈ ps, H p = none ∧ p ≠ m ∧ p ≠ l) ∧ ∃ v1 v2 v3, σ = [some (V.ref a), some (V.ref m), some (V.ref l), v1, v2, v3]) ⟨s2, ⟨[], tm2, tl, LsAt.nil, fun p h => nomatch h⟩, _, _, _, rfl⟩ ?_ ?_⟩
      · rintro i σ H3 hi ⟨s3, ⟨ps, tm3, tl3, hL, hfr⟩, v1, v2, v3, rfl⟩
        have hi : i < os.length := by omega
        walk_at "fs_rd"
        refine ⟨three (by simp), fun g hg => ?_⟩
        have hgn : H g = none := s3.free hg
        have hgm : m ≠ g := ne_of_none tm3 hg
        have hgl : l ≠ g := ne_of_none tl3 hg
        have hgp : ∀ p ∈ ps, p ≠ g := fun p hp e => by
          obtain ⟨ns, _, e2⟩ := hL.some hp
          rw [e, hg] at e2; cases e2
        have s4 := s3.new (o := .lst []) hg
        have tg : (upd H3 g (.lst [])) g = some (.lst (NV [])) := upd_same
        have tm4 : (upd H3 g (.lst [])) m = some (.lst ((upTo os i).2.map V.bl)) := by rw [upd_ne hgm]; exact tm3
        have tl4 : (upd H3 g (.lst [])) l = some (.lst (ps.map V.ref)) := by rw [upd_ne hgl]; exact tl3
        have L4 := hL.same ((Same.refl H3).new (o := .lst []) hg)
        generalize upd H3 g (.lst []) = H4 at s4 tg tm4 tl4 L4
        rw [Int.zero_add]
        walk_at "fs_rd"
        refine ⟨fun c σ H5 => ∃ (met : List Bool) (rg : List Nat) (pl : Nat), Same H H5 ∧ H5 m = some (.lst (met.map V.bl)) ∧ H5 l = some (.lst (ps.map V.ref)) ∧ LsAt H5 ps (upTo os i).1 ∧ H5 g = some (.lst (NV rg)) ∧ (∃ v1, σ = [some (V.ref a), some (V.ref m), some (V.ref l), v1, some (V.ref g), some (V.int pl)]) ∧ pl < os.length ∧ met.length = os.length ∧ few met < c ∧ rg ++ (walk os c met pl).1 = (walk os (os.length + 1) (upTo os i).2 i).1 ∧ (walk os c met pl).2 = (walk os (os.length + 1) (upTo os i).2 i).2,
          ⟨os.length + 1, _, [], i, s4, tm4, tl4, L4, tg, ⟨_, rfl⟩, hi, upTo_len os i, by have := few_le (upTo os i).2; rw [upTo_len] at this; omega, rfl, rfl⟩, ?_⟩
        rintro c σ H5 ⟨met, rg, pl, s5, tm5, tl5, L5, tg5, ⟨v1, rfl⟩, hpl, hmt, hfc, hw1, hw2⟩
        have hme : met[pl]? = some met[pl] := by simp [hmt, hpl]
        have hat : atI (met.map V.bl) (pl : Int) = some (V.bl met[pl]) := atI_nat (by rw [List.getElem?_map, hme]; rfl)
        walk_at "fs_rd"
        refine in_ix (SqL.of tm5) hat ?_
        refine ⟨_, rfl, ?_⟩
        cases hb : met[pl] with
        | false =>
          rw [hb] at hme
          refine ⟨_, fun _ _ z => z, ?_⟩
          have ho : os[pl]? = some os[pl] := by simp [hpl]
          obtain ⟨c', rfl⟩ : ∃ c', c = c' + 1 := ⟨c - 1, by omega⟩
          rw [walk_go hme ho] at hw1 hw2
          have hfs := few_set hme
          walk_at "fs_rd"
          refine in_set tm5 (ixN_of rfl (by rw [List.length_map, hmt]; exact hpl)) ?_
          rw [← List.map_set]
          have s6 := s5.own (o := .lst ((met.set pl true).map V.bl)) hmn
          have tm6 : (upd H5 m (.lst ((met.set pl true).map V.bl))) m = some (.lst ((met.set pl true).map V.bl)) := upd_same
          have tl6 : (upd H5 m (.lst ((met.set pl true).map V.bl))) l = some (.lst (ps.map V.ref)) := by rw [upd_ne (Ne.symm hml)]; exact tl5
          have tg6 : (upd H5 m (.lst ((met.set pl true).map V.bl))) g = some (.lst (NV rg)) := by rw [upd_ne (Ne.symm hgm)]; exact tg5
          have L6 := L5.upd (x := m) (o := .lst ((met.set pl true).map V.bl)) fun p hp => (hfr p hp).2.1
          generalize upd H5 m (.lst ((met.set pl true).map V.bl)) = H6 at s6 tm6 tl6 tg6 L6
          walk_at "fs_rd"
          refine ⟨ty_list tg6, ?_⟩
          walk_at "fs_rd"
          have hrl : rg.length ≤ os.length + 1 := by
            have h9 := (walk_len (os := os) (os.length + 1) (upTo os i).2 i).2
            have h8 := congrArg List.length hw1
            rw [List.length_append] at h8
            omega
          refine in_append tg6 (by rw [NV_len]; exact small1000 (by omega)) ?_
          rw [NV_snoc]
          have s7 := s6.own (o := .lst (NV (rg ++ [pl]))) hgn
          have tg7 : (upd H6 g (.lst (NV (rg ++ [pl])))) g = some (.lst (NV (rg ++ [pl]))) := upd_same
          have tm7 : (upd H6 g (.lst (NV (rg ++ [pl])))) m = some (.lst ((met.set pl true).map V.bl)) := by rw [upd_ne hgm]; exact tm6
          have tl7 : (upd H6 g (.lst (NV (rg ++ [pl])))) l = some (.lst (ps.map V.ref)) := by rw [upd_ne hgl]; exact tl6
          have L7 := L6.upd (x := g) (o := .lst (NV (rg ++ [pl]))) hgp
          generalize upd H6 g (.lst (NV (rg ++ [pl]))) = H7 at s7 tm7 tl7 tg7 L7
          walk_at "fs_rd"
          refine in_ixT (s7.tup hs) (NV_at rfl ho) ?_
          walk_at "fs_rd"
          exact ⟨c', by omega, met.set pl true, rg ++ [pl], os[pl], s7, tm7, tl7, L7, tg7, ⟨_, rfl⟩, hob _ (List.getElem_mem hpl), by simpa using hmt, by omega, by rw [← hw1, List.append_assoc]; rfl, hw2⟩
        | true =>
          rw [hb] at hme
          rw [walk_stop hme (by omega)] at hw1 hw2
          rw [List.append_nil] at hw1
          walk_at "fs_rd"
          refine in_lenL (SqL.of tg5) ?_
          rw [NV_len]
          walk_at "fs_rd"
          have hup := upTo_succ os i
          unfold goOn at hup
          simp only [← hw1, ← hw2] at hup
          refine in_split (fun g1 => ?_) (fun g1 => ?_)
          · rw [if_pos (by omega)] at hup
            walk_at "fs_rd"
            refine ⟨ty_list tl5, ?_⟩
            walk_at "fs_rd"
            have hup1 := (upTo_few os i).1
            refine in_append tl5 (by rw [List.length_map, L5.1]; exact small1000 (by omega)) ?_
            refine ⟨s5.own hln, ⟨ps ++ [g], ?_, by rw [upd_same, List.map_append]; rfl, ?_, fun p hp => ?_⟩, _, _, _, rfl⟩
            · rw [upd_ne hml, hup]; exact tm5
            · rw [hup]
              exact (L5.upd fun p hp => (hfr p hp).2.2).snoc (by rw [upd_ne (Ne.symm hgl)]; exact tg5)
            · rcases List.mem_append.mp hp with h | h
              · exact hfr p h
              · rw [List.mem_singleton.mp h]
                exact ⟨hgn, Ne.symm hgm, Ne.symm hgl⟩
          · rw [if_neg (by omega)] at hup
            walk_at "fs_rd"
            refine ⟨s5, ⟨ps, by rw [hup]; exact tm5, tl5, by rw [hup]; exact L5, hfr⟩, _, _, _, rfl⟩
      · rintro σ H3 ⟨s3, ⟨ps, tm3, tl3, hL, hfr⟩, v1, v2, v3, rfl⟩
        walk_at "fs_rd"
        exact k l ps H3 hln (fun p hp => (hfr p hp).1) (fun hp => (hfr l hp).2.2 rfl) s3 tl3 hL

noncomputable def spRM (K : PySem.W.Frag) : Sp := fun vs H Q _ => ∃ (a : Addr) (os : List Nat), vs = [.ref a] ∧ (SqL K H a (NV os) ∨ SqT K H a (NV os)) ∧ os.length ≤ 200 ∧ (∀ o ∈ os, o < os.length) ∧ ∀ H', Same H H' → Q (.int (((ringsF os).map fun r => r.length + 1).sum : Nat)) H'
theorem ok_ring_moves (T : Tx K mg t) : FnOk P w K mg t.bs CX0 2 t.f_ring_moves t.d_ring_moves ["order"] (spRM K) := by
  refine T.F_ring_moves.okQ sc_ring_moves (fun vs H Q E h => ?_) (fun cdv A outer s H vs Q E hr h => ?_)
  · obtain ⟨a, os, rfl, _⟩ := h
    rfl
  · obtain ⟨a, os, rfl, hs, hlen, hob, k⟩ := h
    refine ⟨_, (qb_one (qs_ret (qe_callB (qc_sum (K := K) rfl) (by rfl) T.z_sum bt_sum (qa_c (qe_comp (N := ["ring"]) (tgs := ["ring"]) (frs := []) (ix := []) ⟨rfl, by decide +kernel, rfl, by decide +kernel, rfl, rfl, True.intro, True.intro, rfl⟩ rfl (qi_list (K := K) (qe_call (ok_rings T) (hr.mono (by decide)) rfl T.m_rings T.F_rings.kp T.b_rings pass0 (qa_c (qv 0) qa_nil))) (fun _ _ _ _ => (qg_name (i := 0) (by show List.Nodup (["ring"] : List Str); decide +kernel) rfl (Or.inl rfl))) (fun _ _ _ _ => (qe_op q_add (qe_callB (qc_len (K := K)) (by rfl) T.z_len bt_len (qa_c (qv 0) qa_nil)) qe_int))) qa_nil)))), ?_⟩
    rw [show L2.start ["order"] [V.ref a] = [some (V.ref a)] from rfl]
    walk_at "fs_rd"
    refine ⟨a, os, rfl, hs, hlen, hob, fun l ps H1 hl hps hlp s1 tl hL => ?_⟩
    have hpl : ps.length = (ringsF os).length := hL.1
    have hfew := (upTo_few os os.length).1
    walk_at "fs_rd"
    refine ⟨l, rfl, ⟨_, SqL.of tl⟩, comp_lst (a := l) (vs := ps.map V.ref) (fun i ys σ H' => H' = H1 ∧ i ≤ ps.length ∧ ys = NV (((ringsF os).take i).map fun r => r.length + 1) ∧ ∃ v, σ = [v]) (by rw [List.length_map, hpl]; exact small1000 (by have h9 : (ringsF os).length ≤ os.length := hfew; omega)) (fun i ys σ H' h => by rw [h.2.2.1, NV_len, List.length_map, List.length_take]; omega) (fun i ys σ H' h => by rw [h.1]; exact SqL.of tl) ⟨rfl, Nat.zero_le _, rfl, none, rfl⟩ ?_ ?_⟩
    · rintro i ys σ H2 x hx ⟨rfl, _, rfl, v, rfl⟩
      obtain ⟨q, rfl, hq, _, hil⟩ := map_get hx
      have hir : i < (ringsF os).length := by omega
      have tq := hL.2 i q (ringsF os)[i] hq (by simp [hir])
      walk_at "fs_rd"
      refine in_lenL (SqL.of tq) ?_
      rw [NV_len]
      walk_at "fs_rd"
      refine Nx.mk (by rw [List.length_map]; exact hil) ⟨rfl, hil, ?_, _, rfl⟩
      rw [take_one hir, List.map_append]
      exact (NV_snoc _ _).symm ▸ rfl
    · rintro ys σ H2 ⟨e2, _, rfl, v, rfl⟩ z hz
      subst e2
      rw [List.length_map, List.take_of_length_le (by omega)]
      walk_at "fs_rd"
      refine in_sum (ns := ((ringsF os).map fun r => r.length + 1).map fun x : Nat => (x : Int)) (SqL.of (by rw [← NV_int]; exact upd_same)) ?_
      rw [sum_castN]
      exact k _ (s1.new hz)

noncomputable def spMoR : Sp := fun vs H Q _ => ∃ (a : Addr) (r : List Nat), vs = [.ref a] ∧ H a = some (.lst (NV r)) ∧ 1 < r.length ∧ r.length ≤ 201 ∧ ∀ (l : Addr) (ps : List Addr) H', H l = none → Same H H' → H' l = some (.lst (ps.map V.ref)) → MvsAt H' ps (mvR r) → Q (.ref l) H'
theorem mvs_upd {H : Hp} {ps : List Addr} {ms : List RMv} {l : Addr} {xs ys : List V} (h : MvsAt H ps ms) (e : H l = some (.lst xs)) : MvsAt (upd H l (.lst ys)) ps ms := h.tk (TupK.upd e fun xs z => by cases z)
theorem last_nv {r : List Nat} (h : 0 < r.length) : NV r = NV (r.take (r.length - 1)) ++ [V.int ((r.getD (r.length - 1) 0 : Nat) : Int)] := by
  rw [NV_snoc]
  congr 1
  have e : r.take (r.length - 1 + 1) = r := List.take_of_length_le (by omega)
  conv => lhs; rw [← e]
  rw [List.take_add_one, getD_at (show r.length - 1 < r.length by omega)]; rfl
theorem ok_moves_of_ring (T : Tx K mg t) : FnOk P w K mg t.bs CX0 1 t.f_moves_of_ring t.d_moves_of_ring ["ring"] spMoR := by
  refine T.F_moves_of_ring.okQ sc_moves_of_ring (fun vs H Q E h => ?_) (fun cdv A outer s H vs Q E hr h => ?_)
  · obtain ⟨a, r, rfl, _⟩ := h
    rfl
  · obtain ⟨a, r, rfl, ta, h1, h2, k⟩ := h
    refine ⟨_, (qb_cons (qs_set (i := 1) sc_moves_of_ring.nd rfl (Or.inl rfl) (qe_lst (qa_c (qe_tup (qa_c qe_str (qa_c (qe_ix (q_ixL (K := K)) (qv 0) qe_int) qa_nil))) qa_nil)))
      (qb_cons (qs_for PassesOwn.never rfl (qi_range1 rfl T.z_range (qa_c (qe_op q_sub (qe_callB (qc_len (K := K)) (by rfl) T.z_len bt_len (qa_c (qv 0) qa_nil)) qe_int) qa_nil)) (qg_name (i := 2) sc_moves_of_ring.nd rfl (Or.inl rfl)) (qb_one (qs_expr (qe_append (K := K) (qv 1) (qa_c (qe_tup (qa_c qe_str (qa_c (qe_ix (q_ixL (K := K)) (qv 0) (qe_op q_add (qv 2) qe_int)) (qa_c (qe_ix (q_ixL (K := K)) (qv 0) (qv 2)) qa_nil)))) qa_nil)))))
      (qb_cons (qs_expr (qe_append (K := K) (qv 1) (qa_c (qe_tup (qa_c qe_str (qa_c (qe_ix (q_ixL (K := K)) (qv 0) (qe_un q_neg qe_int)) qa_nil))) qa_nil)))
      (qb_one (qs_ret (qv 1)))))), ?_⟩
    rw [show L2.start ["ring", "told", "at"] [V.ref a] = [some (V.ref a), none, none] from rfl]
    walk_at "fs_rd"
    refine in_ix (SqL.of ta) (NV_at rfl (getD_at (show 0 < r.length by omega))) ?_
    walk_at "fs_rd"
    refine ⟨three (by simp), fun t0 ht0 => ?_⟩
    have s1 := (Same.refl H).new (o := .tup (RMv.take (r.getD 0 0)).vs) ht0
    have tt0 : (upd H t0 (.tup (RMv.take (r.getD 0 0)).vs)) t0 = some (.tup (RMv.take (r.getD 0 0)).vs) := upd_same
    generalize eH1 : upd H t0 (.tup (RMv.take (r.getD 0 0)).vs) = H1 at s1 tt0
    have eH1' : upd H t0 (.tup [V.str "take", V.int (r.getD 0 0 : Nat)]) = H1 := eH1
    rw [eH1']
    walk_at "fs_rd"
    refine ⟨three (by simp), fun l hl => ?_⟩
    have hln : H l = none := s1.free hl
    have s2 := s1.new (o := .lst [V.ref t0]) hl
    have tl2 : (upd H1 l (.lst [V.ref t0])) l = some (.lst (([t0] : List Addr).map V.ref)) := upd_same
    have M2 : MvsAt (upd H1 l (.lst [V.ref t0])) [t0] (RMv.take (r.getD 0 0) :: mvI r 0) := MvsAt.snoc (ps := []) (ms := []) MvsAt.nil (((Same.refl H1).new (o := .lst [V.ref t0]) hl) _ _ tt0)
    generalize upd H1 l (.lst [V.ref t0]) = H2 at s2 tl2 M2
    walk_at "fs_rd"
    refine in_lenL (SqL.of (s2 _ _ ta)) ?_
    rw [NV_len]
    walk_at "fs_rd"
    have em : ((r.length : Nat) : Int) - 1 = ((r.length - 1 : Nat) : Int) := by omega
    rw [em]
    refine ⟨((r.length - 1 : Nat) : Int), rfl, by omega, by omega, for_range (fun i σ H' => Same H H' ∧ (∃ ps : List Addr, H' l = some (.lst (ps.map V.ref)) ∧ MvsAt H' ps (RMv.take (r.getD 0 0) :: mvI r i)) ∧ ∃ v, σ = [some (V.ref a), some (V.ref l), v]) ⟨s2, ⟨[t0], tl2, M2⟩, _, rfl⟩ ?_ ?_⟩
    · rintro i σ H3 hi ⟨s3, ⟨ps, tl3, M3⟩, v, rfl⟩
      have hpl : ps.length = i + 1 := by rw [M3.1]; simp [mvI]
      rw [Int.zero_add]
      walk_at "fs_rd"
      refine ⟨ty_list tl3, ?_⟩
      walk_at "fs_rd"
      refine in_ix (SqL.of (s3 _ _ ta)) (NV_at rfl (getD_at (show i + 1 < r.length by omega))) ?_
      walk_at "fs_rd"
      refine in_ix (SqL.of (s3 _ _ ta)) (NV_at rfl (getD_at (show i < r.length by omega))) ?_
      walk_at "fs_rd"
      refine ⟨three (by simp), fun q hq => ?_⟩
      have s4 := s3.new (o := .tup (RMv.move (r.getD (i + 1) 0) (r.getD i 0)).vs) hq
      have s34 := (Same.refl H3).new (o := .tup (RMv.move (r.getD (i + 1) 0) (r.getD i 0)).vs) hq
      have tq : (upd H3 q (.tup (RMv.move (r.getD (i + 1) 0) (r.getD i 0)).vs)) q = some (.tup (RMv.move (r.getD (i + 1) 0) (r.getD i 0)).vs) := upd_same
      have tl4 := s34 _ _ tl3
      have M4 := M3.tk (TupK.of s34)
      generalize eH4 : upd H3 q (.tup (RMv.move (r.getD (i + 1) 0) (r.getD i 0)).vs) = H4 at s4 s34 tq tl4 M4
      have eH4' : upd H3 q (.tup [V.str "move", V.int (r.getD (i + 1) 0 : Nat), V.int (r.getD i 0 : Nat)]) = H4 := eH4
      rw [eH4']
      walk_at "fs_rd"
      refine in_append tl4 (by rw [List.length_map, hpl]; exact small1000 (by omega)) ?_
      refine ⟨s4.own hln, ⟨ps ++ [q], by rw [upd_same, List.map_append]; rfl, ?_⟩, _, rfl⟩
      rw [mvI_succ, ← List.cons_append]
      exact mvs_upd (M4.snoc tq) tl4
    · rintro σ H3 ⟨s3, ⟨ps, tl3, M3⟩, v, rfl⟩
      have hpl : ps.length = r.length := by rw [M3.1]; simp [mvI]; omega
      walk_at "fs_rd"
      refine ⟨ty_list tl3, ?_⟩
      walk_at "fs_rd"
      refine in_ix (SqL.of (s3 _ _ ta)) (by rw [last_nv (show 0 < r.length by omega)]; exact atI_last _ _) ?_
      walk_at "fs_rd"
      refine ⟨three (by simp), fun q hq => ?_⟩
      have s4 := s3.new (o := .tup (RMv.lay (r.getD (r.length - 1) 0)).vs) hq
      have s34 := (Same.refl H3).new (o := .tup (RMv.lay (r.getD (r.length - 1) 0)).vs) hq
      have tq : (upd H3 q (.tup (RMv.lay (r.getD (r.length - 1) 0)).vs)) q = some (.tup (RMv.lay (r.getD (r.length - 1) 0)).vs) := upd_same
      have tl4 := s34 _ _ tl3
      have M4 := M3.tk (TupK.of s34)
      generalize eH4 : upd H3 q (.tup (RMv.lay (r.getD (r.length - 1) 0)).vs) = H4 at s4 s34 tq tl4 M4
      have eH4' : upd H3 q (.tup [V.str "lay", V.int (r.getD (r.length - 1) 0 : Nat)]) = H4 := eH4
      rw [eH4']
      walk_at "fs_rd"
      refine in_append tl4 (by rw [List.length_map, hpl]; exact small1000 (by omega)) ?_
      walk_at "fs_rd"
      refine k l (ps ++ [q]) _ hln (s4.own hln) (by rw [upd_same, List.map_append]; rfl) ?_
      have e : mvR r = (RMv.take (r.getD 0 0) :: mvI r (r.length - 1)) ++ [RMv.lay (r.getD (r.length - 1) 0)] := rfl
      rw [e]
      exact mvs_upd (M4.snoc tq) tl4

noncomputable def spPut : Sp := fun vs H Q _ => ∃ (a c : Addr) (zs : List V) (ds : List (List Nat × Nat)) (os : List Nat) (n : Nat), vs = [.ref a, .ref c] ∧ H a = some (.lst zs) ∧ PrAt H zs ds ∧ zs.length = n ∧ H c = some (.lst (NV os)) ∧ Ord os n ∧ n ≤ 60 ∧
  ∀ (l : Addr) (ys : List V) H', H l = none → Same H H' → H' l = some (.lst ys) → PrAt H' ys (os.map fun o => ds.getD o ([], 0)) → Q (.ref l) H'
theorem ok_put (T : Tx K mg t) : FnOk P w K mg t.bs CX0 3 t.f_put t.d_put ["things", "order"] spPut := by
  refine T.F_put.okQ sc_put (fun vs H Q E h => ?_) (fun cdv A outer s H vs Q E hr h => ?_)
  · obtain ⟨a, c, zs, ds, os, n, rfl, _⟩ := h
    rfl
  · obtain ⟨a, c, zs, ds, os, n, rfl, ha, hT, hzn, tc, hO, hn, k⟩ := h
    have hlen := hO.len
    refine ⟨_, (qb_cons (qs_expr (qe_call (ok_check_order T) (hr.mono (by decide)) rfl T.m_check_order T.F_check_order.kp T.b_check_order pass0 (qa_c (qv 1) (qa_c (qe_callB (qc_len (K := K)) (by rfl) T.z_len bt_len (qa_c (qv 0) qa_nil)) qa_nil))))
      (qb_one (qs_ret (qe_comp (N := ["place", "things"]) (tgs := ["place"]) (frs := ["things"]) (ix := [0]) ⟨rfl, by decide +kernel, rfl, by decide +kernel, rfl, rfl, ⟨⟨rfl, rfl, _, rfl, rfl⟩, True.intro⟩, ⟨rfl, True.intro⟩, rfl⟩ rfl (qi_list (K := K) (qv 1)) (fun _ _ _ _ => (qg_name (i := 0) (by show List.Nodup (["place", "things"] : List Str); decide +kernel) rfl (Or.inl rfl))) (fun _ _ _ _ => (qe_call (ok_own_copy T) (hr.mono (by decide)) rfl T.m_own_copy T.F_own_copy.kp T.b_own_copy pass0 (qa_c (qe_ix (q_ixL (K := K)) (qv 1) (qv 0)) qa_nil))))))), ?_⟩
    rw [show L2.start ["things", "order"] [V.ref a, V.ref c] = [some (V.ref a), some (V.ref c)] from rfl]
    walk_at "fs_rd"
    refine in_lenL (SqL.of ha) ?_
    rw [hzn]
    walk_at "fs_rd"
    refine ⟨c, os, n, rfl, .inl tc, hO, hn, fun H1 s1 => ?_⟩
    have tc1 := s1 _ _ tc
    walk_at "fs_rd"
    refine ⟨c, rfl, ⟨_, SqL.of tc1⟩, comp_lst (a := c) (vs := NV os) (fun i ys σ H' => Same H1 H' ∧ PrAt H' ys ((os.take i).map fun o => ds.getD o ([], 0)) ∧ i ≤ os.length ∧ ∃ v, σ = [v, some (V.ref a)]) (by rw [NV_len]; exact small1000 (by omega)) (fun i ys σ H' h => by rw [h.2.1.1, List.length_map, List.length_take]; have := h.2.2.1; omega) (fun i ys σ H' h => SqL.of (h.1 _ _ tc1)) ⟨Same.refl _, PrAt.nil, Nat.zero_le _, none, rfl⟩ ?_ ?_⟩
    · rintro i ys σ H2 x hx ⟨s2, hys, hi9, v, rfl⟩
      have hil := get_lt hx
      obtain ⟨o, rfl, ho, hom, hi⟩ := map_get hx
      have hon : o < zs.length := by rw [hzn]; exact hO.lt o hom
      obtain ⟨z, hz1, hz2⟩ := hT.at hon
      walk_at "fs_rd"
      refine in_ix (SqL.of ((s1.trans s2) _ _ ha)) (v := z) (atI_nat hz1) ?_
      walk_at "fs_rd"
      refine ⟨z, (ds.getD o ([], 0)).1, (ds.getD o ([], 0)).2, rfl, hz2.tk (TupK.of (s1.trans s2)), fun y H3 s3 hy => ?_⟩
      refine Nx.mk hil ⟨s2.trans s3, ?_, by rw [NV_len] at hil; exact hil, _, rfl⟩
      rw [List.take_add_one, ho, List.map_append]
      exact (hys.tk (TupK.of s3)).snoc hy
    · rintro ys σ H2 ⟨s2, hys, _, v, rfl⟩ l hl
      rw [NV_len, List.take_of_length_le (Nat.le_refl _)] at hys
      exact k l ys _ (s1.free (s2.free hl)) ((s1.trans s2).new hl) upd_same (hys.tk (TupK.of ((Same.refl H2).new hl)))

noncomputable def spLeft (C : Addr) : Sp := fun vs H Q _ => ∃ (w ta pa : Addr) (ps : List Addr) (us : List V) (hv : V) (ms : List RMv) (d : Nat), vs = [.ref w] ∧ RwP C H w ta pa ps us hv ms d ∧ d ≤ ms.length ∧ Q (.int ((ms.length - d : Nat) : Int)) H
theorem ok_RingWalk_left (T : Tx K mg t) : FnOk P w K mg t.bs CX0 1 t.f_RingWalk_left t.d_RingWalk_left ["self"] (spLeft t.c_RingWalk) := by
  refine T.F_RingWalk_left.okQ sc_RingWalk_left (fun vs H Q E h => ?_) (fun cdv A outer s H vs Q E hr h => ?_)
  · obtain ⟨w, ta, pa, ps, us, hv, ms, d, rfl, _⟩ := h
    rfl
  · obtain ⟨w, ta, pa, ps, us, hv, ms, d, rfl, W, hd, k⟩ := h
    obtain ⟨dx, ob⟩ := W.ob
    refine ⟨_, (qb_one (qs_ret (qe_op q_sub (qe_callB (qc_len (K := K)) (by rfl) T.z_len bt_len (qa_c (qe_fld (K := K) (qv 0)) qa_nil)) (qe_fld (K := K) (qv 0))))), ?_⟩
    rw [show L2.start ["self"] [V.ref w] = [some (V.ref w)] from rfl]
    walk_at "fs_rd"
    refine ⟨w, t.c_RingWalk, dx, _, _, rfl, ob, T.cl_RingWalk, T.n_RingWalk_plan, rwF_at_plan _ _ _ _, ?_⟩
    walk_at "fs_rd"
    refine in_lenL (SqL.of W.tp) ?_
    rw [List.length_map, W.mv.1]
    walk_at "fs_rd"
    refine ⟨w, t.c_RingWalk, dx, _, _, rfl, ob, T.cl_RingWalk, T.n_RingWalk_done, rwF_at_done _ _ _ _, ?_⟩
    walk_at "fs_rd"
    have e : ((ms.length - d : Nat) : Int) = ((ms.length : Nat) : Int) - ((d : Nat) : Int) := by omega
    rw [e] at k
    exact k
noncomputable def spRow (C : Addr) : Sp := fun vs H Q _ => ∃ (w ta pa : Addr) (ps : List Addr) (us : List V) (hv : V) (ms : List RMv) (d : Nat), vs = [.ref w] ∧ RwP C H w ta pa ps us hv ms d ∧ us.length ≤ 200 ∧ (∀ u ∈ us, u ≠ .non) ∧ ∀ (l : Addr) (rs : List V) H', H l = none → Same H H' → H' l = some (.lst rs) → AlkP H' us rs → Q (.ref l) H'
theorem ok_RingWalk_row (T : Tx K mg t) : FnOk P w K mg t.bs CX0 2 t.f_RingWalk_row t.d_RingWalk_row ["self"] (spRow t.c_RingWalk) := by
  refine T.F_RingWalk_row.okQ sc_RingWalk_row (fun vs H Q E h => ?_) (fun cdv A outer s H vs Q E hr h => ?_)
  · obtain ⟨w, ta, pa, ps, us, hv, ms, d, rfl, _⟩ := h
    rfl
  · obtain ⟨w, ta, pa, ps, us, hv, ms, d, rfl, W, hn, hnn, k⟩ := h
    obtain ⟨dx, ob⟩ := W.ob
    refine ⟨_, (qb_one (qs_ret (qe_comp (N := ["thing"]) (tgs := ["thing"]) (frs := []) (ix := []) ⟨rfl, by decide +kernel, rfl, by decide +kernel, rfl, rfl, True.intro, True.intro, rfl⟩ rfl (qi_list (K := K) (qe_fld (K := K) (qv 0))) (fun _ _ _ _ => (qg_name (i := 0) (by show List.Nodup (["thing"] : List Str); decide +kernel) rfl (Or.inl rfl))) (fun _ _ _ _ => (qe_call (ok_own_copy T) (hr.mono (by decide)) rfl T.m_own_copy T.F_own_copy.kp T.b_own_copy pass0 (qa_c (qv 0) qa_nil)))))), ?_⟩
    rw [show L2.start ["self"] [V.ref w] = [some (V.ref w)] from rfl]
    walk_at "fs_rd"
    refine ⟨w, t.c_RingWalk, dx, _, _, rfl, ob, T.cl_RingWalk, T.n_RingWalk_things, rwF_at_things _ _ _ _, ?_⟩
    walk_at "fs_rd"
    refine ⟨ta, rfl, ⟨_, SqL.of W.tt⟩, comp_lst (a := ta) (vs := us) (fun i ys σ H' => Same H H' ∧ AlkP H' (us.take i) ys ∧ i ≤ us.length ∧ ∃ v, σ = [v]) (small1000 (by omega)) (fun i ys σ H' h => by rw [← h.2.1.1, List.length_take]; have := h.2.2.1; omega) (fun i ys σ H' h => SqL.of (h.1 _ _ W.tt)) ⟨Same.refl _, ⟨rfl, fun i v u a => by simp at a⟩, Nat.zero_le _, none, rfl⟩ ?_ ?_⟩
    · rintro i ys σ H1 x hx ⟨s1, A1, hi, v, rfl⟩
      have hil := get_lt hx
      obtain ⟨dd, hg⟩ := W.th x (List.mem_of_getElem? hx)
      cases dd with
      | none => exact absurd hg (hnn x (List.mem_of_getElem? hx))
      | some dd =>
      walk_at "fs_rd"
      refine ⟨x, dd.1, dd.2, rfl, hg.tk (TupK.of s1), fun y H2 s2 hy0 => ?_⟩
      have hy : PrE H2 x y := ⟨some dd, hg.tk (TupK.of (s1.trans s2)), hy0⟩
      refine Nx.mk hil ⟨s1.trans s2, ?_, hil, _, rfl⟩
      rw [List.take_add_one, hx]
      exact (A1.tk (TupK.of s2)).snoc hy
    · rintro ys σ H1 ⟨s1, A1, hi, v, rfl⟩ l hl
      rw [List.take_of_length_le (Nat.le_refl _)] at A1
      exact k l ys _ (s1.free hl) (s1.new hl) upd_same (A1.tk (TupK.of ((Same.refl H1).new hl)))
noncomputable def spStepR (C : Addr) : Sp := fun vs H Q _ => ∃ (w ta pa : Addr) (ps : List Addr) (us : List V) (hv : V) (ms : List RMv) (d : Nat), vs = [.ref w] ∧ RwP C H w ta pa ps us hv ms d ∧ (∀ m ∈ ms, m.lt us.length) ∧ d ≤ ms.length ∧
  (d = ms.length → Q .non H) ∧ ∀ (m : RMv) (p : Addr) H', ms[d]? = some m → ps[d]? = some p → RwP C H' w ta pa ps (RMv.on (us, hv) m).1 (RMv.on (us, hv) m).2 ms (d + 1) → KpR w ta H H' → H' p = some (.tup m.vs) → Q (.ref p) H'
theorem ok_RingWalk_step (T : Tx K mg t) : FnOk P w K mg t.bs CX0 2 t.f_RingWalk_step t.d_RingWalk_step ["self"] (spStepR t.c_RingWalk) := by
  refine T.F_RingWalk_step.okQ sc_RingWalk_step (fun vs H Q E h => ?_) (fun cdv A outer s H vs Q E hr h => ?_)
  · obtain ⟨w, ta, pa, ps, us, hv, ms, d, rfl, _⟩ := h
    rfl
  · obtain ⟨w, ta, pa, ps, us, hv, ms, d, rfl, W, hlt, hd, k1, k2⟩ := h
    obtain ⟨dx, ob⟩ := W.ob
    refine ⟨_, (qb_cons (qs_if (qt_cmpR q_eq (qe_meth0 (qv 0) T.cl_RingWalk T.M_RingWalk_left (ok_RingWalk_left T) (hr.mono (by decide)) T.b_RingWalk_left pass0 ) qe_int (nomark _)) (qb_one (qs_ret qe_non)) qb_nil)
      (qb_cons (qs_set (i := 1) sc_RingWalk_step.nd rfl (Or.inl rfl) (qe_ix (q_ixL (K := K)) (qe_fld (K := K) (qv 0)) (qe_fld (K := K) (qv 0))))
      (qb_cons (qs_fldaug (K := K) (qv 0) qe_int q_iadd)
      (qb_cons (qs_if (qt_cmpR q_eq (qe_ix (q_ixT (K := K)) (qv 1) qe_int) qe_str (nomark _)) (qb_cons (qs_fld (K := K) (qv 0) (qe_ix (q_ixL (K := K)) (qe_fld (K := K) (qv 0)) (qe_ix (q_ixT (K := K)) (qv 1) qe_int)))
      (qb_one (qs_sub qe_non (qe_fld (K := K) (qv 0)) (qe_ix (q_ixT (K := K)) (qv 1) qe_int)))) (qb_one (qs_if (qt_cmpR q_eq (qe_ix (q_ixT (K := K)) (qv 1) qe_int) qe_str (nomark _)) (qb_cons (qs_sub (qe_ix (q_ixL (K := K)) (qe_fld (K := K) (qv 0)) (qe_ix (q_ixT (K := K)) (qv 1) qe_int)) (qe_fld (K := K) (qv 0)) (qe_ix (q_ixT (K := K)) (qv 1) qe_int))
      (qb_one (qs_sub qe_non (qe_fld (K := K) (qv 0)) (qe_ix (q_ixT (K := K)) (qv 1) qe_int)))) (qb_cons (qs_sub (qe_fld (K := K) (qv 0)) (qe_fld (K := K) (qv 0)) (qe_ix (q_ixT (K := K)) (qv 1) qe_int))
      (qb_one (qs_fld (K := K) (qv 0) qe_non))))))
      (qb_one (qs_ret (qv 1))))))), ?_⟩
    rw [show L2.start ["self", "move"] [V.ref w] = [some (V.ref w), none] from rfl]
    walk_at "fs_rd"
    refine ⟨w, dx, _, rfl, ob, rwF_no _ _ _ _ (by decide +kernel) (by decide +kernel) (by decide +kernel) (by decide +kernel), ?_⟩
    walk_at "fs_rd"
    refine ⟨w, ta, pa, ps, us, hv, ms, d, rfl, W, hd, ?_⟩
    walk_at "fs_rd"
    rcases Nat.lt_or_ge d ms.length with hlt2 | hge
    · have em : ms[d]? = some ms[d] := List.getElem?_eq_getElem hlt2
      have hpd : d < ps.length := by rw [W.mv.1]; exact hlt2
      have ep : ps[d]? = some ps[d] := List.getElem?_eq_getElem hpd
      have hml := hlt _ (List.getElem_mem hlt2)
      have tm := W.mv.2 d _ _ ep em
      generalize ms[d] = m at em hml tm
      generalize ps[d] = p at ep tm
      have k3 := k2 m p
      rw [decide_eq_false (show ¬ V.int ((ms.length - d : Nat) : Int) = V.int 0 from fun z => by have := V.int.inj z; omega)]
      walk_at "fs_rd"
      refine ⟨w, t.c_RingWalk, dx, _, _, rfl, ob, T.cl_RingWalk, T.n_RingWalk_plan, rwF_at_plan _ _ _ _, ?_⟩
      walk_at "fs_rd"
      refine ⟨w, t.c_RingWalk, dx, _, _, rfl, ob, T.cl_RingWalk, T.n_RingWalk_done, rwF_at_done _ _ _ _, ?_⟩
      walk_at "fs_rd"
      refine in_ix (SqL.of W.tp) (v := V.ref p) (atI_nat (by rw [List.getElem?_map, ep]; rfl)) ?_
      walk_at "fs_rd"
      refine ⟨w, t.c_RingWalk, dx, _, _, rfl, ob, T.cl_RingWalk, T.n_RingWalk_done, rwF_at_done _ _ _ _, ?_⟩
      walk_at "fs_rd"
      refine ⟨dx, _, ob, by show 4 < 1000; decide, ?_⟩
      have e1 : ((d : Nat) : Int) + 1 = ((d + 1 : Nat) : Int) := by omega
      rw [e1, rwF_done]
      have W1 := W.setW (dx := dx) (v := hv) (n := d + 1) W.hh
      have K1 : KpR w ta H _ := KpR.upW (o := .ins t.c_RingWalk dx (rwF ta hv pa ((d + 1 : Nat) : Int)))
      have tm1 := W.tkp K1 _ _ tm
      generalize upd H w (.ins t.c_RingWalk dx (rwF ta hv pa ((d + 1 : Nat) : Int))) = H1 at W1 K1 tm1
      obtain ⟨dx1, ob1⟩ := W1.ob
      cases m with
      | take x =>
        have hx : x < us.length := hml
        have hux : us[x]? = some (us.getD x .non) := by rw [List.getD_eq_getElem?_getD, List.getElem?_eq_getElem hx]; rfl
        have tm1' : H1 p = some (.tup [V.str "take", V.int (x : Nat)]) := tm1
        walk_at "fs_rd"
        rw [decide_eq_true rfl]
        walk_at "fs_rd"
        refine ⟨w, t.c_RingWalk, dx1, _, _, rfl, ob1, T.cl_RingWalk, T.n_RingWalk_things, rwF_at_things _ _ _ _, ?_⟩
        walk_at "fs_rd"
        refine in_ix (SqL.of W1.tt) (v := us.getD x .non) (atI_nat hux) ?_
        walk_at "fs_rd"
        refine ⟨w, t.c_RingWalk, dx1, _, rfl, ob1, T.cl_RingWalk, T.n_RingWalk_held, by show 4 < 1000; decide, ?_⟩
        rw [rwF_held]
        have W2 := W1.setW (dx := dx1) (v := us.getD x .non) (n := d + 1) (W1.th.getD x)
        have K2 := K1.trans (KpR.upW (o := .ins t.c_RingWalk dx1 (rwF ta (us.getD x .non) pa ((d + 1 : Nat) : Int))))
        have tm2 := W.tkp K2 _ _ tm
        generalize upd H1 w (.ins t.c_RingWalk dx1 (rwF ta (us.getD x .non) pa ((d + 1 : Nat) : Int))) = H2 at W2 K2 tm2
        obtain ⟨dx2, ob2⟩ := W2.ob
        have tm2' : H2 p = some (.tup [V.str "take", V.int (x : Nat)]) := tm2
        walk_at "fs_rd"
        refine ⟨w, t.c_RingWalk, dx2, _, _, rfl, ob2, T.cl_RingWalk, T.n_RingWalk_things, rwF_at_things _ _ _ _, ?_⟩
        walk_at "fs_rd"
        refine in_set W2.tt (j := x) (ixN_of rfl hx) ?_
        have W3 := W2.setT (W2.th.set x Pr.nonX)
        have K3 := K2.trans (KpR.upT (o := .lst (us.set x .non)))
        have tm3 := W.tkp K3 _ _ tm
        generalize upd H2 ta (.lst (us.set x .non)) = H3 at W3 K3 tm3
        walk_at "fs_rd"
        exact k3 _ em ep W3 K3 tm3
      | move x y =>
        obtain ⟨hx, hy⟩ : x < us.length ∧ y < us.length := hml
        have hux : us[x]? = some (us.getD x .non) := by rw [List.getD_eq_getElem?_getD, List.getElem?_eq_getElem hx]; rfl
        have tm1' : H1 p = some (.tup [V.str "move", V.int (x : Nat), V.int (y : Nat)]) := tm1
        walk_at "fs_rd"
        rw [decide_eq_false (show ¬ V.str "move" = V.str "take" from fun z => absurd (V.str.inj z) (by decide +kernel))]
        walk_at "fs_rd"
        rw [decide_eq_true rfl]
        walk_at "fs_rd"
        refine ⟨w, t.c_RingWalk, dx1, _, _, rfl, ob1, T.cl_RingWalk, T.n_RingWalk_things, rwF_at_things _ _ _ _, ?_⟩
        walk_at "fs_rd"
        refine in_ix (SqL.of W1.tt) (v := us.getD x .non) (atI_nat hux) ?_
        walk_at "fs_rd"
        refine ⟨w, t.c_RingWalk, dx1, _, _, rfl, ob1, T.cl_RingWalk, T.n_RingWalk_things, rwF_at_things _ _ _ _, ?_⟩
        walk_at "fs_rd"
        refine in_set W1.tt (j := y) (ixN_of rfl hy) ?_
        have W2 := W1.setT (W1.th.set y (W1.th.getD x))
        have K2 := K1.trans (KpR.upT (o := .lst (us.set y (us.getD x .non))))
        have tm2 := W.tkp K2 _ _ tm
        generalize upd H1 ta (.lst (us.set y (us.getD x .non))) = H2 at W2 K2 tm2
        obtain ⟨dx2, ob2⟩ := W2.ob
        have tm2' : H2 p = some (.tup [V.str "move", V.int (x : Nat), V.int (y : Nat)]) := tm2
        walk_at "fs_rd"
        refine ⟨w, t.c_RingWalk, dx2, _, _, rfl, ob2, T.cl_RingWalk, T.n_RingWalk_things, rwF_at_things _ _ _ _, ?_⟩
        walk_at "fs_rd"
        refine in_set W2.tt (j := x) (ixN_of rfl (by rw [List.length_set]; exact hx)) ?_
        have W3 := W2.setT (W2.th.set x Pr.nonX)
        have K3 := K2.trans (KpR.upT (o := .lst ((us.set y (us.getD x .non)).set x .non)))
        have tm3 := W.tkp K3 _ _ tm
        generalize upd H2 ta (.lst ((us.set y (us.getD x .non)).set x .non)) = H3 at W3 K3 tm3
        walk_at "fs_rd"
        exact k3 _ em ep W3 K3 tm3
      | lay x =>
        have hx : x < us.length := hml
        have tm1' : H1 p = some (.tup [V.str "lay", V.int (x : Nat)]) := tm1
        walk_at "fs_rd"
        rw [decide_eq_false (show ¬ V.str "lay" = V.str "take" from fun z => absurd (V.str.inj z) (by decide +kernel))]
        walk_at "fs_rd"
        rw [decide_eq_false (show ¬ V.str "lay" = V.str "move" from fun z => absurd (V.str.inj z) (by decide +kernel))]
        walk_at "fs_rd"
        refine ⟨w, t.c_RingWalk, dx1, _, _, rfl, ob1, T.cl_RingWalk, T.n_RingWalk_held, rwF_at_held _ _ _ _, ?_⟩
        walk_at "fs_rd"
        refine ⟨w, t.c_RingWalk, dx1, _, _, rfl, ob1, T.cl_RingWalk, T.n_RingWalk_things, rwF_at_things _ _ _ _, ?_⟩
        walk_at "fs_rd"
        refine in_set W1.tt (j := x) (ixN_of rfl hx) ?_
        have W2 := W1.setT (W1.th.set x W1.hh)
        have K2 := K1.trans (KpR.upT (o := .lst (us.set x hv)))
        generalize upd H1 ta (.lst (us.set x hv)) = H2 at W2 K2
        obtain ⟨dx2, ob2⟩ := W2.ob
        walk_at "fs_rd"
        refine ⟨w, t.c_RingWalk, dx2, _, rfl, ob2, T.cl_RingWalk, T.n_RingWalk_held, by show 4 < 1000; decide, ?_⟩
        rw [rwF_held]
        have W3 := W2.setW (dx := dx2) (v := .non) (n := d + 1) Pr.nonX
        have K3 := K2.trans (KpR.upW (o := .ins t.c_RingWalk dx2 (rwF ta .non pa ((d + 1 : Nat) : Int))))
        have tm3 := W.tkp K3 _ _ tm
        generalize upd H2 w (.ins t.c_RingWalk dx2 (rwF ta .non pa ((d + 1 : Nat) : Int))) = H3 at W3 K3 tm3
        walk_at "fs_rd"
        exact k3 _ em ep W3 K3 tm3
    · have hde : d = ms.length := by omega
      rw [decide_eq_true (show V.int ((ms.length - d : Nat) : Int) = V.int 0 from by rw [hde, Nat.sub_self]; rfl)]
      walk_at "fs_rd"
      exact k1 hde

theorem mvs_take (rgs : List (List Nat)) (i : Nat) : (mvs (rgs.take i)).length ≤ (mvs rgs).length := by
  have e : mvs rgs = mvs (rgs.take i) ++ mvs (rgs.drop i) := by
    unfold mvs
    rw [← List.flatten_append, ← List.map_append, List.take_append_drop]
  rw [e, List.length_append]; omega
theorem mvs_snoc {rgs : List (List Nat)} {i : Nat} {r : List Nat} (h : rgs[i]? = some r) : mvs (rgs.take (i + 1)) = mvs (rgs.take i) ++ mvR r := by
  unfold mvs
  rw [List.take_add_one, h, List.map_append, List.flatten_append]
  show _ ++ (mvR r ++ []) = _
  rw [List.append_nil]
theorem mvs_app {H : Hp} {ps qs : List Addr} {ms ns : List RMv} (a : MvsAt H ps ms) (b : MvsAt H qs ns) : MvsAt H (ps ++ qs) (ms ++ ns) := by
  refine ⟨by rw [List.length_append, List.length_append, a.1, b.1], fun i p m x y => ?_⟩
  rcases Nat.lt_or_ge i ps.length with h | h
  · rw [List.getElem?_append_left h] at x
    rw [List.getElem?_append_left (by rw [← a.1]; exact h)] at y
    exact a.2 i p m x y
  · rw [List.getElem?_append_right h] at x
    rw [List.getElem?_append_right (by rw [← a.1]; exact h), ← a.1] at y
    exact b.2 _ p m x y
noncomputable def spInitR (C : Addr) : Sp := fun vs H Q _ => ∃ (w dx a c : Addr) (zs : List V) (os : List Nat) (n : Nat), vs = [.ref w, .ref a, .ref c] ∧ H w = some (.ins C dx []) ∧ (H a = some (.lst zs) ∨ H a = some (.tup zs)) ∧ (∀ z ∈ zs, ∃ d, Pr H z (some d)) ∧ zs.length = n ∧ (H c = some (.lst (NV os)) ∨ H c = some (.tup (NV os))) ∧ Ord os n ∧ n ≤ 60 ∧
  ∀ (ta pa : Addr) (ps : List Addr) (us : List V) (H' : Hp), H ta = none → H pa = none → RwP C H' w ta pa ps us .non (rmvs os) 0 → AlkP H' zs us → (∀ b o, H b = some o → b ≠ w → H' b = some o) → Q .non H'
theorem ok_RingWalk___init__ (T : Tx K mg t) : FnOk P w K mg t.bs CX0 3 t.f_RingWalk___init__ t.d_RingWalk___init__ ["self", "things", "order"] (spInitR t.c_RingWalk) := by
  refine T.F_RingWalk___init__.okQ sc_RingWalk___init__ (fun vs H Q E h => ?_) (fun cdv A outer s H vs Q E hr h => ?_)
  · obtain ⟨w, dx, a, c, zs, os, n, rfl, _⟩ := h
    rfl
  · obtain ⟨w, dx, a, c, zs, os, n, rfl, hw, ha, hZ, hzn, hc, hO, hn, k⟩ := h
    have hlen := hO.len
    obtain ⟨hml, hm2⟩ := rmvs_len hO
    have hrl := rings_lt hO
    rcases ha with ta | ta
    · refine ⟨_, (qb_cons (qs_expr (qe_call (ok_check_order T) (hr.mono (by decide)) rfl T.m_check_order T.F_check_order.kp T.b_check_order pass0 (qa_c (qv 2) (qa_c (qe_callB (qc_len (K := K)) (by rfl) T.z_len bt_len (qa_c (qv 1) qa_nil)) qa_nil))))
      (qb_cons (qs_fld (K := K) (qv 0) (qe_comp (N := ["thing"]) (tgs := ["thing"]) (frs := []) (ix := []) ⟨rfl, by decide +kernel, rfl, by decide +kernel, rfl, rfl, True.intro, True.intro, rfl⟩ rfl (qi_list (K := K) (qv 1)) (fun _ _ _ _ => (qg_name (i := 0) (by show List.Nodup (["thing"] : List Str); decide +kernel) rfl (Or.inl rfl))) (fun _ _ _ _ => (qe_call (ok_own_copy T) (hr.mono (by decide)) rfl T.m_own_copy T.F_own_copy.kp T.b_own_copy pass0 (qa_c (qv 0) qa_nil)))))
      (qb_cons (qs_fld (K := K) (qv 0) qe_non)
      (qb_cons (qs_fld (K := K) (qv 0) (qe_comp2 (N := ["ring", "move"]) (tgs := ["ring", "move"]) (frs := []) (ix := []) ⟨rfl, by decide +kernel, rfl, by decide +kernel, rfl, rfl, True.intro, True.intro, rfl⟩ rfl (qi_list (K := K) (qe_call (ok_rings T) (hr.mono (by decide)) rfl T.m_rings T.F_rings.kp T.b_rings pass0 (qa_c (qv 2) qa_nil))) (fun _ _ _ _ => (qg_name (i := 0) (by show List.Nodup (["ring", "move"] : List Str); decide +kernel) rfl (Or.inl rfl))) (fun _ _ _ _ => (qi_list (K := K) (qe_call (ok_moves_of_ring T) (hr.mono (by decide)) rfl T.m_moves_of_ring T.F_moves_of_ring.kp T.b_moves_of_ring pass0 (qa_c (qv 0) qa_nil)))) (fun _ _ _ _ => (qg_name (i := 1) (by show List.Nodup (["ring", "move"] : List Str); decide +kernel) rfl (Or.inl rfl))) (fun _ _ _ _ => (qv 1))))
      (qb_one (qs_fld (K := K) (qv 0) qe_int)))))), ?_⟩
      rw [show L2.start ["self", "things", "order"] [V.ref w, V.ref a, V.ref c] = [some (V.ref w), some (V.ref a), some (V.ref c)] from rfl]
      walk_at "fs_rd"
      refine in_lenL (SqL.of ta) ?_
      rw [hzn]
      walk_at "fs_rd"
      refine ⟨c, os, n, rfl, hc, hO, hn, fun H1 s1 => ?_⟩
      have ta1 := s1 _ _ ta
      walk_at "fs_rd"
      refine ⟨a, rfl, ⟨_, SqL.of ta1⟩, comp_lst (a := a) (vs := zs) (fun i ys σ H' => Same H1 H' ∧ AlkP H' (zs.take i) ys ∧ i ≤ zs.length ∧ ∃ v, σ = [v]) (small1000 (by omega)) (fun i ys σ H' h => by rw [← h.2.1.1, List.length_take]; have := h.2.2.1; omega) (fun i ys σ H' h => SqL.of (h.1 _ _ ta1)) ⟨Same.refl _, ⟨rfl, fun i v u a => by simp at a⟩, Nat.zero_le _, none, rfl⟩ ?_ ?_⟩
      · rintro i ys σ H2 x hx ⟨s2, A2, hi, v, rfl⟩
        have hil := get_lt hx
        obtain ⟨dd, hg⟩ := hZ x (List.mem_of_getElem? hx)
        walk_at "fs_rd"
        refine ⟨x, dd.1, dd.2, rfl, hg.tk (TupK.of (s1.trans s2)), fun y H3 s3 hy0 => ?_⟩
        have hy : PrE H3 x y := ⟨some dd, hg.tk (TupK.of ((s1.trans s2).trans s3)), hy0⟩
        refine Nx.mk hil ⟨s2.trans s3, ?_, hil, _, rfl⟩
        rw [List.take_add_one, hx]
        exact (A2.tk (TupK.of s3)).snoc hy
      rintro ys σ H2 ⟨s2, A2, hi, v, rfl⟩ tl htl
      rw [List.take_of_length_le (Nat.le_refl _)] at A2
      have s02 := s1.trans s2
      have htn : H tl = none := s02.free htl
      have s3 := s02.new (o := .lst ys) htl
      have tt3 : (upd H2 tl (.lst ys)) tl = some (.lst ys) := upd_same
      have A3 := A2.tk (TupK.of ((Same.refl H2).new (o := .lst ys) htl))
      generalize upd H2 tl (.lst ys) = H3 at s3 tt3 A3
      have hw3 := s3 _ _ hw
      have hwt : w ≠ tl := ne_of hw3 tt3 (by intro z; cases z)
      walk_at "fs_rd"
      refine ⟨w, t.c_RingWalk, dx, _, rfl, hw3, T.cl_RingWalk, T.n_RingWalk_things, by show 0 < 1000; decide, ?_⟩
      have kp4 : ∀ b o, H3 b = some o → b ≠ w → (upd H3 w (.ins t.c_RingWalk dx (putF "things" (.ref tl) []))) b = some o := fun b o e hb => by rw [upd_ne hb]; exact e
      have ob4 : (upd H3 w (.ins t.c_RingWalk dx (putF "things" (.ref tl) []))) w = some (.ins t.c_RingWalk dx (putF "things" (.ref tl) [])) := upd_same
      generalize upd H3 w (.ins t.c_RingWalk dx (putF "things" (.ref tl) [])) = H4 at kp4 ob4
      walk_at "fs_rd"
      refine ⟨w, t.c_RingWalk, dx, _, rfl, ob4, T.cl_RingWalk, T.n_RingWalk_held, by show 1 < 1000; decide, ?_⟩
      rw [rwF_1]
      have kp5 : ∀ b o, H3 b = some o → b ≠ w → (upd H4 w (.ins t.c_RingWalk dx [("things", V.ref tl), ("held", V.non)])) b = some o := fun b o e hb => by rw [upd_ne hb]; exact kp4 b o e hb
      have ob5 : (upd H4 w (.ins t.c_RingWalk dx [("things", V.ref tl), ("held", V.non)])) w = some (.ins t.c_RingWalk dx [("things", V.ref tl), ("held", V.non)]) := upd_same
      generalize upd H4 w (.ins t.c_RingWalk dx [("things", V.ref tl), ("held", V.non)]) = H5 at kp5 ob5
      have hcw : c ≠ w := fun z => by
        rcases hc with h | h <;> rw [z, hw] at h <;> cases h
      have hc5 : H5 c = some (.lst (NV os)) ∨ H5 c = some (.tup (NV os)) := hc.elim (fun h => .inl (kp5 _ _ (s3 _ _ h) hcw)) (fun h => .inr (kp5 _ _ (s3 _ _ h) hcw))
      unfold tComp2
      walk_at "fs_rd"
      refine ⟨c, os, rfl, hc5.elim (fun h => .inl (SqL.of h)) (fun h => .inr (SqT.of h)), by omega, fun o ho => by rw [hlen]; exact hO.lt o ho, fun rl rps H6 hrln hrps hrn s6 trl hL => ?_⟩
      have hrpl : rps.length = (ringsF os).length := hL.1
      walk_at "fs_rd"
      refine ⟨rl, rfl, ⟨_, SqL.of trl⟩, comp2_lst (a := rl) (vs := rps.map V.ref) (fun i ys σ H' => Same H6 H' ∧ (∃ qs : List Addr, ys = qs.map V.ref ∧ MvsAt H' qs (mvs ((ringsF os).take i))) ∧ ∃ v v2, σ = [v, v2]) (fun i ys σ H' h => by
        obtain ⟨_, ⟨qs, rfl, M⟩, _⟩ := h
        have h9 := mvs_take (ringsF os) i
        have h8 : (mvs (ringsF os)).length ≤ 2 * n := hm2
        rw [List.length_map, M.1]
        exact small1000 (by omega)) (fun i ys σ H' h => SqL.of (h.1 _ _ trl)) ⟨Same.refl _, ⟨[], rfl, MvsAt.nil⟩, _, _, rfl⟩ ?_ ?_⟩
      · rintro i ys σ H7 x hx ⟨s7, ⟨qs, rfl, M7⟩, v, v2, rfl⟩
        have hil := get_lt hx
        obtain ⟨g, rfl, hg, _, hi⟩ := map_get hx
        have hir : i < (ringsF os).length := by omega
        have er : (ringsF os)[i]? = some (ringsF os)[i] := List.getElem?_eq_getElem hir
        have tg := s7 _ _ (hL.2 i g _ hg er)
        obtain ⟨hr1, hr2⟩ := hrl _ (List.getElem_mem hir)
        have hr3 : (ringsF os)[i].length ≤ 201 := by
          have := (upTo_few os os.length).2 _ (List.getElem_mem hir)
          omega
        generalize (ringsF os)[i] = r at er tg hr1 hr2 hr3
        have h9 := mvs_take (ringsF os) (i + 1)
        have h8 : (mvs (ringsF os)).length ≤ 2 * n := hm2
        rw [mvs_snoc er, List.length_append] at h9
        walk_at "fs_rd"
        refine ⟨g, r, rfl, tg, hr1, hr3, fun l ps' H8 hl s8 tl8 M8 => ?_⟩
        walk_at "fs_rd"
        refine ⟨l, rfl, ⟨_, SqL.of tl8⟩, in2_lst (b := l) (ws := ps'.map V.ref) (fun j ys σ H' => H' = H8 ∧ ys = (qs ++ ps'.take j).map V.ref ∧ ∃ v v2, σ = [v, v2]) (fun j ys σ H' h => by
          rw [h.2.1, List.length_map, List.length_append, M7.1, List.length_take, M8.1]
          exact small1000 (by omega)) (fun j ys σ H' h => by rw [h.1]; exact SqL.of tl8) ⟨rfl, by simp, _, _, rfl⟩ ?_ ?_⟩
        · rintro j ys σ H' x hx ⟨rfl, rfl, v, v2, rfl⟩
          have hjl := get_lt hx
          obtain ⟨q, rfl, hq, _, hj⟩ := map_get hx
          walk_at "fs_rd"
          refine Nx.mk hjl ⟨rfl, ?_, _, _, rfl⟩
          rw [List.take_add_one, hq, ← List.append_assoc]
          simp
        · rintro ys σ H' ⟨rfl, rfl, v, v2, rfl⟩
          rw [List.take_of_length_le (by rw [List.length_map]; exact Nat.le_refl _)]
          refine Nx.mk hil ⟨s7.trans s8, ⟨qs ++ ps', rfl, ?_⟩, _, _, rfl⟩
          rw [mvs_snoc er]
          exact mvs_app (M7.tk (TupK.of s8)) M8
      rintro ys σ H7 ⟨s7, ⟨qs, rfl, M7⟩, v, v2, rfl⟩ pl hpl
      rw [List.take_of_length_le (by rw [List.length_map]; omega)] at M7
      have s57 := s6.trans s7
      have s8 := s57.new (o := .lst (qs.map V.ref)) hpl
      have tp8 : (upd H7 pl (.lst (qs.map V.ref))) pl = some (.lst (qs.map V.ref)) := upd_same
      have M8 := M7.tk (TupK.of ((Same.refl H7).new (o := .lst (qs.map V.ref)) hpl))
      generalize upd H7 pl (.lst (qs.map V.ref)) = H8 at s8 tp8 M8
      have ob8 := s8 _ _ ob5
      have tt8 := s8 _ _ (kp5 _ _ tt3 (Ne.symm hwt))
      have hwp : w ≠ pl := ne_of ob8 tp8 (by intro z; cases z)
      have h5p : H5 pl = none := s57.free hpl
      have htp : tl ≠ pl := fun z => by rw [← z, kp5 _ _ tt3 (Ne.symm hwt)] at h5p; cases h5p
      have hpn : H pl = none := by
        cases z : H pl with
        | none => rfl
        | some o =>
          have hne : pl ≠ w := Ne.symm hwp
          rw [kp5 _ _ (s3 _ _ z) hne] at h5p; cases h5p
      walk_at "fs_rd"
      refine ⟨w, t.c_RingWalk, dx, _, rfl, ob8, T.cl_RingWalk, T.n_RingWalk_plan, by show 2 < 1000; decide, ?_⟩
      rw [rwF_2]
      have kp9 : ∀ b o, H3 b = some o → b ≠ w → (upd H8 w (.ins t.c_RingWalk dx [("things", V.ref tl), ("held", V.non), ("plan", V.ref pl)])) b = some o := fun b o e hb => by rw [upd_ne hb]; exact s8 _ _ (kp5 b o e hb)
      have ob9 : (upd H8 w (.ins t.c_RingWalk dx [("things", V.ref tl), ("held", V.non), ("plan", V.ref pl)])) w = some (.ins t.c_RingWalk dx [("things", V.ref tl), ("held", V.non), ("plan", V.ref pl)]) := upd_same
      have tp9 : (upd H8 w (.ins t.c_RingWalk dx [("things", V.ref tl), ("held", V.non), ("plan", V.ref pl)])) pl = some (.lst (qs.map V.ref)) := by rw [upd_ne (Ne.symm hwp)]; exact tp8
      have M9 := M8.tk (TupK.upd (o := .ins t.c_RingWalk dx [("things", V.ref tl), ("held", V.non), ("plan", V.ref pl)]) ob8 (fun xs z => by cases z))
      generalize upd H8 w (.ins t.c_RingWalk dx [("things", V.ref tl), ("held", V.non), ("plan", V.ref pl)]) = H9 at kp9 ob9 tp9 M9
      walk_at "fs_rd"
      refine ⟨w, t.c_RingWalk, dx, _, rfl, ob9, T.cl_RingWalk, T.n_RingWalk_done, by show 3 < 1000; decide, ?_⟩
      rw [rwF_3]
      have kpA : ∀ b o, H3 b = some o → b ≠ w → (upd H9 w (.ins t.c_RingWalk dx (rwF tl .non pl 0))) b = some o := fun b o e hb => by rw [upd_ne hb]; exact kp9 b o e hb
      have kA : TupK H3 (upd H9 w (.ins t.c_RingWalk dx (rwF tl .non pl 0))) := fun b xs e => kpA b _ e (ne_of e hw3 (by intro z; cases z))
      have AA := A3.tk kA
      walk_at "fs_rd"
      refine k tl pl qs ys _ htn hpn ⟨⟨dx, upd_same⟩, kpA _ _ tt3 (Ne.symm hwt), by rw [upd_ne (Ne.symm hwp)]; exact tp9, M9.tk (TupK.upd ob9 (fun xs z => by cases z)), htp, ?_, Pr.nonX⟩ AA fun b o e hb => kpA b o (s3 _ _ e) hb
      intro u hu
      obtain ⟨i, hi', rfl⟩ := List.getElem_of_mem hu
      have hiz : i < zs.length := by rw [AA.1]; exact hi'
      obtain ⟨d, hd⟩ := hZ _ (List.getElem_mem hiz)
      exact ⟨some d, (hd.tk ((TupK.of s3).trans kA)).copy (AA.2 i _ _ (List.getElem?_eq_getElem hiz) (List.getElem?_eq_getElem hi'))⟩
    · refine ⟨_, (qb_cons (qs_expr (qe_call (ok_check_order T) (hr.mono (by decide)) rfl T.m_check_order T.F_check_order.kp T.b_check_order pass0 (qa_c (qv 2) (qa_c (qe_callB (qc_len (K := K)) (by rfl) T.z_len bt_len (qa_c (qv 1) qa_nil)) qa_nil))))
      (qb_cons (qs_fld (K := K) (qv 0) (qe_comp (N := ["thing"]) (tgs := ["thing"]) (frs := []) (ix := []) ⟨rfl, by decide +kernel, rfl, by decide +kernel, rfl, rfl, True.intro, True.intro, rfl⟩ rfl (qi_tup (K := K) (qv 1)) (fun _ _ _ _ => (qg_name (i := 0) (by show List.Nodup (["thing"] : List Str); decide +kernel) rfl (Or.inl rfl))) (fun _ _ _ _ => (qe_call (ok_own_copy T) (hr.mono (by decide)) rfl T.m_own_copy T.F_own_copy.kp T.b_own_copy pass0 (qa_c (qv 0) qa_nil)))))
      (qb_cons (qs_fld (K := K) (qv 0) qe_non)
      (qb_cons (qs_fld (K := K) (qv 0) (qe_comp2 (N := ["ring", "move"]) (tgs := ["ring", "move"]) (frs := []) (ix := []) ⟨rfl, by decide +kernel, rfl, by decide +kernel, rfl, rfl, True.intro, True.intro, rfl⟩ rfl (qi_list (K := K) (qe_call (ok_rings T) (hr.mono (by decide)) rfl T.m_rings T.F_rings.kp T.b_rings pass0 (qa_c (qv 2) qa_nil))) (fun _ _ _ _ => (qg_name (i := 0) (by show List.Nodup (["ring", "move"] : List Str); decide +kernel) rfl (Or.inl rfl))) (fun _ _ _ _ => (qi_list (K := K) (qe_call (ok_moves_of_ring T) (hr.mono (by decide)) rfl T.m_moves_of_ring T.F_moves_of_ring.kp T.b_moves_of_ring pass0 (qa_c (qv 0) qa_nil)))) (fun _ _ _ _ => (qg_name (i := 1) (by show List.Nodup (["ring", "move"] : List Str); decide +kernel) rfl (Or.inl rfl))) (fun _ _ _ _ => (qv 1))))
      (qb_one (qs_fld (K := K) (qv 0) qe_int)))))), ?_⟩
      rw [show L2.start ["self", "things", "order"] [V.ref w, V.ref a, V.ref c] = [some (V.ref w), some (V.ref a), some (V.ref c)] from rfl]
      walk_at "fs_rd"
      refine in_lenT (SqT.of ta) ?_
      rw [hzn]
      walk_at "fs_rd"
      refine ⟨c, os, n, rfl, hc, hO, hn, fun H1 s1 => ?_⟩
      have ta1 := s1 _ _ ta
      walk_at "fs_rd"
      refine ⟨a, rfl, ⟨_, SqT.of ta1⟩, comp_tupl (a := a) (vs := zs) (fun i ys σ H' => Same H1 H' ∧ AlkP H' (zs.take i) ys ∧ i ≤ zs.length ∧ ∃ v, σ = [v]) (small1000 (by omega)) (fun i ys σ H' h => by rw [← h.2.1.1, List.length_take]; have := h.2.2.1; omega) (fun i ys σ H' h => SqT.of (h.1 _ _ ta1)) ⟨Same.refl _, ⟨rfl, fun i v u a => by simp at a⟩, Nat.zero_le _, none, rfl⟩ ?_ ?_⟩
      · rintro i ys σ H2 x hx ⟨s2, A2, hi, v, rfl⟩
        have hil := get_lt hx
        obtain ⟨dd, hg⟩ := hZ x (List.mem_of_getElem? hx)
        walk_at "fs_rd"
        refine ⟨x, dd.1, dd.2, rfl, hg.tk (TupK.of (s1.trans s2)), fun y H3 s3 hy0 => ?_⟩
        have hy : PrE H3 x y := ⟨some dd, hg.tk (TupK.of ((s1.trans s2).trans s3)), hy0⟩
        refine Nx.mk hil ⟨s2.trans s3, ?_, hil, _, rfl⟩
        rw [List.take_add_one, hx]
        exact (A2.tk (TupK.of s3)).snoc hy
      rintro ys σ H2 ⟨s2, A2, hi, v, rfl⟩ tl htl
      rw [List.take_of_length_le (Nat.le_refl _)] at A2
      have s02 := s1.trans s2
      have htn : H tl = none := s02.free htl
      have s3 := s02.new (o := .lst ys) htl
      have tt3 : (upd H2 tl (.lst ys)) tl = some (.lst ys) := upd_same
      have A3 := A2.tk (TupK.of ((Same.refl H2).new (o := .lst ys) htl))
      generalize upd H2 tl (.lst ys) = H3 at s3 tt3 A3
      have hw3 := s3 _ _ hw
      have hwt : w ≠ tl := ne_of hw3 tt3 (by intro z; cases z)
      walk_at "fs_rd"
      refine ⟨w, t.c_RingWalk, dx, _, rfl, hw3, T.cl_RingWalk, T.n_RingWalk_things, by show 0 < 1000; decide, ?_⟩
      have kp4 : ∀ b o, H3 b = some o → b ≠ w → (upd H3 w (.ins t.c_RingWalk dx (putF "things" (.ref tl) []))) b = some o := fun b o e hb => by rw [upd_ne hb]; exact e
      have ob4 : (upd H3 w (.ins t.c_RingWalk dx (putF "things" (.ref tl) []))) w = some (.ins t.c_RingWalk dx (putF "things" (.ref tl) [])) := upd_same
      generalize upd H3 w (.ins t.c_RingWalk dx (putF "things" (.ref tl) [])) = H4 at kp4 ob4
      walk_at "fs_rd"
      refine ⟨w, t.c_RingWalk, dx, _, rfl, ob4, T.cl_RingWalk, T.n_RingWalk_held, by show 1 < 1000; decide, ?_⟩
      rw [rwF_1]
      have kp5 : ∀ b o, H3 b = some o → b ≠ w → (upd H4 w (.ins t.c_RingWalk dx [("things", V.ref tl), ("held", V.non)])) b = some o := fun b o e hb => by rw [upd_ne hb]; exact kp4 b o e hb
      have ob5 : (upd H4 w (.ins t.c_RingWalk dx [("things", V.ref tl), ("held", V.non)])) w = some (.ins t.c_RingWalk dx [("things", V.ref tl), ("held", V.non)]) := upd_same
      generalize upd H4 w (.ins t.c_RingWalk dx [("things", V.ref tl), ("held", V.non)]) = H5 at kp5 ob5
      have hcw : c ≠ w := fun z => by
        rcases hc with h | h <;> rw [z, hw] at h <;> cases h
      have hc5 : H5 c = some (.lst (NV os)) ∨ H5 c = some (.tup (NV os)) := hc.elim (fun h => .inl (kp5 _ _ (s3 _ _ h) hcw)) (fun h => .inr (kp5 _ _ (s3 _ _ h) hcw))
      unfold tComp2
      walk_at "fs_rd"
      refine ⟨c, os, rfl, hc5.elim (fun h => .inl (SqL.of h)) (fun h => .inr (SqT.of h)), by omega, fun o ho => by rw [hlen]; exact hO.lt o ho, fun rl rps H6 hrln hrps hrn s6 trl hL => ?_⟩
      have hrpl : rps.length = (ringsF os).length := hL.1
      walk_at "fs_rd"
      refine ⟨rl, rfl, ⟨_, SqL.of trl⟩, comp2_lst (a := rl) (vs := rps.map V.ref) (fun i ys σ H' => Same H6 H' ∧ (∃ qs : List Addr, ys = qs.map V.ref ∧ MvsAt H' qs (mvs ((ringsF os).take i))) ∧ ∃ v v2, σ = [v, v2]) (fun i ys σ H' h => by
        obtain ⟨_, ⟨qs, rfl, M⟩, _⟩ := h
        have h9 := mvs_take (ringsF os) i
        have h8 : (mvs (ringsF os)).length ≤ 2 * n := hm2
        rw [List.length_map, M.1]
        exact small1000 (by omega)) (fun i ys σ H' h => SqL.of (h.1 _ _ trl)) ⟨Same.refl _, ⟨[], rfl, MvsAt.nil⟩, _, _, rfl⟩ ?_ ?_⟩
      · rintro i ys σ H7 x hx ⟨s7, ⟨qs, rfl, M7⟩, v, v2, rfl⟩
        have hil := get_lt hx
        obtain ⟨g, rfl, hg, _, hi⟩ := map_get hx
        have hir : i < (ringsF os).length := by omega
        have er : (ringsF os)[i]? = some (ringsF os)[i] := List.getElem?_eq_getElem hir
        have tg := s7 _ _ (hL.2 i g _ hg er)
        obtain ⟨hr1, hr2⟩ := hrl _ (List.getElem_mem hir)
        have hr3 : (ringsF os)[i].length ≤ 201 := by
          have := (upTo_few os os.length).2 _ (List.getElem_mem hir)
          omega
        generalize (ringsF os)[i] = r at er tg hr1 hr2 hr3
        have h9 := mvs_take (ringsF os) (i + 1)
        have h8 : (mvs (ringsF os)).length ≤ 2 * n := hm2
        rw [mvs_snoc er, List.length_append] at h9
        walk_at "fs_rd"
        refine ⟨g, r, rfl, tg, hr1, hr3, fun l ps' H8 hl s8 tl8 M8 => ?_⟩
        walk_at "fs_rd"
        refine ⟨l, rfl, ⟨_, SqL.of tl8⟩, in2_lst (b := l) (ws := ps'.map V.ref) (fun j ys σ H' => H' = H8 ∧ ys = (qs ++ ps'.take j).map V.ref ∧ ∃ v v2, σ = [v, v2]) (fun j ys σ H' h => by
          rw [h.2.1, List.length_map, List.length_append, M7.1, List.length_take, M8.1]
          exact small1000 (by omega)) (fun j ys σ H' h => by rw [h.1]; exact SqL.of tl8) ⟨rfl, by simp, _, _, rfl⟩ ?_ ?_⟩
        · rintro j ys σ H' x hx ⟨rfl, rfl, v, v2, rfl⟩
          have hjl := get_lt hx
          obtain ⟨q, rfl, hq, _, hj⟩ := map_get hx
          walk_at "fs_rd"
          refine Nx.mk hjl ⟨rfl, ?_, _, _, rfl⟩
          rw [List.take_add_one, hq, ← List.append_assoc]
          simp
        · rintro ys σ H' ⟨rfl, rfl, v, v2, rfl⟩
          rw [List.take_of_length_le (by rw [List.length_map]; exact Nat.le_refl _)]
          refine Nx.mk hil ⟨s7.trans s8, ⟨qs ++ ps', rfl, ?_⟩, _, _, rfl⟩
          rw [mvs_snoc er]
          exact mvs_app (M7.tk (TupK.of s8)) M8
      rintro ys σ H7 ⟨s7, ⟨qs, rfl, M7⟩, v, v2, rfl⟩ pl hpl
      rw [List.take_of_length_le (by rw [List.length_map]; omega)] at M7
      have s57 := s6.trans s7
      have s8 := s57.new (o := .lst (qs.map V.ref)) hpl
      have tp8 : (upd H7 pl (.lst (qs.map V.ref))) pl = some (.lst (qs.map V.ref)) := upd_same
      have M8 := M7.tk (TupK.of ((Same.refl H7).new (o := .lst (qs.map V.ref)) hpl))
      generalize upd H7 pl (.lst (qs.map V.ref)) = H8 at s8 tp8 M8
      have ob8 := s8 _ _ ob5
      have tt8 := s8 _ _ (kp5 _ _ tt3 (Ne.symm hwt))
      have hwp : w ≠ pl := ne_of ob8 tp8 (by intro z; cases z)
      have h5p : H5 pl = none := s57.free hpl
      have htp : tl ≠ pl := fun z => by rw [← z, kp5 _ _ tt3 (Ne.symm hwt)] at h5p; cases h5p
      have hpn : H pl = none := by
        cases z : H pl with
        | none => rfl
        | some o =>
          have hne : pl ≠ w := Ne.symm hwp
          rw [kp5 _ _ (s3 _ _ z) hne] at h5p; cases h5p
      walk_at "fs_rd"
      refine ⟨w, t.c_RingWalk, dx, _, rfl, ob8, T.cl_RingWalk, T.n_RingWalk_plan, by show 2 < 1000; decide, ?_⟩
      rw [rwF_2]
      have kp9 : ∀ b o, H3 b = some o → b ≠ w → (upd H8 w (.ins t.c_RingWalk dx [("things", V.ref tl), ("held", V.non), ("plan", V.ref pl)])) b = some o := fun b o e hb => by rw [upd_ne hb]; exact s8 _ _ (kp5 b o e hb)
      have ob9 : (upd H8 w (.ins t.c_RingWalk dx [("things", V.ref tl), ("held", V.non), ("plan", V.ref pl)])) w = some (.ins t.c_RingWalk dx [("things", V.ref tl), ("held", V.non), ("plan", V.ref pl)]) := upd_same
      have tp9 : (upd H8 w (.ins t.c_RingWalk dx [("things", V.ref tl), ("held", V.non), ("plan", V.ref pl)])) pl = some (.lst (qs.map V.ref)) := by rw [upd_ne (Ne.symm hwp)]; exact tp8
      have M9 := M8.tk (TupK.upd (o := .ins t.c_RingWalk dx [("things", V.ref tl), ("held", V.non), ("plan", V.ref pl)]) ob8 (fun xs z => by cases z))
      generalize upd H8 w (.ins t.c_RingWalk dx [("things", V.ref tl), ("held", V.non), ("plan", V.ref pl)]) = H9 at kp9 ob9 tp9 M9
      walk_at "fs_rd"
      refine ⟨w, t.c_RingWalk, dx, _, rfl, ob9, T.cl_RingWalk, T.n_RingWalk_done, by show 3 < 1000; decide, ?_⟩
      rw [rwF_3]
      have kpA : ∀ b o, H3 b = some o → b ≠ w → (upd H9 w (.ins t.c_RingWalk dx (rwF tl .non pl 0))) b = some o := fun b o e hb => by rw [upd_ne hb]; exact kp9 b o e hb
      have kA : TupK H3 (upd H9 w (.ins t.c_RingWalk dx (rwF tl .non pl 0))) := fun b xs e => kpA b _ e (ne_of e hw3 (by intro z; cases z))
      have AA := A3.tk kA
      walk_at "fs_rd"
      refine k tl pl qs ys _ htn hpn ⟨⟨dx, upd_same⟩, kpA _ _ tt3 (Ne.symm hwt), by rw [upd_ne (Ne.symm hwp)]; exact tp9, M9.tk (TupK.upd ob9 (fun xs z => by cases z)), htp, ?_, Pr.nonX⟩ AA fun b o e hb => kpA b o (s3 _ _ e) hb
      intro u hu
      obtain ⟨i, hi', rfl⟩ := List.getElem_of_mem hu
      have hiz : i < zs.length := by rw [AA.1]; exact hi'
      obtain ⟨d, hd⟩ := hZ _ (List.getElem_mem hiz)
      exact ⟨some d, (hd.tk ((TupK.of s3).trans kA)).copy (AA.2 i _ _ (List.getElem?_eq_getElem hiz) (List.getElem?_eq_getElem hi'))⟩

theorem cut_one (r : List Nat) : cutV (NV r) none (some 1) = NV (r.take 1) := by
  cases r with
  | nil => rfl
  | cons x xs =>
    unfold cutV
    rw [show (1 : Int) = ((1 : Nat) : Int) from rfl, HT.sIx_nat]
    have m : min 1 (NV (x :: xs)).length = 1 := by rw [NV_len, List.length_cons]; omega
    rw [m]
    rfl
theorem on_len : ∀ (ms : List RMv) (s : List V × V), (ms.foldl RMv.on s).1.length = s.1.length
  | [], _ => rfl
  | m :: r, s => by rw [List.foldl_cons, on_len r, RMv.on_len]
noncomputable def spTurn (K : PySem.W.Frag) : Sp := fun vs H Q _ => ∃ (a : Addr) (r : List Nat), vs = [.ref a] ∧ H a = some (.lst (NV r)) ∧ 0 < r.length ∧ r.length ≤ 201 ∧ ∀ (l : Addr) H', H l = none → Same H H' → H' l = some (.lst (NV (turn r))) → Q (.ref l) H'
theorem ok_turned (T : Tx K mg t) : FnOk P w K mg t.bs CX0 1 t.f_turned t.d_turned ["_law_ring"] (spTurn K) := by
  refine T.F_turned.okQ sc_turned (fun vs H Q E h => ?_) (fun cdv A outer s H vs Q E hr h => ?_)
  · obtain ⟨a, r, rfl, _⟩ := h
    rfl
  · obtain ⟨a, r, rfl, ta, h0, hr, k⟩ := h
    refine ⟨_, (qb_one (qs_ret (qe_op q_cat (qe_slice (q_slL (K := K)) (qv 0) qo_none (qo_some qe_int)) (qe_rev0 (K := K) (qv 0))))), ?_⟩
    rw [show L2.start ["_law_ring"] [V.ref a] = [some (V.ref a)] from rfl]
    walk_at "fs_rd"
    refine ⟨_, rfl, in_slL0 ta fun p H1 s1 tp => ?_⟩
    walk_at "fs_rd"
    refine ⟨a, _, rfl, SqL.of (s1 _ _ ta), by rw [NV_len]; exact h0, fun q hq => ?_⟩
    have s2 := s1.new (o := .lst ((NV r).drop 1).reverse) hq
    have tp2 : (upd H1 q (.lst ((NV r).drop 1).reverse)) p = some (.lst (cutV (NV r) none (some 1))) := by rw [upd_ne (ne_of_none tp hq)]; exact tp
    have tq2 : (upd H1 q (.lst ((NV r).drop 1).reverse)) q = some (.lst ((NV r).drop 1).reverse) := upd_same
    generalize upd H1 q (.lst ((NV r).drop 1).reverse) = H2 at s2 tp2 tq2
    walk_at "fs_rd"
    rw [cut_one] at tp2
    refine ⟨p, q, _, _, rfl, rfl, tp2, tq2, three (by rw [NV_len, List.length_take, List.length_reverse, List.length_drop, NV_len]; omega), fun l hl => ?_⟩
    have e : NV (r.take 1) ++ ((NV r).drop 1).reverse = NV (turn r) := by
      unfold turn NV
      rw [List.map_append, List.map_reverse, List.map_drop]
    rw [e]
    exact k l _ (s2.free hl) (s2.new hl) upd_same
noncomputable def spWkd (C : Addr) : Sp := fun vs H Q _ => ∃ (a c : Addr) (zs : List V) (ds : List (List Nat × Nat)) (os : List Nat) (n : Nat), vs = [.ref a, .ref c] ∧ H a = some (.lst zs) ∧ PrAt H zs ds ∧ zs.length = n ∧ H c = some (.lst (NV os)) ∧ Ord os n ∧ n ≤ 60 ∧
  ∀ (t l : Addr) (ys : List V) H', Same H H' → H' t = some (.tup [.ref l, .int ((rmvs os).length : Nat)]) → H' l = some (.lst ys) → PrAt H' ys (os.map fun o => ds.getD o ([], 0)) → Q (.ref t) H'
theorem ok_walked (T : Tx K mg t) : FnOk P w K mg t.bs CX0 5 t.f_walked t.d_walked ["_law_things", "_law_order"] (spWkd t.c_RingWalk) := by
  refine T.F_walked.okQ sc_walked (fun vs H Q E h => ?_) (fun cdv A outer s H vs Q E hr h => ?_)
  · obtain ⟨a, c, zs, ds, os, n, rfl, _⟩ := h
    rfl
  · obtain ⟨a, c, zs, ds, os, n, rfl, ta, hP, hzn, tc, hO, hn, k⟩ := h
    have hlen := hO.len
    have hlt := rmvs_lt hO
    have hm2 := (rmvs_len hO).2
    have hno : ∀ (ta : Addr) (hv : V) (pa : Addr) (m : Int), (rwF ta hv pa m).lookup ("step" : Str) = none ∧ (rwF ta hv pa m).lookup ("row" : Str) = none := fun ta hv pa m => ⟨rwF_no _ _ _ _ (by decide +kernel) (by decide +kernel) (by decide +kernel) (by decide +kernel), rwF_no _ _ _ _ (by decide +kernel) (by decide +kernel) (by decide +kernel) (by decide +kernel)⟩
    refine ⟨_, (qb_cons (qs_set (i := 2) sc_walked.nd rfl (Or.inl rfl) (qe_make T.M_RingWalk___init__ (ok_RingWalk___init__ T) (hr.mono (by decide)) rfl T.mc_RingWalk T.b_RingWalk___init__ pass0 (qa_c (qv 0) (qa_c (qv 1) qa_nil))))
      (qb_cons (qs_set (i := 3) sc_walked.nd rfl (Or.inl rfl) qe_int)
      (qb_cons (qs_while PassesOwn.never (QW.qt (qw_and (qt_cmpR q_le (qv 3) (qe_op q_mul qe_int (qe_callB (qc_len (K := K)) (by rfl) T.z_len bt_len (qa_c (qv 0) qa_nil))) (nomark _)) (qw_and1 (qt_cmpR q_notN (qe_meth0 (qv 2) T.cl_RingWalk T.M_RingWalk_step (ok_RingWalk_step T) (hr.mono (by decide)) T.b_RingWalk_step pass0 ) qe_non (nomark _))))) (qb_one (qs_set (i := 3) sc_walked.nd rfl (Or.inl rfl) (qe_op q_add (qv 3) qe_int))))
      (qb_one (qs_ret (qe_tup (qa_c (qe_meth0 (qv 2) T.cl_RingWalk T.M_RingWalk_row (ok_RingWalk_row T) (hr.mono (by decide)) T.b_RingWalk_row pass0 ) (qa_c (qv 3) qa_nil)))))))), ?_⟩
    rw [show L2.start ["_law_things", "_law_order", "_law_told", "_law_many_here"] [V.ref a, V.ref c] = [some (V.ref a), some (V.ref c), none, none] from rfl]
    walk_at "fs_rd"
    intro w dx hw hdx hne
    have sN : Same H (upd (upd H dx (.own w)) w (.ins t.c_RingWalk dx [])) := fun b u e => by
      rw [upd_ne (ne_of_none e hw), upd_ne (ne_of_none e hdx)]; exact e
    refine ⟨w, dx, a, c, zs, os, n, rfl, upd_same, .inl (sN _ _ ta), fun z hz => (hP.mem z hz).elim fun d g => ⟨d, g.tk (TupK.of sN)⟩, hzn, .inl (sN _ _ tc), hO, hn, fun tl pa ps us0 H1 hta hpa W1 A1 kp1 => ⟨rfl, ?_⟩⟩
    have s1 : Same H H1 := fun b u e => kp1 _ _ (sN _ _ e) (ne_of_none e hw)
    have hta0 : H tl = none := sN.free hta
    have hus : us0.length = n := by rw [← A1.1]; exact hzn
    have P1 : PrAt H1 us0 ds := (hP.tk (TupK.of s1)).copy A1
    have P2 : PrAt H1 (os.map fun p => us0.getD p .non) (os.map fun o => ds.getD o ([], 0)) := P1.put (fun o ho => by rw [hus]; exact hO.lt o ho)
    have ulen : ∀ i, (((rmvs os).take i).foldl RMv.on (us0, .non)).1.length = n := fun i => by rw [on_len]; exact hus
    obtain ⟨st, est⟩ : ∃ st : Nat → List V × V, ∀ i, st i = ((rmvs os).take i).foldl RMv.on (us0, .non) := ⟨_, fun _ => rfl⟩
    have st0 : st 0 = (us0, .non) := est 0
    have stS : ∀ i m, (rmvs os)[i]? = some m → st (i + 1) = RMv.on (st i) m := fun i m e => by rw [est, est, List.take_add_one, e, List.foldl_append]; rfl
    have stE : st (rmvs os).length = (os.map fun p => us0.getD p .non, .non) := by rw [est, List.take_of_length_le (Nat.le_refl _)]; exact rmvs_spec hO hus
    have stl : ∀ i, (st i).1.length = n := fun i => by rw [est]; exact ulen i
    walk_at "fs_rd"
    refine ⟨fun m σ H' => ∃ d, m = (rmvs os).length - d ∧ d ≤ (rmvs os).length ∧ Same H H' ∧ TupK H1 H' ∧ RwP t.c_RingWalk H' w tl pa ps (st d).1 (st d).2 (rmvs os) d ∧ σ = [some (V.ref a), some (V.ref c), some (V.ref w), some (V.int ((d : Nat) : Int))], ⟨_, 0, rfl, Nat.zero_le _, s1, TupK.refl _, by rw [st0]; exact W1, rfl⟩, ?_⟩
    rintro m σ H2 ⟨d, rfl, hd, s2, k2, W2, rfl⟩
    obtain ⟨dx2, ob2⟩ := W2.ob
    walk_at "fs_rd"
    refine in_lenL (SqL.of (s2 _ _ ta)) ?_
    rw [hzn]
    walk_at "fs_rd"
    rw [decide_eq_true (show ((d : Nat) : Int) ≤ 2 * ((n : Nat) : Int) by omega)]
    walk_at "fs_rd"
    refine ⟨w, dx2, _, rfl, ob2, (hno _ _ _ _).1, ?_⟩
    walk_at "fs_rd"
    refine ⟨w, tl, pa, ps, _, _, _, _, rfl, W2, fun m hm => by rw [stl]; exact hlt m hm, hd, fun hde => ?_, fun m p H3 em ep W3 K3 tp3 => ?_⟩
    · walk_at "fs_rd"
      rw [decide_eq_true (rfl : V.non = V.non)]
      walk_at "fs_rd"
      refine ⟨w, dx2, _, rfl, ob2, (hno _ _ _ _).2, ?_⟩
      walk_at "fs_rd"
      subst hde
      rw [stE] at W2
      refine ⟨w, tl, pa, ps, _, _, _, _, rfl, W2, by rw [List.length_map, hlen]; omega, fun u hu => (P2.mem u hu).elim fun d g => g.ne, fun l rs H3 hl s3 tl3 A3 => ?_⟩
      walk_at "fs_rd"
      refine ⟨three (by simp), fun q hq => ?_⟩
      have s4 := (s2.trans s3).new (o := .tup [V.ref l, V.int (((rmvs os).length : Nat) : Int)]) hq
      have s34 := (Same.refl H3).new (o := .tup [V.ref l, V.int (((rmvs os).length : Nat) : Int)]) hq
      exact k q l rs _ s4 upd_same (s34 _ _ tl3) (((P2.tk k2).tk (TupK.of s3)).copy A3 |>.tk (TupK.of s34))
    · walk_at "fs_rd"
      rw [decide_eq_false (show ¬ V.ref p = V.non from fun z => by cases z)]
      walk_at "fs_rd"
      refine ⟨_, fun _ _ z => z, ?_⟩
      walk_at "fs_rd"
      have hd2 : d < (rmvs os).length := get_lt em
      have e1 : ((d : Nat) : Int) + 1 = ((d + 1 : Nat) : Int) := by omega
      rw [e1]
      exact ⟨_, by omega, d + 1, rfl, hd2, fun b o e => K3 b o (s2 b o e) (ne_of_none e hw) (ne_of_none e hta0), k2.trans (W2.tkp K3), by rw [stS d m em]; exact W3, rfl⟩

--CUT
theorem sx_free {pt : Addr} {H H' : Hp} (e : SameX pt H H') (T : TabT pt H') {l : Addr} (h : H' l = none) : H l = none := by
  cases q : H l with
  | none => rfl
  | some o =>
    by_cases hd : l = pt
    · rcases T with z | ⟨c, z, _⟩ <;> rw [← hd, h] at z <;> cases z
    · rw [e l o hd q] at h; cases h
theorem tab_st {pt p : Addr} {H H1 : Hp} (T : TabT pt H) (t : Tp2 H p) (S : St2 p H H1) : TabT pt H1 := by
  obtain ⟨a1, a2, h9, _⟩ := t
  rcases T with z | ⟨c, z, u⟩
  · exact .inl (S.keep _ _ z (ne_of z h9 (by intro c; cases c)))
  · exact .inr ⟨c, S.keep _ _ z (ne_of z h9 (by intro c; cases c)), S.keep _ _ u (ne_of u h9 (by intro c; cases c))⟩
theorem seq_sx {pt : Addr} {K : PySem.W.Frag} {H H' : Hp} {a : Addr} {xs : List V} (T : TabT pt H) (e : SameX pt H H') (h : SqL K H a xs) : SqL K H' a xs := by
  rcases h with (h | ⟨o, h⟩) | h
  · exact .inl (.inl (e _ _ (T.ne h) h))
  · refine .inl (.inr ⟨o, e _ _ (fun z => ?_) h⟩)
    subst z
    rcases T with z | ⟨c, z, _⟩ <;> rw [h] at z <;> cases z
  · exact .inr h
theorem Pr.sx {pt : Addr} {H H1 : Hp} {v : V} {d : Option (List Nat × Nat)} (T : TabT pt H) (e : SameX pt H H1) : TupK H H1 := fun b xs h => e _ _ (T.neT h) h
noncomputable def things (rss : List (List Nat)) : List (List Nat × Nat) := (List.range rss.length).map fun i => (rss.getD i [], i)
theorem things_len (rss : List (List Nat)) : (things rss).length = rss.length := by unfold things; simp
theorem things_at {rss : List (List Nat)} {i : Nat} (h : i < rss.length) : (things rss)[i]? = some (rss.getD i [], i) := by
  unfold things
  rw [List.getElem?_map, List.getElem?_range h]; rfl
theorem lt2_rk {rss : List (List Nat)} {p : List Nat} {ks : List (List Int × List Int)} (hk : ∀ i ∈ p, ks.getD i ([], []) = (castL (rss.getD i []), [((i : Nat) : Int)])) (h : p.Pairwise (Ah fun i j => HT.lt2 (ks.getD i ([], [])) (ks.getD j ([], [])))) : p.Pairwise (Rk rss 0) := by
  refine List.Pairwise.imp_of_mem (fun {i j} hi hj hij => ?_) h
  obtain ⟨h1, h2⟩ := hij
  dsimp only at h1 h2
  rw [hk i hi, hk j hj] at h1 h2
  unfold HT.lt2 at h1 h2
  dsimp only at h1 h2
  unfold Rk
  rw [List.drop_zero, List.drop_zero]
  rcases lxt_tri (rss.getD i []) (rss.getD j []) with q | q | q
  · exact .inl q
  · refine .inr ⟨q, ?_⟩
    rw [q, if_pos rfl] at h1 h2
    apply Classical.byContradiction
    intro hn
    rcases Nat.lt_or_ge j i with g | g
    · have : HT.lexLt [((j : Nat) : Int)] [((i : Nat) : Int)] = true := by
        simp [HT.lexLt]; omega
      rw [this] at h1; cases h1
    · have : HT.lexLt [((i : Nat) : Int)] [((j : Nat) : Int)] = false := by
        simp [HT.lexLt]; omega
      exact hn (h2 this)
  · have hne : ¬ castL (rss.getD j []) = castL (rss.getD i []) := fun z => by
      have q' : HT.lexLt (castL (rss.getD j [])) (castL (rss.getD i [])) = true := q
      rw [z] at q'
      have := lxt_irrefl (rss.getD i [])
      have t : HT.lexLt (castL (rss.getD i [])) (castL (rss.getD i [])) = false := this
      rw [t] at q'; cases q'
    rw [if_neg hne] at h1
    have q' : HT.lexLt (castL (rss.getD j [])) (castL (rss.getD i [])) = true := q
    rw [q'] at h1; cases h1
noncomputable def datP (d : List Nat × Nat) : PyData := .tuple [.tuple (d.1.map fun x => .int (x : Nat)), .int (d.2 : Nat)]
theorem Pr.datE {H : Hp} {v : V} {d : List Nat × Nat} (h : Pr H v (some d)) (n : Nat) : DatE (n + 2) H v (datP d) := by
  obtain ⟨t, r, rfl, ht, hr, _⟩ := h
  refine DatE.tup ht rfl fun i u e a b => ?_
  match i, a, b with
  | 0, a, b =>
    cases a; cases b
    refine DatE.tup hr (by rw [NV_len, List.length_map]) fun i u e a b => ?_
    obtain ⟨o, rfl, ho, _⟩ := map_get a
    rw [List.getElem?_map, ho] at b
    cases b
    exact DatE.int _
  | 1, a, b => cases a; cases b; exact DatE.int _
  | i + 2, a, _ => simp at a
theorem PrAt.datE {H : Hp} {a : Addr} {vs : List V} {ds : List (List Nat × Nat)} (h : PrAt H vs ds) (ha : H a = some (.lst vs)) : DatE 3 H (.ref a) (.list (ds.map datP)) := by
  refine DatE.lst ha (by rw [List.length_map]; exact h.1) fun i u e x y => ?_
  rw [List.getElem?_map] at y
  obtain ⟨d, hd, rfl⟩ := Option.map_eq_some_iff.mp y
  exact Pr.datE (h.2 i u d x hd) 0
theorem PrAt.sm {H : Hp} {a c : Addr} {vs us : List V} {ds : List (List Nat × Nat)} (h : PrAt H vs ds) (g : PrAt H us ds) (ha : H a = some (.lst vs)) (hc : H c = some (.lst us)) (hl : ds.length ≤ 200) (n : Nat) : SmAt (n + 3) H (.ref a) (.ref c) := by
  refine .inr (.inl ⟨a, c, vs, us, rfl, rfl, ha, hc, h.1.trans g.1.symm, by rw [h.1]; exact hl, fun i u v e1 e2 => ?_⟩)
  have hi : i < ds.length := by rw [← h.1]; exact get_lt e1
  obtain ⟨t, r, rfl, ht, hr, hf⟩ := h.2 i u _ e1 (List.getElem?_eq_getElem hi)
  obtain ⟨t', r', rfl, ht', hr', _⟩ := g.2 i v _ e2 (List.getElem?_eq_getElem hi)
  exact SmAt.pair ht ht' (SmAt.tints n hr hr' (by omega)) (SmAt.int _ _)
theorem PrAt.split {H : Hp} : ∀ {vs : List V} {ds : List (List Nat × Nat)}, PrAt H vs ds → ∃ rs qs : List Addr, vs = rs.map V.ref ∧ rs.length = ds.length ∧ qs.length = ds.length ∧ ∀ (i : Nat) a q d, rs[i]? = some a → qs[i]? = some q → ds[i]? = some d → H a = some (.tup [.ref q, .int ((d.2 : Nat) : Int)]) ∧ H q = some (.tup (NV d.1))
  | [], [], _ => ⟨[], [], rfl, rfl, rfl, fun i a q d e => by simp at e⟩
  | [], _ :: _, h => by cases h.1
  | _ :: _, [], h => by cases h.1
  | v :: vs, d :: ds, h => by
    obtain ⟨rs, qs, rfl, h1, h2, h3⟩ := PrAt.split (vs := vs) (ds := ds) ⟨Nat.succ.inj h.1, fun i v d a b => h.2 (i + 1) v d a b⟩
    obtain ⟨t, r, rfl, ht, hr, _⟩ := h.2 0 v d rfl rfl
    refine ⟨t :: rs, r :: qs, rfl, by simp [h1], by simp [h2], fun i a q d a1 a2 a3 => ?_⟩
    cases i with
    | zero => cases a1; cases a2; cases a3; exact ⟨ht, hr⟩
    | succ i => exact h3 i a q d a1 a2 a3
theorem map_back {α : Type} {os bs : List Nat} {n : Nat} (h : Ord os n) (b : Back os bs n) (f : Nat → α) (z : α) : (bs.map fun o => (os.map f).getD o z) = (List.range n).map f := by
  refine List.ext_getElem? fun i => ?_
  rw [List.getElem?_map, List.getElem?_map]
  by_cases hi : i < n
  · have hb := b.ord h
    obtain ⟨e1, l1⟩ := hb.nx hi
    have e2 : os[bs.getD i 0]? = some i := (b.back h).at_ i _ e1
    rw [e1, List.getElem?_range hi]
    show some ((os.map f).getD (bs.getD i 0) z) = some (f i)
    rw [List.getD_eq_getElem?_getD, List.getElem?_map, e2]; rfl
  · rw [List.getElem?_eq_none (by rw [b.len]; omega), List.getElem?_eq_none (by simp; omega)]; rfl
theorem map_after {α : Type} {os bs us : List Nat} {n : Nat} (h : Ord os n) (b : Back os bs n) (hu : Ord us n) (f : Nat → α) (z : α) : ((cmp bs us).map fun o => (os.map f).getD o z) = us.map f := by
  unfold cmp
  rw [List.map_map]
  refine List.map_congr_left fun j hj => ?_
  have hjn := hu.lt j hj
  obtain ⟨e1, l1⟩ := (b.ord h).nx hjn
  have e2 : os[bs.getD j 0]? = some j := (b.back h).at_ j _ e1
  show (os.map f).getD (bs.getD j 0) z = f j
  rw [List.getD_eq_getElem?_getD, List.getElem?_map, e2]; rfl
theorem cmp_back {os bs us : List Nat} {n : Nat} (h : Ord os n) (b : Back os bs n) (hu : Ord us n) : cmp os (cmp bs us) = us := by
  unfold cmp
  rw [List.map_map]
  conv => rhs; rw [← List.map_id us]
  refine List.map_congr_left fun j hj => ?_
  exact (b.back h).nx (b.ord h) (hu.lt j hj)
theorem things_map (rss : List (List Nat)) {os : List Nat} (h : ∀ o ∈ os, o < rss.length) : (os.map fun o => (things rss).getD o ([], 0)) = os.map fun o => (rss.getD o [], o) := by
  refine List.map_congr_left fun o ho => ?_
  rw [List.getD_eq_getElem?_getD, things_at (h o ho)]; rfl
theorem LsAt.sm {H : Hp} {a c : Addr} {ps qs : List Addr} {nss : List (List Nat)} (h : LsAt H ps nss) (g : LsAt H qs nss) (ha : H a = some (.lst (ps.map V.ref))) (hc : H c = some (.lst (qs.map V.ref))) (hl : nss.length ≤ 200) (hr : ∀ r ∈ nss, r.length ≤ 200) (n : Nat) : SmAt (n + 2) H (.ref a) (.ref c) := by
  refine .inr (.inl ⟨a, c, _, _, rfl, rfl, ha, hc, by rw [List.length_map, List.length_map, h.1, g.1], by rw [List.length_map, h.1]; exact hl, fun i u v e1 e2 => ?_⟩)
  obtain ⟨p, rfl, hp, _, hi⟩ := map_get e1
  obtain ⟨q, rfl, hq, _, _⟩ := map_get e2
  have hin : i < nss.length := by rw [← h.1]; exact hi
  have e := List.getElem?_eq_getElem hin
  exact SmAt.ints n (h.2 i p _ hp e) (g.2 i q _ hq e) (hr _ (List.getElem_mem hin))
theorem turn_len (r : List Nat) : (turn r).length = r.length := (turn_perm r).length_eq
theorem rmvs_turn {os bs : List Nat} {n : Nat} (h : Ord os n) (b : Back os bs n) : (rmvs bs).length = (rmvs os).length := by
  rw [(rmvs_len (b.ord h)).1, (rmvs_len h).1, rings_turn h b, List.map_map]
  congr 1
  refine List.map_congr_left fun r _ => ?_
  show (turn r).length + 1 = r.length + 1
  rw [turn_len]
noncomputable def spLaw (K : PySem.W.Frag) (pt : Addr) : Sp := fun vs H Q _ => ∃ (a : Addr) (ns : List Int), vs = [.ref a] ∧ SqL K H a (ns.map V.int) ∧ ns.length ≤ 63 ∧ TabT pt H ∧ ∀ H', Q (.bl true) H'
theorem ok_law (T : Tx K mg t) : FnOk P w K mg t.bs CX0 6 t.f_law t.d_law ["_law_script"] (spLaw K t.pt) := by
  refine T.F_law.okQ sc_law (fun vs H Q E h => ?_) (fun cdv A outer s H vs Q E hr h => ?_)
  · obtain ⟨a, ns, rfl, _⟩ := h
    rfl
  · obtain ⟨a, ns, rfl, hS, hlen, hT, k⟩ := h
    refine ⟨_, (qb_cons (qs_for PassesOwn.never rfl (qi_range1 rfl T.z_range (qa_c (qe_op q_add qe_int (qe_callB (qc_min rfl) (by rfl) T.z_min bt_min (qa_c qe_int (qa_c (qe_callB (qc_len (K := K)) (by rfl) T.z_len bt_len (qa_c (qv 0) qa_nil)) qa_nil)))) qa_nil)) (qg_name (i := 1) sc_law.nd rfl (Or.inl rfl)) (qb_cons (qs_set (i := 2) sc_law.nd rfl (Or.inl rfl) (qe_call (ok_tape T) (hr.mono (by decide)) rfl T.m_tape T.F_tape.kp T.b_tape pass0 (qa_c (qv 0) (qa_c (qv 1) qa_nil))))
      (qb_cons (qs_set (i := 3) sc_law.nd rfl (Or.inl rfl) (qe_call (ok_many T) (hr.mono (by decide)) rfl T.m_many T.F_many.kp T.b_many pass0 (qa_c (qv 2) (qa_c (qv 1) qa_nil))))
      (qb_cons (qs_set (i := 4) sc_law.nd rfl (Or.inl rfl) (qe_call (ok_rows T) (hr.mono (by decide)) rfl T.m_rows T.F_rows.kp T.b_rows pass0 (qa_c (qv 2) (qa_c (qv 3) (qa_c (qe_call (ok_base T) (hr.mono (by decide)) rfl T.m_base T.F_base.kp T.b_base pass0 (qa_c (qv 2) qa_nil)) (qa_c (qe_op q_add qe_int (qe_call (ok_draw T) (hr.mono (by decide)) rfl T.m_draw T.F_draw.kp T.b_draw pass0 (qa_c (qv 2) (qa_c qe_int qa_nil)))) qa_nil))))))
      (qb_cons (qs_setC (i := 5) (N := ["_law_place", "_law_row"]) (tgs := ["_law_place", "_law_row"]) (frs := []) (ix := [])  sc_law.nd rfl (Or.inl rfl) ⟨rfl, by decide +kernel, rfl, by decide +kernel, rfl, rfl, True.intro, True.intro, rfl⟩ rfl (qi_enum_L (K := K) rfl T.z_enumerate (qa_c (qv 4) qa_nil)) (fun _ _ _ _ => (qg_tup (K := K) (n := 2) rfl (qgs_cons (qg_name (i := 0) (by show List.Nodup (["_law_place", "_law_row"] : List Str); decide +kernel) rfl (Or.inl rfl)) (qgs_cons (qg_name (i := 1) (by show List.Nodup (["_law_place", "_law_row"] : List Str); decide +kernel) rfl (Or.inl rfl)) qgs_nil)))) (fun _ _ _ _ => (qe_tup (qa_c (qv 1) (qa_c (qv 0) qa_nil)))))
      (qb_cons (qs_par rfl sc_law.nd (i := 6) (j := 7) rfl rfl (by decide) rfl rfl (qa_c (qe_call (ok_told_order T) (hr.mono (by decide)) rfl T.m_told_order T.F_told_order.kp T.b_told_order pass0 (qa_c (qv 4) qa_nil)) (qa_c (qe_call (ok_some_order T) (hr.mono (by decide)) rfl T.m_some_order T.F_some_order.kp T.b_some_order pass0 (qa_c (qv 2) (qa_c (qv 3) qa_nil))) qa_nil)))
      (qb_cons (qs_set (i := 8) sc_law.nd rfl (Or.inl rfl) (qe_call (ok_put T) (hr.mono (by decide)) rfl T.m_put T.F_put.kp T.b_put pass0 (qa_c (qv 5) (qa_c (qv 6) qa_nil))))
      (qb_cons (qs_if (QW.qt (qw_or (qt_cmpR (q_neD hr.units) (qv 8) (qe_callB (qc_sortP (K := K) hr.units) (by rfl) T.z_sorted bt_sorted (qa_c (qv 5) qa_nil)) (nomark _)) (qw_or1 (qt_not (qt_val (qe_call (ok_same T) (hr.mono (by decide)) rfl T.m_same T.F_same.kp T.b_same pass0 (qa_c (qe_call (ok_put T) (hr.mono (by decide)) rfl T.m_put T.F_put.kp T.b_put pass0 (qa_c (qv 8) (qa_c (qe_call (ok_back_of T) (hr.mono (by decide)) rfl T.m_back_of T.F_back_of.kp T.b_back_of pass0 (qa_c (qv 6) qa_nil)) qa_nil))) (qa_c (qv 5) qa_nil)))))))) (qb_one (qs_ret qe_bl)) qb_nil)
      (qb_cons (qs_set (i := 9) sc_law.nd rfl (Or.inl rfl) (qe_call (ok_put T) (hr.mono (by decide)) rfl T.m_put T.F_put.kp T.b_put pass0 (qa_c (qv 5) (qa_c (qv 7) qa_nil))))
      (qb_cons (qs_set (i := 10) sc_law.nd rfl (Or.inl rfl) (qe_call (ok_after T) (hr.mono (by decide)) rfl T.m_after T.F_after.kp T.b_after pass0 (qa_c (qv 7) (qa_c (qe_call (ok_after T) (hr.mono (by decide)) rfl T.m_after T.F_after.kp T.b_after pass0 (qa_c (qe_call (ok_back_of T) (hr.mono (by decide)) rfl T.m_back_of T.F_back_of.kp T.b_back_of pass0 (qa_c (qv 7) qa_nil)) (qa_c (qv 6) qa_nil))) qa_nil))))
      (qb_cons (qs_if (QW.qt (qw_or (qt_not (qt_val (qe_call (ok_same T) (hr.mono (by decide)) rfl T.m_same T.F_same.kp T.b_same pass0 (qa_c (qv 10) (qa_c (qv 6) qa_nil))))) (qw_or1 (qt_not (qt_val (qe_call (ok_same T) (hr.mono (by decide)) rfl T.m_same T.F_same.kp T.b_same pass0 (qa_c (qe_call (ok_put T) (hr.mono (by decide)) rfl T.m_put T.F_put.kp T.b_put pass0 (qa_c (qv 9) (qa_c (qe_call (ok_after T) (hr.mono (by decide)) rfl T.m_after T.F_after.kp T.b_after pass0 (qa_c (qe_call (ok_back_of T) (hr.mono (by decide)) rfl T.m_back_of T.F_back_of.kp T.b_back_of pass0 (qa_c (qv 7) qa_nil)) (qa_c (qv 6) qa_nil))) qa_nil))) (qa_c (qv 8) qa_nil)))))))) (qb_one (qs_ret qe_bl)) qb_nil)
      (qb_one (qs_for PassesOwn.never rfl (qi_list (K := K) (qe_lst (qa_c (qv 6) (qa_c (qv 7) qa_nil)))) (qg_name (i := 11) sc_law.nd rfl (Or.inl rfl)) (qb_cons (qs_asgT (qe_call (ok_walked T) (hr.mono (by decide)) rfl T.m_walked T.F_walked.kp T.b_walked pass0 (qa_c (qv 5) (qa_c (qv 11) qa_nil))) (qg_tup (K := K) (n := 2) rfl (qgs_cons (qg_name (i := 12) sc_law.nd rfl (Or.inl rfl)) (qgs_cons (qg_name (i := 13) sc_law.nd rfl (Or.inl rfl)) qgs_nil))))
      (qb_cons (qs_if (QW.qt (qw_or (qt_not (qt_val (qe_call (ok_same T) (hr.mono (by decide)) rfl T.m_same T.F_same.kp T.b_same pass0 (qa_c (qv 12) (qa_c (qe_call (ok_put T) (hr.mono (by decide)) rfl T.m_put T.F_put.kp T.b_put pass0 (qa_c (qv 5) (qa_c (qv 11) qa_nil))) qa_nil))))) (qw_or1 (qt_cmpR q_ne (qv 13) (qe_call (ok_ring_moves T) (hr.mono (by decide)) rfl T.m_ring_moves T.F_ring_moves.kp T.b_ring_moves pass0 (qa_c (qv 11) qa_nil)) (nomark _))))) (qb_one (qs_ret qe_bl)) qb_nil)
      (qb_cons (qs_if (qt_not (qt_val (qe_call (ok_same T) (hr.mono (by decide)) rfl T.m_same T.F_same.kp T.b_same pass0 (qa_c (qe_call (ok_walked T) (hr.mono (by decide)) rfl T.m_walked T.F_walked.kp T.b_walked pass0 (qa_c (qv 12) (qa_c (qe_call (ok_back_of T) (hr.mono (by decide)) rfl T.m_back_of T.F_back_of.kp T.b_back_of pass0 (qa_c (qv 11) qa_nil)) qa_nil))) (qa_c (qe_tup (qa_c (qv 5) (qa_c (qe_call (ok_ring_moves T) (hr.mono (by decide)) rfl T.m_ring_moves T.F_ring_moves.kp T.b_ring_moves pass0 (qa_c (qv 11) qa_nil)) qa_nil))) qa_nil))))) (qb_one (qs_ret qe_bl)) qb_nil)
      (qb_one (qs_if (qt_not (qt_val (qe_call (ok_same T) (hr.mono (by decide)) rfl T.m_same T.F_same.kp T.b_same pass0 (qa_c (qe_call (ok_rings T) (hr.mono (by decide)) rfl T.m_rings T.F_rings.kp T.b_rings pass0 (qa_c (qe_call (ok_back_of T) (hr.mono (by decide)) rfl T.m_back_of T.F_back_of.kp T.b_back_of pass0 (qa_c (qv 11) qa_nil)) qa_nil)) (qa_c (qe_comp (N := ["_law_ring"]) (tgs := ["_law_ring"]) (frs := []) (ix := []) ⟨rfl, by decide +kernel, rfl, by decide +kernel, rfl, rfl, True.intro, True.intro, rfl⟩ rfl (qi_list (K := K) (qe_call (ok_rings T) (hr.mono (by decide)) rfl T.m_rings T.F_rings.kp T.b_rings pass0 (qa_c (qv 11) qa_nil))) (fun _ _ _ _ => (qg_name (i := 0) (by show List.Nodup (["_law_ring"] : List Str); decide +kernel) rfl (Or.inl rfl))) (fun _ _ _ _ => (qe_call (ok_turned T) (hr.mono (by decide)) rfl T.m_turned T.F_turned.kp T.b_turned pass0 (qa_c (qv 0) qa_nil)))) qa_nil))))) (qb_one (qs_ret qe_bl)) qb_nil))))))))))))))))))
      (qb_one (qs_ret qe_bl))), ?_⟩
    rw [show L2.start ["_law_script", "_law_k", "_law_tape_here", "_law_many_here", "_law_rows_here", "_law_things", "_law_order", "_law_drawn", "_law_there", "_law_mixed", "_law_again", "_law_way", "_law_put_so", "_law_moves"] [V.ref a] = [some (V.ref a), none, none, none, none, none, none, none, none, none, none, none, none, none] from rfl]
    walk_at "fs_rd"
    refine in_lenL hS ?_
    walk_at "fs_rd"
    have hml : (List.map V.int ns).length = ns.length := List.length_map ..
    refine ⟨_, rfl, by (repeat' split) <;> omega, by (repeat' split) <;> omega, for_range (fun i σ H' => SameX t.pt H H' ∧ TabT t.pt H' ∧ ∃ v1 v2 v3 v4 v5 v6 v7 v8 v9 v10 v11 v12 v13, σ = [some (V.ref a), v1, v2, v3, v4, v5, v6, v7, v8, v9, v10, v11, v12, v13]) ⟨SameX.refl _ _, hT, _, _, _, _, _, _, _, _, _, _, _, _, _, rfl⟩ ?_ ?_⟩
    · rintro i σ H' hi ⟨sm, T0, v1, v2, v3, v4, v5, v6, v7, v8, v9, v10, v11, v12, v13, rfl⟩
      walk_at "fs_rd"
      refine ⟨a, ns, _, rfl, seq_sx hT sm hS, by omega, fun p H1 hp0 same T1 => ?_⟩
      have hpn : H p = none := sx_free sm T0 hp0
      have TT1 := T0.same same
      have M1 : SameX t.pt H H1 := sm.trans same.x
      walk_at "fs_rd"
      refine ⟨p, _, rfl, T1, fun n H2 hn S2 => ?_⟩
      walk_at "fs_rd"
      refine ⟨p, rfl, S2.tape, fun b H3 hb hb2 S3 => ?_⟩
      walk_at "fs_rd"
      refine ⟨p, 3, rfl, S3.tape, by decide, by decide, fun w0 H4 hw0 S4 => ?_⟩
      walk_at "fs_rd"
      refine ⟨p, n, b, 1 + w0, by simp, S4.tape, hn, hb, hb2, by omega, fun l ps rss H5 hl0 tl hR hrl hG hlp S5 => ?_⟩
      have S15 := ((S2.trans S3).trans S4).trans S5
      have T5 := S5.tape
      have TT5 := tab_st TT1 T1 S15
      have M5 : SameX t.pt H H5 := fun c u n e => S15.keep c u (M1 c u n e) (ne_of_none e hpn)
      have hpl : ps.length = rss.length := hR.1
      have hwl : ∀ r ∈ rss, r.length = 1 + w0 := fun r hr => (hG r hr).1
      have hgd : ∀ i, i < rss.length → rss[i]? = some (rss.getD i []) := fun i hi => by rw [List.getD_eq_getElem?_getD, List.getElem?_eq_getElem hi]; rfl
      have hgl : ∀ i, i < rss.length → (rss.getD i []).length ≤ 3 := fun i hi => by rw [hwl _ (List.mem_of_getElem? (hgd i hi))]; omega
      walk_at "fs_rd"
      refine ⟨l, rfl, ⟨_, SqL.of tl⟩, comp_gen (n := ps.length) (fun i ys σ H' => Same H5 H' ∧ PrAt H' ys ((things rss).take i) ∧ i ≤ ps.length ∧ ∃ v w, σ = [v, w]) (small1000 (by omega)) (fun i ys σ H' h => by rw [h.2.1.1, List.length_take, things_len]; have := h.2.2.1; omega) ⟨Same.refl _, PrAt.nil, Nat.zero_le _, none, none, rfl⟩ ?_ ?_ ?_ ?_⟩
      · rintro i ys σ H6 hi ⟨s6, _⟩
        exact ⟨_, V.ref (ps[i]'hi), SqL.of (s6 _ _ tl), by rw [List.getElem?_map, List.getElem?_eq_getElem hi]; rfl⟩
      · rintro ys σ H6 ⟨s6, _⟩
        exact ⟨_, SqL.of (s6 _ _ tl), by rw [List.length_map]⟩
      · rintro i x ys σ H6 H7 hi ⟨s6, P6, _, v, w, rfl⟩ ⟨q, x1, rfl, hq, rfl, hx1⟩
        have hx2 := hx1 _ (SqL.of (s6 _ _ tl))
        obtain ⟨r, rfl, hr, _, hir⟩ := map_get hx2
        have hir2 : i < rss.length := by omega
        have tr := hR.2 i r _ hr (hgd i hir2)
        refine in_gtup2 upd_same ?_
        dsimp only [List.set]
        have s7 := s6.new (o := .tup [V.int (i : Nat), V.ref r]) hq
        have s67 := (Same.refl H6).new (o := .tup [V.int (i : Nat), V.ref r]) hq
        generalize upd H6 q (.tup [V.int (i : Nat), V.ref r]) = H7 at s7 s67
        walk_at "fs_rd"
        refine ⟨three (by simp), fun q2 hq2 => ?_⟩
        have s8 := s7.new (o := .tup [V.ref r, V.int (i : Nat)]) hq2
        have s78 := s67.new (o := .tup [V.ref r, V.int (i : Nat)]) hq2
        refine Nx.mk hi ⟨s8, ?_, hi, _, _, rfl⟩
        rw [List.take_add_one, things_at hir2]
        exact (P6.tk (TupK.of s78)).snoc ⟨q2, r, rfl, upd_same, s8 _ _ tr, hgl i hir2⟩
      rintro zs σ H6 ⟨s6, P6, _, v, w, rfl⟩ th hth
      rw [List.take_of_length_le (by rw [things_len]; omega)] at P6
      have hthp : th ≠ p := (T5.same s6).ne hth
      have s7 := s6.new (o := .lst zs) hth
      have tth : (upd H6 th (.lst zs)) th = some (.lst zs) := upd_same
      have P7 := P6.tk (TupK.of ((Same.refl H6).new (o := .lst zs) hth))
      generalize upd H6 th (.lst zs) = H7 at s7 tth P7
      have T7 := T5.same s7
      have TT7 := TT5.same s7
      have M7 : SameX t.pt H H7 := M5.trans s7.x
      have hzn : zs.length = n := by rw [P7.1, things_len, hrl]
      walk_at "fs_rd"
      refine ⟨l, ps, rss, 1 + w0, rfl, .inl (s7 _ _ tl), (hR.same s7).toU, hwl, by omega, TT7, fun od os H8 hod x8 TT8 tod hPm hPw => ?_⟩
      have hP : os.Perm (List.range n) := by rw [← hrl]; exact hPm
      have hO : Ord os n := Ord.of_perm hP
      have k78 : TupK H7 H8 := fun b xs h => x8 _ _ (TT7.neT h) h
      have hodp : od ≠ p := T7.ne hod
      have tth8 := x8 _ _ (TT7.ne tth) tth
      have T8 : Tp2 H8 p := T7.elim fun a1 h => h.elim fun a2 h => ⟨a1, a2, x8 _ _ (TT7.ne h.1) h.1, h.2⟩
      walk_at "fs_rd"
      refine ⟨p, n, rfl, T8, hn, fun dl os2 H9 hP2 S9 hdl td9 => ?_⟩
      have hO2 : Ord os2 n := Ord.of_perm hP2
      have tth9 := S9.keep _ _ tth8 hthp
      have tod9 := S9.keep _ _ tod hodp
      have P9 := (P7.tk k78).tk (TupK.st2 T8 S9)
      have TT9 := tab_st TT8 T8 S9
      have M9 : SameX t.pt H H9 := fun c u n e => S9.keep c u (x8 c u n (M7 c u n e)) (ne_of_none e hpn)
      have eth : ∀ {us : List Nat}, Ord us n → (us.map fun o => (things rss).getD o ([], 0)) = us.map fun o => (rss.getD o [], o) := fun h => things_map rss fun o ho => by rw [hrl]; exact h.lt o ho
      have ethn : things rss = (List.range n).map fun o => (rss.getD o [], o) := by unfold things; rw [hrl]
      generalize hf : (fun o => (rss.getD o [], o) : Nat → List Nat × Nat) = f at eth ethn
      walk_at "fs_rd"
      refine ⟨th, od, zs, things rss, os, n, rfl, tth9, P9, hzn, tod9, hO, hn, fun lt ys H10 hlt s10 tlt P10 => ?_⟩
      rw [eth hO] at P10
      walk_at "fs_rd"
      have P9' := P9.tk (TupK.of s10)
      obtain ⟨rs, qs, ezs, hrs, hqs, hrq⟩ := PrAt.split P9'
      have hrn : rs.length = n := by rw [hrs, things_len, hrl]
      have hth10 := s10 _ _ tth9
      rw [ezs] at hth10
      refine ⟨th, rs, qs, (List.range n).map fun i => (castL (rss.getD i []), [((i : Nat) : Int)]), rfl, SqL.of hth10, by simp [hrn], by rw [hqs, things_len, hrl]; simp, by omega, fun i a1 q1 k1 e1 e2 e3 => ?_, fun d pm hd hpm hpw => ?_⟩
      · have hin : i < n := by rw [← hrn]; exact get_lt e1
        rw [List.getElem?_map, List.getElem?_range hin] at e3
        cases e3
        obtain ⟨g1, g2⟩ := hrq i a1 q1 _ e1 e2 (things_at (by omega))
        refine ⟨SqT.of g1, SqT.of ?_⟩
        rw [← NV_castL]; exact g2
      rw [hrn] at hpm
      have epm : pm = os := by
        refine sorted_one (R := Rk rss 0) (fun a b h1 h2 => Rk.asymm h1 h2) (hpm.trans hP.symm) (lt2_rk (fun i hi => ?_) hpw) hPw
        have hin : i < n := List.mem_range.mp (hpm.mem_iff.mp hi)
        rw [List.getD_eq_getElem?_getD, List.getElem?_map, List.getElem?_range hin]; rfl
      subst epm
      have eres : (pm.map fun i => V.ref (rs.getD i 0)) = pm.map fun o => zs.getD o .non := by
        refine List.map_congr_left fun o ho => ?_
        have hon : o < rs.length := by rw [hrn]; exact hO.lt o ho
        rw [ezs, List.getD_eq_getElem?_getD, List.getD_eq_getElem?_getD, List.getElem?_map, List.getElem?_eq_getElem hon]; rfl
      rw [eres]
      have s11 := s10.new (o := .lst (pm.map fun o => zs.getD o .non)) hd
      have s1011 := (Same.refl H10).new (o := .lst (pm.map fun o => zs.getD o .non)) hd
      have td11 : (upd H10 d (.lst (pm.map fun o => zs.getD o .non))) d = some (.lst (pm.map fun o => zs.getD o .non)) := upd_same
      have PS := (P9'.put (os := pm) (fun o ho => by rw [hzn]; exact hO.lt o ho)).tk (TupK.of s1011)
      rw [eth hO] at PS
      have P11 := P10.tk (TupK.of s1011)
      have tlt11 := s1011 _ _ tlt
      generalize upd H10 d (.lst (pm.map fun o => zs.getD o .non)) = H11 at s11 s1011 td11 PS P11 tlt11
      refine in_neSame (PrAt.datE P11 tlt11) (PrAt.datE PS td11) (by decide) ?_
      refine ⟨_, rfl, ?_⟩
      walk_at "fs_rd"
      have tod11 := s11 _ _ tod9
      have tth11 := s11 _ _ tth9
      have P911 := P9.tk (TupK.of s11)
      have hl1 : ys.length = n := by rw [P10.1, List.length_map, hO.len]
      refine ⟨od, pm, n, rfl, .inl tod11, hO, hn, fun bl bs H12 hbl s12 tbl hB => ?_⟩
      walk_at "fs_rd"
      refine ⟨lt, bl, ys, pm.map f, bs, n, rfl, s12 _ _ tlt11, P11.tk (TupK.of s12), hl1, tbl, hB.ord hO, hn, fun l2 ys2 H13 hl2 s13 tl2 P13 => ?_⟩
      rw [map_back hO hB, ← ethn] at P13
      have s1113 := s12.trans s13
      have s0d := s11.trans s1113
      walk_at "fs_rd"
      refine ⟨_, _, rfl, PrAt.sm P13 (P9.tk (TupK.of s0d)) tl2 (s0d _ _ tth9) (by rw [things_len]; omega) 1, fun H14 s14 => ?_⟩
      have sE := s0d.trans s14
      walk_at "fs_rd"
      refine ⟨th, dl, zs, things rss, os2, n, rfl, sE _ _ tth9, P9.tk (TupK.of sE), hzn, sE _ _ td9, hO2, hn, fun lm ym H15 hlm s15 tlm P15 => ?_⟩
      rw [eth hO2] at P15
      have sF := sE.trans s15
      have hl2m : ym.length = n := by rw [P15.1, List.length_map, hO2.len]
      walk_at "fs_rd"
      refine ⟨dl, os2, n, rfl, .inl (sF _ _ td9), hO2, hn, fun b2 bs2 H16 hb2' s16 tb2 hB2 => ?_⟩
      have sG := sF.trans s16
      walk_at "fs_rd"
      refine ⟨b2, od, bs2, pm, n, rfl, .inl ⟨tb2, sG _ _ tod9⟩, hB2.ord hO2, hO, hn, fun l3 H17 s17 tl3 => ?_⟩
      have sI := sG.trans s17
      walk_at "fs_rd"
      refine ⟨dl, l3, os2, _, n, rfl, .inl ⟨sI _ _ td9, tl3⟩, hO2, (hB2.ord hO2).cmp hO, hn, fun l4 H18 s18 tl4 => ?_⟩
      rw [cmp_back hO2 hB2 hO] at tl4
      have sJ := sI.trans s18
      walk_at "fs_rd"
      refine ⟨_, _, rfl, SmAt.ints 3 tl4 (sJ _ _ tod9) (by rw [hO.len]; omega), fun H19 s19 => ?_⟩
      have sL := sJ.trans s19
      walk_at "fs_rd"
      refine ⟨dl, os2, n, rfl, .inl (sL _ _ td9), hO2, hn, fun b3 bs3 H20 hb3 s20 tb3 hB3 => ?_⟩
      have sM := sL.trans s20
      walk_at "fs_rd"
      refine ⟨b3, od, bs3, pm, n, rfl, .inl ⟨tb3, sM _ _ tod9⟩, hB3.ord hO2, hO, hn, fun l5 H21 s21 tl5 => ?_⟩
      have sO := sM.trans s21
      have s1521 : Same H15 H21 := (((((s16.trans s17).trans s18).trans s19).trans s20).trans s21)
      walk_at "fs_rd"
      refine ⟨lm, l5, ym, os2.map f, _, n, rfl, s1521 _ _ tlm, P15.tk (TupK.of s1521), hl2m, tl5, (hB3.ord hO2).cmp hO, hn, fun l6 y6 H22 hl6 s22 tl6 P22 => ?_⟩
      rw [map_after hO2 hB3 hO] at P22
      have sP := sO.trans s22
      have s1122 : Same H11 H22 := ((s1113.trans s14).trans s15).trans (s1521.trans s22)
      walk_at "fs_rd"
      refine ⟨_, _, rfl, PrAt.sm P22 (P11.tk (TupK.of s1122)) tl6 (s1122 _ _ tlt11) (by rw [List.length_map, hO.len]; omega) 1, fun H23 s23 => ?_⟩
      have sQ := sP.trans s23
      walk_at "fs_rd"
      have tth23 := sQ _ _ tth9
      have P23 := P9.tk (TupK.of sQ)
      have tod23 := sQ _ _ tod9
      have td23 := sQ _ _ td9
      have M23 : SameX t.pt H H23 := M9.trans sQ.x
      have TT23 := TT9.same sQ
      refine ⟨three (by simp), fun wl hwl => ?_⟩
      have s24 := (Same.refl H23).new (o := .lst [V.ref od, V.ref dl]) hwl
      have twl : (upd H23 wl (.lst [V.ref od, V.ref dl])) wl = some (.lst [V.ref od, V.ref dl]) := upd_same
      generalize upd H23 wl (.lst [V.ref od, V.ref dl]) = H24 at s24 twl
      refine ⟨wl, rfl, ⟨_, SqL.of twl⟩, for_list (a := wl) (xs := [V.ref od, V.ref dl]) (fun j σ H' => Same H24 H' ∧ ∃ v11 v12 v13, σ = [some (V.ref a), some (V.int (0 + (i : Int))), some (V.ref p), some (V.int (n : Nat)), some (V.ref l), some (V.ref th), some (V.ref od), some (V.ref dl), some (V.ref lt), some (V.ref lm), some (V.ref l4), v11, v12, v13]) ⟨Same.refl _, _, _, _, rfl⟩ (fun j σ H' _ h => SqL.of (h.1 _ _ twl)) ?_ ?_⟩
      · rintro j x σ H25 hx ⟨s25, w11, w12, w13, rfl⟩
        have sR := s24.trans s25
        obtain ⟨wa, ow, rfl, twa, hOw⟩ : ∃ (wa : Addr) (ow : List Nat), x = V.ref wa ∧ H25 wa = some (.lst (NV ow)) ∧ Ord ow n := by
          match j, hx with
          | 0, hx => cases hx; exact ⟨od, pm, rfl, sR _ _ tod23, hO⟩
          | 1, hx => cases hx; exact ⟨dl, os2, rfl, sR _ _ td23, hO2⟩
          | j + 2, hx => simp at hx
        have tth25 := sR _ _ tth23
        have P25 := P23.tk (TupK.of sR)
        have hob : ∀ o ∈ ow, o < ow.length := fun o ho => by rw [hOw.len]; exact hOw.lt o ho
        have hml2 := (rmvs_len hOw).1
        walk_at "fs_rd"
        refine ⟨th, wa, zs, things rss, ow, n, rfl, tth25, P25, hzn, twa, hOw, hn, fun tq lq yq H26 s26 ttq tlq Pq => ?_⟩
        rw [eth hOw] at Pq
        refine in_gtup2 ttq ?_
        dsimp only [List.set]
        walk_at "fs_rd"
        refine ⟨th, wa, zs, things rss, ow, n, rfl, s26 _ _ tth25, P25.tk (TupK.of s26), hzn, s26 _ _ twa, hOw, hn, fun l7 y7 H27 hl7 s27 tl7 P27 => ?_⟩
        rw [eth hOw] at P27
        have hlf : (ow.map f).length ≤ 200 := by rw [List.length_map, hOw.len]; omega
        walk_at "fs_rd"
        refine ⟨_, _, rfl, PrAt.sm (Pq.tk (TupK.of s27)) P27 (s27 _ _ tlq) tl7 hlf 1, fun H28 s28 => ?_⟩
        have s2528 := (s26.trans s27).trans s28
        walk_at "fs_rd"
        refine ⟨wa, ow, rfl, .inl (SqL.of (s2528 _ _ twa)), by rw [hOw.len]; omega, hob, fun H29 s29 => ?_⟩
        rw [← hml2]
        walk_at "fs_rd"
        rw [decide_eq_true rfl]
        walk_at "fs_rd"
        have s2529 := s2528.trans s29
        have s2629 := (s27.trans s28).trans s29
        refine ⟨wa, ow, n, rfl, .inl (s2529 _ _ twa), hOw, hn, fun bw bsw H30 hbw s30 tbw hBw => ?_⟩
        have s2630 := s2629.trans s30
        walk_at "fs_rd"
        refine ⟨lq, bw, yq, ow.map f, bsw, n, rfl, s2630 _ _ tlq, Pq.tk (TupK.of s2630), by rw [Pq.1, List.length_map, hOw.len], tbw, hBw.ord hOw, hn, fun tr lr yr H31 s31 ttr tlr Pr1 => ?_⟩
        rw [map_back hOw hBw, ← ethn] at Pr1
        rw [rmvs_turn hOw hBw] at ttr
        have s2531 := (s2529.trans s30).trans s31
        walk_at "fs_rd"
        refine ⟨wa, ow, rfl, .inl (SqL.of (s2531 _ _ twa)), by rw [hOw.len]; omega, hob, fun H32 s32 => ?_⟩
        rw [← hml2]
        walk_at "fs_rd"
        refine ⟨three (by simp), fun tz htz => ?_⟩
        have s33 := (Same.refl H32).new (o := .tup [V.ref th, V.int (((rmvs ow).length : Nat) : Int)]) htz
        have ttz : (upd H32 tz (.tup [V.ref th, V.int (((rmvs ow).length : Nat) : Int)])) tz = some (.tup [V.ref th, V.int (((rmvs ow).length : Nat) : Int)]) := upd_same
        generalize upd H32 tz (.tup [V.ref th, V.int (((rmvs ow).length : Nat) : Int)]) = H33 at s33 ttz
        have s3133 := s32.trans s33
        have s2533 := s2531.trans s3133
        walk_at "fs_rd"
        refine ⟨_, _, rfl, SmAt.pair (s3133 _ _ ttr) ttz (PrAt.sm (Pr1.tk (TupK.of s3133)) (P25.tk (TupK.of s2533)) (s3133 _ _ tlr) (s2533 _ _ tth25) (by rw [things_len]; omega) 0) (SmAt.int _ _), fun H34 s34 => ?_⟩
        have s2534 := s2533.trans s34
        walk_at "fs_rd"
        refine ⟨wa, ow, n, rfl, .inl (s2534 _ _ twa), hOw, hn, fun b4 bs4 H35 hb4 s35 tb4 hB4 => ?_⟩
        have hO4 := hB4.ord hOw
        walk_at "fs_rd"
        refine ⟨b4, bs4, rfl, .inl (SqL.of tb4), by rw [hO4.len]; omega, fun o ho => by rw [hO4.len]; exact hO4.lt o ho, fun r1 p1 H36 hr1 hp1 hn1 s36 tr1 L1 => ?_⟩
        rw [rings_turn hOw hB4] at L1
        have s2536 := (s2534.trans s35).trans s36
        walk_at "fs_rd"
        refine ⟨wa, ow, rfl, .inl (SqL.of (s2536 _ _ twa)), by rw [hOw.len]; omega, hob, fun r2 p2 H37 hr2 hp2 hn2 s37 tr2 L2 => ?_⟩
        have hp2l : p2.length = (ringsF ow).length := L2.1
        have hfew := upTo_few ow ow.length
        have hrl61 : ∀ r ∈ ringsF ow, r.length ≤ 61 := fun r hr => by have := hfew.2 r hr; rw [hOw.len] at this; omega
        have hrlt := rings_lt hOw
        walk_at "fs_rd"
        refine ⟨r2, rfl, ⟨_, SqL.of tr2⟩, comp_lst (a := r2) (vs := p2.map V.ref) (fun i ys σ H' => Same H37 H' ∧ (∃ qs : List Addr, ys = qs.map V.ref ∧ i ≤ p2.length ∧ LsAt H' qs (((ringsF ow).map turn).take i)) ∧ ∃ v, σ = [v]) (by
          have h9 : (ringsF ow).length ≤ ow.length := hfew.1
          rw [hOw.len] at h9
          rw [List.length_map]; exact small1000 (by omega)) (fun i ys σ H' h => by
          obtain ⟨_, ⟨qs, rfl, hi, L⟩, _⟩ := h
          rw [List.length_map, L.1, List.length_take, List.length_map]; omega) (fun i ys σ H' h => SqL.of (h.1 _ _ tr2)) ⟨Same.refl _, ⟨[], rfl, Nat.zero_le _, LsAt.nil⟩, none, rfl⟩ ?_ ?_⟩
        · rintro i ys σ H38 x hx ⟨s38, ⟨qs, rfl, hi, LQ⟩, v, rfl⟩
          have hil := get_lt hx
          obtain ⟨g, rfl, hg, _, hig⟩ := map_get hx
          have hir : i < (ringsF ow).length := by omega
          have er : (ringsF ow)[i]? = some (ringsF ow)[i] := List.getElem?_eq_getElem hir
          have tg := s38 _ _ (L2.2 i g _ hg er)
          have hr1' := (hrlt _ (List.getElem_mem hir)).1
          have hr3 := hrl61 _ (List.getElem_mem hir)
          generalize (ringsF ow)[i] = r at er tg hr1' hr3
          walk_at "fs_rd"
          refine ⟨g, r, rfl, tg, by omega, by omega, fun lz H39 hlz s39 tlz => ?_⟩
          refine Nx.mk hil ⟨s38.trans s39, ⟨qs ++ [lz], by rw [List.map_append]; rfl, by omega, ?_⟩, _, rfl⟩
          rw [List.take_add_one, List.getElem?_map, er]
          exact (LQ.same s39).snoc tlz
        rintro ys σ H38 ⟨s38, ⟨qs, rfl, hi, LQ⟩, v, rfl⟩ lz hlz
        rw [List.take_of_length_le (by rw [List.length_map, List.length_map]; omega)] at LQ
        have s39 := s38.new (o := .lst (qs.map V.ref)) hlz
        have tlz : (upd H38 lz (.lst (qs.map V.ref))) lz = some (.lst (qs.map V.ref)) := upd_same
        have LQ9 := LQ.same ((Same.refl H38).new (o := .lst (qs.map V.ref)) hlz)
        generalize upd H38 lz (.lst (qs.map V.ref)) = H39 at s39 tlz LQ9
        have s3639 := s37.trans s39
        walk_at "fs_rd"
        refine ⟨_, _, rfl, LsAt.sm (L1.same s3639) LQ9 (s3639 _ _ tr1) tlz (by
          have h9 : (ringsF ow).length ≤ ow.length := hfew.1
          rw [hOw.len] at h9
          rw [List.length_map]; omega) (fun r hr => by
          obtain ⟨r', hr', rfl⟩ := List.mem_map.mp hr
          have := hrl61 r' hr'
          rw [turn_len]; omega) 2, fun H40 s40 => ?_⟩
        walk_at "fs_rd"
        exact ⟨s25.trans ((s2536.trans s3639).trans s40), _, _, _, rfl⟩
      · rintro σ H25 ⟨s25, w11, w12, w13, rfl⟩
        have sR := s24.trans s25
        walk_at "fs_rd"
        exact ⟨M23.trans sR.x, TT23.same sR, _, _, _, _, _, _, _, _, _, _, _, _, _, rfl⟩
    · rintro σ H' ⟨sm, T0, v1, v2, v3, v4, v5, v6, v7, v8, v9, v10, v11, v12, v13, rfl⟩
      walk_at "fs_rd"
      exact k H'

end
theorem mat1 {α : Type} {P : List α → Prop} (h : ∀ x0 : α, P [x0]) : ∀ us : List α, us.length = 1 → P us
  | [x0], _ => h x0
theorem mat2 {α : Type} {P : List α → Prop} (h : ∀ x0 x1 : α, P [x0, x1]) : ∀ us : List α, us.length = 2 → P us
  | [x0, x1], _ => h x0 x1
theorem mat3 {α : Type} {P : List α → Prop} (h : ∀ x0 x1 x2 : α, P [x0, x1, x2]) : ∀ us : List α, us.length = 3 → P us
  | [x0, x1, x2], _ => h x0 x1 x2
theorem mat4 {α : Type} {P : List α → Prop} (h : ∀ x0 x1 x2 x3 : α, P [x0, x1, x2, x3]) : ∀ us : List α, us.length = 4 → P us
  | [x0, x1, x2, x3], _ => h x0 x1 x2 x3
theorem all_mk {l : PySem.W.OpenLaw} {w : World} {K : PySem.W.Frag} {h : Heap} {mg : Str → Option Value} {fa f0 f1 f2 f3 f4 f5 f6 f7 f8 f9 f10 f11 f12 f13 f14 f15 f16 f17 f18 f19 f20 f21 f22 f23 f24 f25 c_RingWalk : Addr} (X : K.In h) (G : h.Ns mainGlobals mg) (hfa : mg "law" = some (.ref fa))
    {oc0 kV0 dc0 pm0 cd0 ct0 : Value} {od0 an0 : Option Addr} {sl0 : Array (Option Value)}
    (a0 : PySem.W.nsIn K mainGlobals "_wall" = some (some (.ref f0)))
    (l0 : K.lookup f0 = some ⟨oc0, od0, .func (PySem.W.fnOf "_wall" "_wall" (defArgs s__wall) (defBody s__wall) (defScope s__wall) .none kV0 dc0 pm0 an0 cd0 ct0), sl0⟩) (c0 : PySem.W.codeIn K cd0 "_wall" = true) (k0 : PySem.W.keepIn K (.ref f0) = true)
    {oc1 kV1 dc1 pm1 cd1 ct1 : Value} {od1 an1 : Option Addr} {sl1 : Array (Option Value)}
    (a1 : PySem.W.nsIn K mainGlobals "is_order" = some (some (.ref f1)))
    (l1 : K.lookup f1 = some ⟨oc1, od1, .func (PySem.W.fnOf "is_order" "is_order" (defArgs s_is_order) (defBody s_is_order) (defScope s_is_order) .none kV1 dc1 pm1 an1 cd1 ct1), sl1⟩) (c1 : PySem.W.codeIn K cd1 "is_order" = true) (k1 : PySem.W.keepIn K (.ref f1) = true)
    {oc2 kV2 dc2 pm2 cd2 ct2 : Value} {od2 an2 : Option Addr} {sl2 : Array (Option Value)}
    (a2 : PySem.W.nsIn K mainGlobals "check_order" = some (some (.ref f2)))
    (l2 : K.lookup f2 = some ⟨oc2, od2, .func (PySem.W.fnOf "check_order" "check_order" (defArgs s_check_order) (defBody s_check_order) (defScope s_check_order) .none kV2 dc2 pm2 an2 cd2 ct2), sl2⟩) (c2 : PySem.W.codeIn K cd2 "check_order" = true) (k2 : PySem.W.keepIn K (.ref f2) = true)
    {oc3 kV3 dc3 pm3 cd3 ct3 : Value} {od3 an3 : Option Addr} {sl3 : Array (Option Value)}
    (a3 : PySem.W.nsIn K mainGlobals "own_copy" = some (some (.ref f3)))
    (l3 : K.lookup f3 = some ⟨oc3, od3, .func (PySem.W.fnOf "own_copy" "own_copy" (defArgs s_own_copy) (defBody s_own_copy) (defScope s_own_copy) .none kV3 dc3 pm3 an3 cd3 ct3), sl3⟩) (c3 : PySem.W.codeIn K cd3 "own_copy" = true) (k3 : PySem.W.keepIn K (.ref f3) = true)
    {oc4 kV4 dc4 pm4 cd4 ct4 : Value} {od4 an4 : Option Addr} {sl4 : Array (Option Value)}
    (a4 : PySem.W.nsIn K mainGlobals "put" = some (some (.ref f4)))
    (l4 : K.lookup f4 = some ⟨oc4, od4, .func (PySem.W.fnOf "put" "put" (defArgs s_put) (defBody s_put) (defScope s_put) .none kV4 dc4 pm4 an4 cd4 ct4), sl4⟩) (c4 : PySem.W.codeIn K cd4 "put" = true) (k4 : PySem.W.keepIn K (.ref f4) = true)
    {oc5 kV5 dc5 pm5 cd5 ct5 : Value} {od5 an5 : Option Addr} {sl5 : Array (Option Value)}
    (a5 : PySem.W.nsIn K mainGlobals "back_of" = some (some (.ref f5)))
    (l5 : K.lookup f5 = some ⟨oc5, od5, .func (PySem.W.fnOf "back_of" "back_of" (defArgs s_back_of) (defBody s_back_of) (defScope s_back_of) .none kV5 dc5 pm5 an5 cd5 ct5), sl5⟩) (c5 : PySem.W.codeIn K cd5 "back_of" = true) (k5 : PySem.W.keepIn K (.ref f5) = true)
    {oc6 kV6 dc6 pm6 cd6 ct6 : Value} {od6 an6 : Option Addr} {sl6 : Array (Option Value)}
    (a6 : PySem.W.nsIn K mainGlobals "after" = some (some (.ref f6)))
    (l6 : K.lookup f6 = some ⟨oc6, od6, .func (PySem.W.fnOf "after" "after" (defArgs s_after) (defBody s_after) (defScope s_after) .none kV6 dc6 pm6 an6 cd6 ct6), sl6⟩) (c6 : PySem.W.codeIn K cd6 "after" = true) (k6 : PySem.W.keepIn K (.ref f6) = true)
    {oc7 kV7 dc7 pm7 cd7 ct7 : Value} {od7 an7 : Option Addr} {sl7 : Array (Option Value)}
    (a7 : PySem.W.nsIn K mainGlobals "rings" = some (some (.ref f7)))
    (l7 : K.lookup f7 = some ⟨oc7, od7, .func (PySem.W.fnOf "rings" "rings" (defArgs s_rings) (defBody s_rings) (defScope s_rings) .none kV7 dc7 pm7 an7 cd7 ct7), sl7⟩) (c7 : PySem.W.codeIn K cd7 "rings" = true) (k7 : PySem.W.keepIn K (.ref f7) = true)
    {oc8 kV8 dc8 pm8 cd8 ct8 : Value} {od8 an8 : Option Addr} {sl8 : Array (Option Value)}
    (a8 : PySem.W.nsIn K mainGlobals "told_order" = some (some (.ref f8)))
    (l8 : K.lookup f8 = some ⟨oc8, od8, .func (PySem.W.fnOf "told_order" "told_order" (defArgs s_told_order) (defBody s_told_order) (defScope s_told_order) .none kV8 dc8 pm8 an8 cd8 ct8), sl8⟩) (c8 : PySem.W.codeIn K cd8 "told_order" = true) (k8 : PySem.W.keepIn K (.ref f8) = true)
    {oc9 kV9 dc9 pm9 cd9 ct9 : Value} {od9 an9 : Option Addr} {sl9 : Array (Option Value)}
    (a9 : PySem.W.nsIn K mainGlobals "moves_of_ring" = some (some (.ref f9)))
    (l9 : K.lookup f9 = some ⟨oc9, od9, .func (PySem.W.fnOf "moves_of_ring" "moves_of_ring" (defArgs s_moves_of_ring) (defBody s_moves_of_ring) (defScope s_moves_of_ring) .none kV9 dc9 pm9 an9 cd9 ct9), sl9⟩) (c9 : PySem.W.codeIn K cd9 "moves_of_ring" = true) (k9 : PySem.W.keepIn K (.ref f9) = true)
    {oc10 kV10 dc10 pm10 cd10 ct10 : Value} {od10 an10 : Option Addr} {sl10 : Array (Option Value)}
    (a10 : PySem.W.nsIn K mainGlobals "ring_moves" = some (some (.ref f10)))
    (l10 : K.lookup f10 = some ⟨oc10, od10, .func (PySem.W.fnOf "ring_moves" "ring_moves" (defArgs s_ring_moves) (defBody s_ring_moves) (defScope s_ring_moves) .none kV10 dc10 pm10 an10 cd10 ct10), sl10⟩) (c10 : PySem.W.codeIn K cd10 "ring_moves" = true) (k10 : PySem.W.keepIn K (.ref f10) = true)
    {oc11 kV11 dc11 pm11 cd11 ct11 : Value} {od11 an11 : Option Addr} {sl11 : Array (Option Value)}
    (a11 : PySem.W.findIn K (.ref c_RingWalk) "__init__" = some (some (.ref f11))) (i11 : PySem.W.isFn K (.ref f11) = true)
    (l11 : K.lookup f11 = some ⟨oc11, od11, .func (PySem.W.fnOf "__init__" "RingWalk.__init__" (defArgs s_RingWalk___init__) (defBody s_RingWalk___init__) (defScope s_RingWalk___init__) .none kV11 dc11 pm11 an11 cd11 ct11), sl11⟩) (c11 : PySem.W.codeIn K cd11 "RingWalk.__init__" = true) (k11 : PySem.W.keepIn K (.ref f11) = true)
    {oc12 kV12 dc12 pm12 cd12 ct12 : Value} {od12 an12 : Option Addr} {sl12 : Array (Option Value)}
    (a12 : PySem.W.findIn K (.ref c_RingWalk) "step" = some (some (.ref f12))) (i12 : PySem.W.isFn K (.ref f12) = true)
    (l12 : K.lookup f12 = some ⟨oc12, od12, .func (PySem.W.fnOf "step" "RingWalk.step" (defArgs s_RingWalk_step) (defBody s_RingWalk_step) (defScope s_RingWalk_step) .none kV12 dc12 pm12 an12 cd12 ct12), sl12⟩) (c12 : PySem.W.codeIn K cd12 "RingWalk.step" = true) (k12 : PySem.W.keepIn K (.ref f12) = true)
    {oc13 kV13 dc13 pm13 cd13 ct13 : Value} {od13 an13 : Option Addr} {sl13 : Array (Option Value)}
    (a13 : PySem.W.findIn K (.ref c_RingWalk) "row" = some (some (.ref f13))) (i13 : PySem.W.isFn K (.ref f13) = true)
    (l13 : K.lookup f13 = some ⟨oc13, od13, .func (PySem.W.fnOf "row" "RingWalk.row" (defArgs s_RingWalk_row) (defBody s_RingWalk_row) (defScope s_RingWalk_row) .none kV13 dc13 pm13 an13 cd13 ct13), sl13⟩) (c13 : PySem.W.codeIn K cd13 "RingWalk.row" = true) (k13 : PySem.W.keepIn K (.ref f13) = true)
    {oc14 kV14 dc14 pm14 cd14 ct14 : Value} {od14 an14 : Option Addr} {sl14 : Array (Option Value)}
    (a14 : PySem.W.findIn K (.ref c_RingWalk) "hand" = some (some (.ref f14))) (i14 : PySem.W.isFn K (.ref f14) = true)
    (l14 : K.lookup f14 = some ⟨oc14, od14, .func (PySem.W.fnOf "hand" "RingWalk.hand" (defArgs s_RingWalk_hand) (defBody s_RingWalk_hand) (defScope s_RingWalk_hand) .none kV14 dc14 pm14 an14 cd14 ct14), sl14⟩) (c14 : PySem.W.codeIn K cd14 "RingWalk.hand" = true) (k14 : PySem.W.keepIn K (.ref f14) = true)
    {oc15 kV15 dc15 pm15 cd15 ct15 : Value} {od15 an15 : Option Addr} {sl15 : Array (Option Value)}
    (a15 : PySem.W.findIn K (.ref c_RingWalk) "left" = some (some (.ref f15))) (i15 : PySem.W.isFn K (.ref f15) = true)
    (l15 : K.lookup f15 = some ⟨oc15, od15, .func (PySem.W.fnOf "left" "RingWalk.left" (defArgs s_RingWalk_left) (defBody s_RingWalk_left) (defScope s_RingWalk_left) .none kV15 dc15 pm15 an15 cd15 ct15), sl15⟩) (c15 : PySem.W.codeIn K cd15 "RingWalk.left" = true) (k15 : PySem.W.keepIn K (.ref f15) = true)
    {oc16 kV16 dc16 pm16 cd16 ct16 : Value} {od16 an16 : Option Addr} {sl16 : Array (Option Value)}
    (a16 : PySem.W.nsIn K mainGlobals "_law_tape" = some (some (.ref f16)))
    (l16 : K.lookup f16 = some ⟨oc16, od16, .func (PySem.W.fnOf "_law_tape" "_law_tape" (defArgs s_tape) (defBody s_tape) (defScope s_tape) .none kV16 dc16 pm16 an16 cd16 ct16), sl16⟩) (c16 : PySem.W.codeIn K cd16 "_law_tape" = true) (k16 : PySem.W.keepIn K (.ref f16) = true)
    {oc17 kV17 dc17 pm17 cd17 ct17 : Value} {od17 an17 : Option Addr} {sl17 : Array (Option Value)}
    (a17 : PySem.W.nsIn K mainGlobals "_law_draw" = some (some (.ref f17)))
    (l17 : K.lookup f17 = some ⟨oc17, od17, .func (PySem.W.fnOf "_law_draw" "_law_draw" (defArgs s_draw) (defBody s_draw) (defScope s_draw) .none kV17 dc17 pm17 an17 cd17 ct17), sl17⟩) (c17 : PySem.W.codeIn K cd17 "_law_draw" = true) (k17 : PySem.W.keepIn K (.ref f17) = true)
    {oc18 kV18 dc18 pm18 cd18 ct18 : Value} {od18 an18 : Option Addr} {sl18 : Array (Option Value)}
    (a18 : PySem.W.nsIn K mainGlobals "_law_many" = some (some (.ref f18)))
    (l18 : K.lookup f18 = some ⟨oc18, od18, .func (PySem.W.fnOf "_law_many" "_law_many" (defArgs s_many) (defBody s_many) (defScope s_many) .none kV18 dc18 pm18 an18 cd18 ct18), sl18⟩) (c18 : PySem.W.codeIn K cd18 "_law_many" = true) (k18 : PySem.W.keepIn K (.ref f18) = true)
    {oc19 kV19 dc19 pm19 cd19 ct19 : Value} {od19 an19 : Option Addr} {sl19 : Array (Option Value)}
    (a19 : PySem.W.nsIn K mainGlobals "_law_base" = some (some (.ref f19)))
    (l19 : K.lookup f19 = some ⟨oc19, od19, .func (PySem.W.fnOf "_law_base" "_law_base" (defArgs s_base) (defBody s_base) (defScope s_base) .none kV19 dc19 pm19 an19 cd19 ct19), sl19⟩) (c19 : PySem.W.codeIn K cd19 "_law_base" = true) (k19 : PySem.W.keepIn K (.ref f19) = true)
    {oc20 kV20 dc20 pm20 cd20 ct20 : Value} {od20 an20 : Option Addr} {sl20 : Array (Option Value)}
    (a20 : PySem.W.nsIn K mainGlobals "_law_rows" = some (some (.ref f20)))
    (l20 : K.lookup f20 = some ⟨oc20, od20, .func (PySem.W.fnOf "_law_rows" "_law_rows" (defArgs s_rows) (defBody s_rows) (defScope s_rows) .none kV20 dc20 pm20 an20 cd20 ct20), sl20⟩) (c20 : PySem.W.codeIn K cd20 "_law_rows" = true) (k20 : PySem.W.keepIn K (.ref f20) = true)
    {oc21 kV21 dc21 pm21 cd21 ct21 : Value} {od21 an21 : Option Addr} {sl21 : Array (Option Value)}
    (a21 : PySem.W.nsIn K mainGlobals "_law_same" = some (some (.ref f21)))
    (l21 : K.lookup f21 = some ⟨oc21, od21, .func (PySem.W.fnOf "_law_same" "_law_same" (defArgs s_same) (defBody s_same) (defScope s_same) .none kV21 dc21 pm21 an21 cd21 ct21), sl21⟩) (c21 : PySem.W.codeIn K cd21 "_law_same" = true) (k21 : PySem.W.keepIn K (.ref f21) = true)
    {oc22 kV22 dc22 pm22 cd22 ct22 : Value} {od22 an22 : Option Addr} {sl22 : Array (Option Value)}
    (a22 : PySem.W.nsIn K mainGlobals "_law_some_order" = some (some (.ref f22)))
    (l22 : K.lookup f22 = some ⟨oc22, od22, .func (PySem.W.fnOf "_law_some_order" "_law_some_order" (defArgs s_some_order) (defBody s_some_order) (defScope s_some_order) .none kV22 dc22 pm22 an22 cd22 ct22), sl22⟩) (c22 : PySem.W.codeIn K cd22 "_law_some_order" = true) (k22 : PySem.W.keepIn K (.ref f22) = true)
    {oc23 kV23 dc23 pm23 cd23 ct23 : Value} {od23 an23 : Option Addr} {sl23 : Array (Option Value)}
    (a23 : PySem.W.nsIn K mainGlobals "_law_walked" = some (some (.ref f23)))
    (l23 : K.lookup f23 = some ⟨oc23, od23, .func (PySem.W.fnOf "_law_walked" "_law_walked" (defArgs s_walked) (defBody s_walked) (defScope s_walked) .none kV23 dc23 pm23 an23 cd23 ct23), sl23⟩) (c23 : PySem.W.codeIn K cd23 "_law_walked" = true) (k23 : PySem.W.keepIn K (.ref f23) = true)
    {oc24 kV24 dc24 pm24 cd24 ct24 : Value} {od24 an24 : Option Addr} {sl24 : Array (Option Value)}
    (a24 : PySem.W.nsIn K mainGlobals "_law_turned" = some (some (.ref f24)))
    (l24 : K.lookup f24 = some ⟨oc24, od24, .func (PySem.W.fnOf "_law_turned" "_law_turned" (defArgs s_turned) (defBody s_turned) (defScope s_turned) .none kV24 dc24 pm24 an24 cd24 ct24), sl24⟩) (c24 : PySem.W.codeIn K cd24 "_law_turned" = true) (k24 : PySem.W.keepIn K (.ref f24) = true)
    {oc25 kV25 dc25 pm25 cd25 ct25 : Value} {od25 an25 : Option Addr} {sl25 : Array (Option Value)}
    (a25 : PySem.W.nsIn K mainGlobals "law" = some (some (.ref f25)))
    (l25 : K.lookup f25 = some ⟨oc25, od25, .func (PySem.W.fnOf "law" "law" (defArgs s_law) (defBody s_law) (defScope s_law) .none kV25 dc25 pm25 an25 cd25 ct25), sl25⟩) (c25 : PySem.W.codeIn K cd25 "law" = true) (k25 : PySem.W.keepIn K (.ref f25) = true)
    (z_abs : PySem.W.nsIn K mainGlobals "abs" = some none)
    (z_all : PySem.W.nsIn K mainGlobals "all" = some none)
    (z_bool : PySem.W.nsIn K mainGlobals "bool" = some none)
    (z_enumerate : PySem.W.nsIn K mainGlobals "enumerate" = some none)
    (z_int : PySem.W.nsIn K mainGlobals "int" = some none)
    (z_isinstance : PySem.W.nsIn K mainGlobals "isinstance" = some none)
    (z_len : PySem.W.nsIn K mainGlobals "len" = some none)
    (z_list : PySem.W.nsIn K mainGlobals "list" = some none)
    (z_min : PySem.W.nsIn K mainGlobals "min" = some none)
    (z_range : PySem.W.nsIn K mainGlobals "range" = some none)
    (z_sorted : PySem.W.nsIn K mainGlobals "sorted" = some none)
    (z_str : PySem.W.nsIn K mainGlobals "str" = some none)
    (z_sum : PySem.W.nsIn K mainGlobals "sum" = some none)
    (z_tuple : PySem.W.nsIn K mainGlobals "tuple" = some none)
    (z_zip : PySem.W.nsIn K mainGlobals "zip" = some none)
    {cc pt : Addr} (hcc : cd8 = .ref cc) (hchd : PySem.W.codeHdIn K cc pt = true)
    (ac_RingWalk : PySem.W.nsIn K mainGlobals "RingWalk" = some (some (.ref c_RingWalk)))
    (pg_RingWalk : PySem.W.plainGet K c_RingWalk Str.empty = true)
    (hd_RingWalk : PySem.W.hasDictIn K c_RingWalk = true)
    (po_RingWalk : PySem.W.plainOver K c_RingWalk = true)
    (sa_RingWalk : PySem.W.findIn K (.ref c_RingWalk) "__setattr__" = some (some (.builtin "object.__setattr__")))
    (mk_RingWalk : PySem.W.makesIn K c_RingWalk = true)
    (kc_RingWalk : PySem.W.keepIn K (.ref c_RingWalk) = true)
    (n_RingWalk_things : PySem.W.findIn K (.ref c_RingWalk) "things" = some none)
    (n_RingWalk_held : PySem.W.findIn K (.ref c_RingWalk) "held" = some none)
    (n_RingWalk_plan : PySem.W.findIn K (.ref c_RingWalk) "plan" = some none)
    (n_RingWalk_done : PySem.W.findIn K (.ref c_RingWalk) "done" = some none) :
    ∃ fd : FuncData, (∃ c, PySem.W.codeHdIn K c pt = true) ∧ (∀ (s : Shared) (v : Value), BindsTo s fd ⟨[v], []⟩ [("_law_script", v)]) ∧ ∀ base : Heap, K.In base → base.Ns mainGlobals mg → base.BuiltinsAt mg pt → FnOk l.prog w K mg base CX0 6 fa fd ["_law_script"] (spLaw K pt) := by
  have e := hfa.symm.trans (PySem.W.mg_of X G a25)
  cases e
  have F0 := fun_mk (st := s__wall) l0 c0 k0
  have b0 := F0.binds (ps := ["k"]) fun _ _ _ _ _ _ => mat1 (fun _ => rfl)
  have F1 := fun_mk (st := s_is_order) l1 c1 k1
  have b1 := F1.binds (ps := ["thing"]) fun _ _ _ _ _ _ => mat1 (fun _ => rfl)
  have F2 := fun_mk (st := s_check_order) l2 c2 k2
  have b2 := F2.binds (ps := ["thing", "many"]) fun _ _ _ _ _ _ => mat2 (fun _ _ => rfl)
  have F3 := fun_mk (st := s_own_copy) l3 c3 k3
  have b3 := F3.binds (ps := ["thing"]) fun _ _ _ _ _ _ => mat1 (fun _ => rfl)
  have F4 := fun_mk (st := s_put) l4 c4 k4
  have b4 := F4.binds (ps := ["things", "order"]) fun _ _ _ _ _ _ => mat2 (fun _ _ => rfl)
  have F5 := fun_mk (st := s_back_of) l5 c5 k5
  have b5 := F5.binds (ps := ["order"]) fun _ _ _ _ _ _ => mat1 (fun _ => rfl)
  have F6 := fun_mk (st := s_after) l6 c6 k6
  have b6 := F6.binds (ps := ["one", "other"]) fun _ _ _ _ _ _ => mat2 (fun _ _ => rfl)
  have F7 := fun_mk (st := s_rings) l7 c7 k7
  have b7 := F7.binds (ps := ["order"]) fun _ _ _ _ _ _ => mat1 (fun _ => rfl)
  have F8 := fun_mk (st := s_told_order) l8 c8 k8
  have b8 := F8.binds (ps := ["rows"]) fun _ _ _ _ _ _ => mat1 (fun _ => rfl)
  have F9 := fun_mk (st := s_moves_of_ring) l9 c9 k9
  have b9 := F9.binds (ps := ["ring"]) fun _ _ _ _ _ _ => mat1 (fun _ => rfl)
  have F10 := fun_mk (st := s_ring_moves) l10 c10 k10
  have b10 := F10.binds (ps := ["order"]) fun _ _ _ _ _ _ => mat1 (fun _ => rfl)
  have F11 := fun_mk (st := s_RingWalk___init__) l11 c11 k11
  have b11 := F11.binds (ps := ["self", "things", "order"]) fun _ _ _ _ _ _ => mat3 (fun _ _ _ => rfl)
  have F12 := fun_mk (st := s_RingWalk_step) l12 c12 k12
  have b12 := F12.binds (ps := ["self"]) fun _ _ _ _ _ _ => mat1 (fun _ => rfl)
  have F13 := fun_mk (st := s_RingWalk_row) l13 c13 k13
  have b13 := F13.binds (ps := ["self"]) fun _ _ _ _ _ _ => mat1 (fun _ => rfl)
  have F14 := fun_mk (st := s_RingWalk_hand) l14 c14 k14
  have b14 := F14.binds (ps := ["self"]) fun _ _ _ _ _ _ => mat1 (fun _ => rfl)
  have F15 := fun_mk (st := s_RingWalk_left) l15 c15 k15
  have b15 := F15.binds (ps := ["self"]) fun _ _ _ _ _ _ => mat1 (fun _ => rfl)
  have F16 := fun_mk (st := s_tape) l16 c16 k16
  have b16 := F16.binds (ps := ["_law_script", "_law_k"]) fun _ _ _ _ _ _ => mat2 (fun _ _ => rfl)
  have F17 := fun_mk (st := s_draw) l17 c17 k17
  have b17 := F17.binds (ps := ["_law_tape_here", "_law_many_here"]) fun _ _ _ _ _ _ => mat2 (fun _ _ => rfl)
  have F18 := fun_mk (st := s_many) l18 c18 k18
  have b18 := F18.binds (ps := ["_law_tape_here", "_law_k"]) fun _ _ _ _ _ _ => mat2 (fun _ _ => rfl)
  have F19 := fun_mk (st := s_base) l19 c19 k19
  have b19 := F19.binds (ps := ["_law_tape_here"]) fun _ _ _ _ _ _ => mat1 (fun _ => rfl)
  have F20 := fun_mk (st := s_rows) l20 c20 k20
  have b20 := F20.binds (ps := ["_law_tape_here", "_law_many_here", "_law_base_here", "_law_wide"]) fun _ _ _ _ _ _ => mat4 (fun _ _ _ _ => rfl)
  have F21 := fun_mk (st := s_same) l21 c21 k21
  have b21 := F21.binds (ps := ["_law_found", "_law_due"]) fun _ _ _ _ _ _ => mat2 (fun _ _ => rfl)
  have F22 := fun_mk (st := s_some_order) l22 c22 k22
  have b22 := F22.binds (ps := ["_law_tape_here", "_law_many_here"]) fun _ _ _ _ _ _ => mat2 (fun _ _ => rfl)
  have F23 := fun_mk (st := s_walked) l23 c23 k23
  have b23 := F23.binds (ps := ["_law_things", "_law_order"]) fun _ _ _ _ _ _ => mat2 (fun _ _ => rfl)
  have F24 := fun_mk (st := s_turned) l24 c24 k24
  have b24 := F24.binds (ps := ["_law_ring"]) fun _ _ _ _ _ _ => mat1 (fun _ => rfl)
  have F25 := fun_mk (st := s_law) l25 c25 k25
  have b25 := F25.binds (ps := ["_law_script"]) fun _ _ _ _ _ _ => mat1 (fun _ => rfl)
  have TT : ∀ base : Heap, base.BuiltinsAt mg pt → Tx K mg ⟨_, _, _, _, _, _, _, _, _, _, _, _, _, _, _, _, _, _, _, _, _, _, _, _, _, _, _, _, _, _, _, _, _, _, _, _, _, _, _, _, _, _, _, _, _, _, _, _, _, _, _, _, cc, pt, base, _⟩ := fun base hba => ⟨PySem.W.mg_of X G a0, F0, b0, PySem.W.mg_of X G a1, F1, b1, PySem.W.mg_of X G a2, F2, b2, PySem.W.mg_of X G a3, F3, b3, PySem.W.mg_of X G a4, F4, b4, PySem.W.mg_of X G a5, F5, b5, PySem.W.mg_of X G a6, F6, b6, PySem.W.mg_of X G a7, F7, b7, PySem.W.mg_of X G a8, F8, b8, PySem.W.mg_of X G a9, F9, b9, PySem.W.mg_of X G a10, F10, b10, ⟨mk_RingWalk, a11, i11, kc_RingWalk⟩, F11, b11, ⟨a12, i12, k12⟩, F12, b12, ⟨a13, i13, k13⟩, F13, b13, ⟨a14, i14, k14⟩, F14, b14, ⟨a15, i15, k15⟩, F15, b15, PySem.W.mg_of X G a16, F16, b16, PySem.W.mg_of X G a17, F17, b17, PySem.W.mg_of X G a18, F18, b18, PySem.W.mg_of X G a19, F19, b19, PySem.W.mg_of X G a20, F20, b20, PySem.W.mg_of X G a21, F21, b21, PySem.W.mg_of X G a22, F22, b22, PySem.W.mg_of X G a23, F23, b23, PySem.W.mg_of X G a24, F24, b24, PySem.W.mg_of X G a25, F25, b25, PySem.W.mg_none_of X G z_abs, PySem.W.mg_none_of X G z_all, PySem.W.mg_none_of X G z_bool, PySem.W.mg_none_of X G z_enumerate, PySem.W.mg_none_of X G z_int, PySem.W.mg_none_of X G z_isinstance, PySem.W.mg_none_of X G z_len, PySem.W.mg_none_of X G z_list, PySem.W.mg_none_of X G z_min, PySem.W.mg_none_of X G z_range, PySem.W.mg_none_of X G z_sorted, PySem.W.mg_none_of X G z_str, PySem.W.mg_none_of X G z_sum, PySem.W.mg_none_of X G z_tuple, PySem.W.mg_none_of X G z_zip, hcc, hchd, hba, PySem.W.mg_of X G ac_RingWalk, ⟨pg_RingWalk, hd_RingWalk, po_RingWalk, sa_RingWalk⟩, n_RingWalk_things, n_RingWalk_held, n_RingWalk_plan, n_RingWalk_done⟩
  exact ⟨_, ⟨_, hchd⟩, fun s v => .of_eq rfl, fun base _ _ hba => ok_law (TT base hba)⟩
theorem walk {l : PySem.W.OpenLaw} {q : Program} {loose : List Str} {XP : (Str → Option Value) → Heap → Prop} {YP : World → Heap → Prop} {d : DefRec} {K : Params → PySem.W.Frag} {pt : Addr} (hn : l.most = some 63) (hdf : d.params.defaults = [])
    (hY : ∀ (w : World) (h : Heap), YP w h → (K w.params).In h)
    (hYT : ∀ (w : World) (h : Heap), YP w h → h.get? pt = some (PySem.W.tabObj #[])) (hnt : ∀ w : World, PySem.W.noTabs (K w.params) = true)
    (F : ∀ (w : World) (mg : Str → Option Value) (fa : Addr) (h : Heap), (K w.params).In h → h.Ns mainGlobals mg → mg d.name = some (.ref fa) →
      ∃ fd : FuncData, (∃ c, PySem.W.codeHdIn (K w.params) c pt = true) ∧ (∀ (s : Shared) (u : Value), BindsTo s fd ⟨[u], []⟩ [("_law_script", u)]) ∧ ∀ base : Heap, (K w.params).In base → base.Ns mainGlobals mg → base.BuiltinsAt mg pt → FnOk l.prog w (K w.params) mg base CX0 6 fa fd ["_law_script"] (spLaw (K w.params) pt)) :
    PySem.W.WalkO q loose XP YP l.row.toRowW d [] (fun f vs => PySem.call f vs) :=
  L2.walk_ofT (n := 63) (k := 6) (x := "_law_script") (CX := fun _ => CX0) (sp := fun w pt => spLaw (K w.params) pt) hn (by decide) hdf ⟨rfl, by decide, by decide, rfl⟩ hY hYT hnt F (fun _ _ a ns hl hP hS => ⟨a, ns, rfl, hS, hl, .inl hP, fun _ => rfl⟩) fun _ _ _ _ _ z => z
end Fs
open PySem PySem.W PyProof.Rows
set_option maxRecDepth 100000 in
set_option maxHeartbeats 0 in
theorem PySem.Challenge.cw_figuresort_k61_whole_there_and_back_holds : PySem.Challenge.rw_figuresort_k61_whole_there_and_back.Holds := by
  w_on; o_law; k_head; (case hw => w_witness2)
  k_fill
  refine' Fs.walk (l := PySem.Challenge.rw_figuresort_k61_whole_there_and_back) (pt := ?pt) rfl rfl (fun w h Y => PySem.W.km_in_of Y) (fun w h Y => PySem.W.km_tabs_of Y _ (List.Mem.head _)) ?nt ?F
  case F =>
    intro w mg fa h KX G hmg
    refine' Fs.all_mk KX G hmg ?a0 ?l0 ?c0 ?k0 ?a1 ?l1 ?c1 ?k1 ?a2 ?l2 ?c2 ?k2 ?a3 ?l3 ?c3 ?k3 ?a4 ?l4 ?c4 ?k4 ?a5 ?l5 ?c5 ?k5 ?a6 ?l6 ?c6 ?k6 ?a7 ?l7 ?c7 ?k7 ?a8 ?l8 ?c8 ?k8 ?a9 ?l9 ?c9 ?k9 ?a10 ?l10 ?c10 ?k10 ?a11 ?i11 ?l11 ?c11 ?k11 ?a12 ?i12 ?l12 ?c12 ?k12 ?a13 ?i13 ?l13 ?c13 ?k13 ?a14 ?i14 ?l14 ?c14 ?k14 ?a15 ?i15 ?l15 ?c15 ?k15 ?a16 ?l16 ?c16 ?k16 ?a17 ?l17 ?c17 ?k17 ?a18 ?l18 ?c18 ?k18 ?a19 ?l19 ?c19 ?k19 ?a20 ?l20 ?c20 ?k20 ?a21 ?l21 ?c21 ?k21 ?a22 ?l22 ?c22 ?k22 ?a23 ?l23 ?c23 ?k23 ?a24 ?l24 ?c24 ?k24 ?a25 ?l25 ?c25 ?k25 ?z_abs ?z_all ?z_bool ?z_enumerate ?z_int ?z_isinstance ?z_len ?z_list ?z_min ?z_range ?z_sorted ?z_str ?z_sum ?z_tuple ?z_zip ?hcc ?hchd ?ac_RingWalk ?pg_RingWalk ?hd_RingWalk ?po_RingWalk ?sa_RingWalk ?mk_RingWalk ?kc_RingWalk ?n_RingWalk_things ?n_RingWalk_held ?n_RingWalk_plan ?n_RingWalk_done
    (case ac_RingWalk => k_is)
    (case a0 => k_is)
    (case l0 => k_is)
    (case c0 => k_is)
    (case k0 => k_is)
    (case a1 => k_is)
    (case l1 => k_is)
    (case c1 => k_is)
    (case k1 => k_is)
    (case a2 => k_is)
    (case l2 => k_is)
    (case c2 => k_is)
    (case k2 => k_is)
    (case a3 => k_is)
    (case l3 => k_is)
    (case c3 => k_is)
    (case k3 => k_is)
    (case a4 => k_is)
    (case l4 => k_is)
    (case c4 => k_is)
    (case k4 => k_is)
    (case a5 => k_is)
    (case l5 => k_is)
    (case c5 => k_is)
    (case k5 => k_is)
    (case a6 => k_is)
    (case l6 => k_is)
    (case c6 => k_is)
    (case k6 => k_is)
    (case a7 => k_is)
    (case l7 => k_is)
    (case c7 => k_is)
    (case k7 => k_is)
    (case a8 => k_is)
    (case l8 => k_is)
    (case c8 => k_is)
    (case k8 => k_is)
    (case a9 => k_is)
    (case l9 => k_is)
    (case c9 => k_is)
    (case k9 => k_is)
    (case a10 => k_is)
    (case l10 => k_is)
    (case c10 => k_is)
    (case k10 => k_is)
    (case a11 => k_is)
    (case i11 => k_is)
    (case l11 => k_is)
    (case c11 => k_is)
    (case k11 => k_is)
    (case a12 => k_is)
    (case i12 => k_is)
    (case l12 => k_is)
    (case c12 => k_is)
    (case k12 => k_is)
    (case a13 => k_is)
    (case i13 => k_is)
    (case l13 => k_is)
    (case c13 => k_is)
    (case k13 => k_is)
    (case a14 => k_is)
    (case i14 => k_is)
    (case l14 => k_is)
    (case c14 => k_is)
    (case k14 => k_is)
    (case a15 => k_is)
    (case i15 => k_is)
    (case l15 => k_is)
    (case c15 => k_is)
    (case k15 => k_is)
    (case a16 => k_is)
    (case l16 => k_is)
    (case c16 => k_is)
    (case k16 => k_is)
    (case a17 => k_is)
    (case l17 => k_is)
    (case c17 => k_is)
    (case k17 => k_is)
    (case a18 => k_is)
    (case l18 => k_is)
    (case c18 => k_is)
    (case k18 => k_is)
    (case a19 => k_is)
    (case l19 => k_is)
    (case c19 => k_is)
    (case k19 => k_is)
    (case a20 => k_is)
    (case l20 => k_is)
    (case c20 => k_is)
    (case k20 => k_is)
    (case a21 => k_is)
    (case l21 => k_is)
    (case c21 => k_is)
    (case k21 => k_is)
    (case a22 => k_is)
    (case l22 => k_is)
    (case c22 => k_is)
    (case k22 => k_is)
    (case a23 => k_is)
    (case l23 => k_is)
    (case c23 => k_is)
    (case k23 => k_is)
    (case a24 => k_is)
    (case l24 => k_is)
    (case c24 => k_is)
    (case k24 => k_is)
    (case a25 => k_is)
    (case l25 => k_is)
    (case c25 => k_is)
    (case k25 => k_is)
    (case z_abs => k_is)
    (case z_all => k_is)
    (case z_bool => k_is)
    (case z_enumerate => k_is)
    (case z_int => k_is)
    (case z_isinstance => k_is)
    (case z_len => k_is)
    (case z_list => k_is)
    (case z_min => k_is)
    (case z_range => k_is)
    (case z_sorted => k_is)
    (case z_str => k_is)
    (case z_sum => k_is)
    (case z_tuple => k_is)
    (case z_zip => k_is)
    (case pg_RingWalk => k_is)
    (case hd_RingWalk => k_is)
    (case po_RingWalk => k_is)
    (case sa_RingWalk => k_is)
    (case mk_RingWalk => k_is)
    (case kc_RingWalk => k_is)
    (case n_RingWalk_things => k_is)
    (case n_RingWalk_held => k_is)
    (case n_RingWalk_plan => k_is)
    (case n_RingWalk_done => k_is)
    (case hcc => exact rfl)
    (case hchd => kernel_rfl)
  case nt =>
    intro w
    kernel_rfl

